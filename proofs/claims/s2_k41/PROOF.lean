import PyProof.Rows.All
import Wide.All
import OpenK.AllK
import Wide.FinOn
import Lean
import PyProof.EqAt
import PyProof.EqKinds
import PyProof.TupleCall
import PyProof.NeKinds
import KE.BitLaws
import PyProof.SumWalkG
import PyProof.ConsumeWalk
import PyProof.WalksMore
import KE.KSortedM
import PyProof.Rows.SetFrom
import PyProof.CompUse
import PyProof.ZipIter
import PyProof.EnumMake
import KE.KSortTup
import PyProof.Draws
import PyProof.ListRange
import PyProof.SliceList
import PyProof.DictIter
import PyProof.Rows.DictUnroll
import KE.KDictSum
import PyProof.DictRoadsH
import PyProof.DictKinds
import PyProof.NsDelKeeps
import PyProof.ExcBaseAll.ValueError
import PyProof.ExcAttrAll.ValueError
import PySem.Challenge.RW_sharesample_k41_moved_guesses
set_option bootstrap.genMatcherCode false
set_option genSizeOf false
set_option genSizeOfSpec false
set_option Elab.async false
set_option linter.all false
set_option maxRecDepth 100000
local macro_rules | `(tactic| left) => `(tactic| first | assumption | exact Nat.zero_le _ | exact Int.natCast_nonneg _ | exact Int.ofNat_lt.mpr (by assumption) | exact Nat.le_of_lt (by assumption) | exact Nat.le_trans (by assumption) (by assumption) | exact Nat.lt_of_lt_of_le (by assumption) (by assumption) | omega)
noncomputable section
abbrev aah:=@PySem.wpAny_bind
abbrev aak:=@of_decide_eq_true
abbrev aal:=@Bool.false_ne_true
abbrev aam:=@List.mem_cons_of_mem
abbrev aan:=@Nat.lt_of_lt_of_le
abbrev aao:=@List.mem_cons_self
abbrev aap:=@PySem.Heap.lt_size
abbrev aaq:=@PySem.wpAny_pure
abbrev aar:=@PySem.Heap.get?_push_of_some
abbrev aas:=@Nat.le_refl
abbrev aat:=@Nat.ne_of_lt
abbrev aau:=@Nat.pow_le_pow_right
abbrev aav:=@List.mem_append_right
abbrev aaw:=@PySem.Heap.get?_push_size
abbrev aax:=@Nat.lt_of_le_of_lt
abbrev aay:=@List.getElem?_eq_getElem
abbrev aaz:=@List.map_congr_left
abbrev aaA:=@Option.some.inj
abbrev aaB:=@List.mem_of_getElem?
abbrev aaC:=@PySem.wpAny_mono
abbrev aaD:=@Nat.ne_of_gt
abbrev aaE:=@PySem.W.mg_none_of
abbrev aaF:=@Nat.lt_irrefl
abbrev aaG:=@List.mem_append_left
abbrev aaH:=@PyProof.Rows.callWith_type1
abbrev aaI:=@Nat.le_trans
abbrev aaL:=@List.mem_map_of_mem
abbrev aaM:=@Nat.lt_succ_of_lt
abbrev aaN:=@List.of_mem_zip
abbrev aaO:=@PySem.wpAny_holding
abbrev aaP:=@Nat.zero_le
abbrev aaQ:=@PySem.Heap.get?_update_other
abbrev aaR:=@Nat.mul_le_mul_left
abbrev aaS:=@congrArg
abbrev aaT:=@decide_eq_true
abbrev aaV:=@Nat.mul_le_mul_right
abbrev aaW:=@PySem.F.slot_dict_keyiterator_next
abbrev aaX:=@decide_eq_false
abbrev aaY:=@PySem.W.mg_of
abbrev aaZ:=@PySem.wpAny_truthy_bool
abbrev aa0:=@PySem.wpAny_loadPart_at
abbrev aa1:=@PySem.wpAny_typeNameOfWhole_keyiter
abbrev aa2:=@PySem.mem_of_lookup
abbrev aa3:=@if_pos
abbrev aa4:=@List.mergeSort_perm
abbrev aa5:=@PySem.wpAny_call_entry
abbrev aa6:=@Nat.mul_le_mul
abbrev aa7:=@PySem.wpAny_Call_Name_kw
abbrev aa8:=@PySem.wpAny_passesOwn
abbrev aa9:=@PySem.W.kia_one
abbrev aa_:=@PySem.Heap.get?_update_self
abbrev aba:=@Array.getElem?_eq_getElem
abbrev abb:=@Nat.lt_succ_self
abbrev abc:=@PySem.wpAny_typeNameOf_keyiter
abbrev abd:=@Int.mul_fdiv_cancel_left
abbrev abe:=@PySem.wpAny_callSpecial?_slot
abbrev abf:=@PySem.SeqAt.EqAt.same
abbrev abg:=@PySem.codeAny_builtin
abbrev abh:=@List.length_map
abbrev abi:=@PySem.sizeLine_eq
abbrev abj:=@PySem.wpAny_newObj_type
abbrev abl:=@PySem.F.slot_zip_next
abbrev abm:=@List.take_append_drop
abbrev abn:=@PySem.Calls.Name_function_global
abbrev abo:=@Nat.le_of_dvd
abbrev abp:=@Nat.mul_pos
abbrev abq:=@PySem.wpAny_execs_nil
abbrev abr:=@Int.mul_ne_zero
abbrev abt:=@PySem.SeqAt.EqAt.int_int
abbrev abu:=@Nat.lt_trans
abbrev abv:=@Ne.symm
abbrev abw:=@PySem.call_meets
abbrev abx:=@List.nodup_nil
abbrev aby:=@PyProof.Rows.subscriptTail_builtinR
abbrev abD:=@PySem.Calls.callWith_builtin
abbrev abE:=@Nat.le_succ
abbrev abF:=@PySem.wpAny_field
abbrev abG:=@PySem.wpAny_nextOf_list_item
abbrev abH:=@Nat.le_mul_of_pos_left
abbrev abI:=@Int.fmod_nonneg_of_pos
abbrev abJ:=@List.cons.inj
abbrev abK:=@beq_self_eq_true
abbrev abL:=@List.getElem_mem
abbrev abM:=@List.ext_getElem
abbrev abN:=@PySem.F.slot_tuple_lt
abbrev abT:=@PySem.F.typeOf_object_class
abbrev abU:=@Nat.le_of_lt
abbrev abV:=@PySem.codeAny_mono
abbrev abW:=@PySem.SeqAt.EqAt.none_bool
abbrev abX:=@PySem.SeqAt.EqAt.bool_none
abbrev abY:=@PySem.SeqAt.EqAt.bool_bool
abbrev ab0:=@PySem.Calls.evalArgs_plain
abbrev ab1:=@PySem.codeAny_call_builtin
abbrev ab3:=@PySem.wpAny_updateSeq
abbrev ab4:=@Nat.div_le_self
abbrev ab5:=@PySem.SeqAt.EqAt.none_int
abbrev ab6:=@PySem.SeqAt.EqAt.bool_int
abbrev ab7:=@PySem.SeqAt.EqAt.int_none
abbrev ab8:=@PySem.SeqAt.EqAt.int_bool
abbrev ab9:=@Eq.symm
abbrev ab_:=@PySem.Calls.spliced_cons
abbrev aca:=@PySem.Code.quiet_builtin
abbrev acb:=@PySem.tupleKind_room_in1
abbrev acd:=@Int.fmod_lt_of_pos
abbrev ace:=@PySem.wpAny_standAt
abbrev acf:=@PySem.wpAny_newList
abbrev acg:=@PySem.wpAny_attempt
abbrev ach:=@PySem.Calls.spliced_nil
abbrev aci:=@Nat.le_succ_of_le
abbrev acj:=@List.ext_getElem?
abbrev ack:=@PySem.wpAny_dictEntries
abbrev acm:=@List.getElem_inj
abbrev aco:=@if_neg
namespace L2
open PySem PySem.Spec PyProof.Rows
noncomputable abbrev Key:=Sum Int Str
def J4:Key->Value->Bool
 | .inl k,v=>Value.isInt k v
 | .inr x,v=>Value.isStrOf x v
def Wa(w:World):Key->Int
 | .inl k=>hashInt k
 | .inr x=>hashStr w x
theorem bK:∀ {k:Key} {v:Value},J4 k v=true->(∃ i t,k=Sum.inl i/\v=Value.int i t)\/(∃ x t,k=Sum.inr x/\v=Value.str x t)
 | .inl i,v,h=>by
  obtain⟨t,e⟩:=Value.isInt_shape (k:=i) (v:=v) h;exact .inl ⟨i,t,rfl,e⟩
 | .inr x,v,h=>by
  obtain⟨t,e⟩:=Value.isStrOf_shape (x:=x) (v:=v) h;exact .inr ⟨x,t,rfl,e⟩
theorem Ms(a b:Int):decide ((Sum.inl a:Key)=Sum.inl b)=(a==b):=by
 by_cases e:a=b
 ·subst e;simp
 ·have h:¬ (Sum.inl a:Key)=Sum.inl b:=λq=>e (Sum.inl.inj q);rw[decide_eq_false h];exact(beq_eq_false_iff_ne.mpr e).symm
theorem Mp(a b:Str):decide ((Sum.inr a:Key)=Sum.inr b)=decide (a=b):=by
 by_cases e:a=b
 ·subst e;simp
 ·have h:¬ (Sum.inr a:Key)=Sum.inr b:=λq=>e (Sum.inr.inj q);rw[decide_eq_false h,decide_eq_false e]
theorem Mr(a:Int)(b:Str):decide ((Sum.inl a:Key)=Sum.inr b)=false:=aaX (λq=>nomatch q)
theorem Mq(a:Str)(b:Int):decide ((Sum.inr a:Key)=Sum.inl b)=false:=aaX (λq=>nomatch q)
def Aw(prog:Program)(w:World):PySem.KeyKind prog w Key where
 is:=J4
 hash:=Wa w
 inj:=λv a b ha hb=>by
  rcases bK ha with ⟨i,t,rfl,rfl⟩ | ⟨x,t,rfl,rfl⟩
  ·rcases bK hb with ⟨j,u,rfl,e⟩ | ⟨y,u,rfl,e⟩
   ·injection e with e1 _;rw[e1]
   ·exact nomatch e
  ·rcases bK hb with ⟨j,u,rfl,e⟩ | ⟨y,u,rfl,e⟩
   ·exact nomatch e
   ·injection e with e1 _;rw[e1]
 byValue:=λk v h=>by
  rcases bK h with ⟨i,t,rfl,rfl⟩ | ⟨x,t,rfl,rfl⟩<;>rfl
 pyHash:=λhv h=>by
  rcases bK hv with ⟨i,t,rfl,rfl⟩ | ⟨x,t,rfl,rfl⟩
  ·exact wpAny_pyHash_int h
  ·exact wpAny_pyHash_str h
 eqBool:=λhu hv h=>by
  rcases bK hu with ⟨i,t,rfl,rfl⟩ | ⟨x,t,rfl,rfl⟩
  ·rcases bK hv with ⟨j,u,rfl,rfl⟩ | ⟨y,u,rfl,rfl⟩
   ·rw[Ms]at h;exact wpAny_eqBool_int h
   ·rw[Mr]at h;exact SeqAt.EqAt.int_str i t y u _ _ _ _ h
  ·rcases bK hv with ⟨j,u,rfl,rfl⟩ | ⟨y,u,rfl,rfl⟩
   ·rw[Mq]at h;exact SeqAt.EqAt.str_int x t j u _ _ _ _ h
   ·rw[Mp]at h;exact wpAny_eqBool_str h
 «strs»:=λk x t v h=>by
  rcases bK h with ⟨i,u,rfl,e⟩ | ⟨y,u,rfl,e⟩
  ·exact nomatch e
  ·injection e with e1 _
   subst e1;cases v<;>rfl
end L2
namespace L2
open PySem PySem.Spec PyProof.Rows
inductive V where
 | bh | bl (b:Bool) | int (i:Int) | str (x:Str) | Yh (b:Array UInt8) | SO (b:UInt64) | ref (a:Addr) | ty (n:String)
 deriving DecidableEq
noncomputable def RelV:V->Value->Prop
 | .bh,u=>u=Value.none
 | .bl b,u=>u=Value.bool b
 | .int i,u=>∃ t,u=Value.int i t
 | .str x,u=>∃ t,u=Value.str x t
 | .Yh b,u=>∃ t,u=Value.bytes b t
 | .SO b,u=>∃ t,u=Value.float b t
 | .ref a,u=>u=Value.ref a
 | .ty n,u=>u=Value.type n
abbrev Vals:List V->List Value->Prop:=Paired RelV
theorem Vals.length{xs:List V}{us:List Value}(r:Vals xs us):xs.length=us.length:=Paired.length r
theorem Vals.get:∀ {xs:List V} {us:List Value} {i:Nat} {x:V},Vals xs us->xs[i]?=some x->∃ u,us[i]?=some u/\RelV x u
 | _,_,_,_,.nil,e=>by simp at e
 | _,_,0,_,.cons r _,e=>by simp at e;subst e;exact⟨_,rfl,r⟩
 | _,_,i+1,x,.cons _ t,e=>by
  obtain⟨u,h1,h2⟩:=Vals.get (i:=i) (x:=x) t (by simpa using e);exact⟨u,by simpa using h1,h2⟩
theorem Vals.set{x:V}{u:Value}(r:RelV x u):∀ {xs:List V} {us:List Value} (i:Nat),Vals xs us->Vals (xs.set i x) (us.set i u)
 | _,_,_,.nil=>.nil
 | _,_,0,.cons _ t=>.cons r t
 | _,_,i+1,.cons q t=>.cons q (Vals.set r i t)
theorem Vals.append:∀ {xs ys:List V} {us ws:List Value},Vals xs us->Vals ys ws->Vals (xs++ys) (us++ws)
 | _,_,_,_,.nil,s=>s
 | _,_,_,_,.cons r t,s=>.cons r (Vals.append t s)
theorem Vals.take:∀ {xs:List V} {us:List Value} (n:Nat),Vals xs us->Vals (xs.take n) (us.take n)
 | _,_,0,_=>.nil
 | _,_,_+1,.nil=>.nil
 | _,_,n+1,.cons r t=>.cons r (Vals.take n t)
theorem Vals.drop:∀ {xs:List V} {us:List Value} (n:Nat),Vals xs us->Vals (xs.drop n) (us.drop n)
 | _,_,0,r=>r
 | _,_,_+1,.nil=>.nil
 | _,_,n+1,.cons _ t=>Vals.drop n t
def sj:Option V->Option Value->Prop
 | some v,some u=>RelV v u
 | none,none=>True
 | _,_=>False
def KV{κ:Type}:List (κ×V)->List (κ×Value)->Prop:=Paired λ(p:κ×V) (q:κ×Value)=>p.1=q.1/\RelV p.2 q.2
def kV:Key->V
 | .inl i=>.int i
 | .inr x=>.str x
inductive HO where
 | lst (xs:List V)
 | tup (xs:List V)
 | dK (o_:List (Key×V)) | dT (o_:List (List Key×V))
 | set (S:Int->Bool) (n:Nat)
 | ins (C dx:Addr) (fs:List (Str×V))
 | own (x:Addr)
 | xd (fs:List (Str×V))
 | met (f x:Addr)
 | k9 (lo hi:Int)
 | iC (o:Obj) (u:HO)
 | G9 (ps:Array Value)
 | ext (φ:Heap->Prop)
noncomputable abbrev Hp:=Addr->Option HO
noncomputable def upd(H:Hp)(a:Addr)(o:HO):Hp:=λb=>if b=a then some o else H b
variable {H:Hp}
theorem aH{a:Addr}{o:HO}:upd H a o a=some o:=by unfold upd;rw[if_pos rfl]
theorem aA{a b:Addr}{o:HO}(h:b≠a):upd H a o b=H b:=by unfold upd;rw[if_neg h]
theorem bz{a b:Addr}{o:HO}(h:H a=some o)(h':H b=none):a≠b:=by
 intro e;subst e;rw[h]at h';cases h'
section
variable (P:Program)(w:World)
def b7(H:Hp)(h:Heap)(a:Addr):HO->Prop
 | .lst xs=>xs.length<=sizeLine/\∃(ao:List Value) (n:Nat),Vals xs ao/\h.get? a=some { cls:=.type "list",data:=.seq ao.toArray n }
 | .tup xs=>xs.length<=sizeLine/\∃ ao:List Value,Vals xs ao/\IsTup h a ao.toArray
 | .dK o_=>o_.length<=sizeLine/\(a==sysModules)=false/\∃ vs,KV o_ vs/\h.DictOf (Aw P w) a vs
 | .dT o_=>o_.length<=sizeLine/\(a==sysModules)=false/\∃ xs:List (List Key×Addr×Value),
   Paired (λ(p:List Key×V) (q:List Key×Addr×Value)=>p.1=q.1/\H q.2.1=some (.tup (p.1.map kV))/\RelV p.2 q.2.2) o_ xs /\
   ∃ o es ep,h.get? a=some o/\o.ExactDict/\o.data=.dict es ep/\es.toList=xs.map (entryOfKey (tupleKind (Aw P w)))/\(xs.map (·.1)).Nodup
 | .set S n=>h.SetOf (intKind P w) a S n
 | .ins C dx fs=>H dx=some (.own a)/\fs.length<=1000/\dx≠a/\h.get? a=some (PySem.W.instObj C dx) /\
   ∃ mA,h.Ns1 dx mA/\(∀ f,sj (fs.lookup f) (mA f))/\PySem.Within mA (fs.map (·.1))
 | .own _=>∃ o,h.get? a=some o
 | .xd fs=>∃ mA,h.Ns1 a mA/\∀ f,sj (fs.lookup f) (mA f)
 | .k9 lo hi=>∃ t u v,h.get? a=some { cls:=.type "range",data:=.fields #[.int lo t,.int hi u,.int 1 v] }
 | .iC o u=>h.get? a=some o/\b7 H h a u
 | .G9 ps=>h.get? a=some { cls:=.none,data:=.fields ps }
 | .met f x=>h.get? a=some (PySem.W.methodObj (.ref f) (.ref x))
 | .ext φ=>φ h/\(∃ o,h.get? a=some o)/\∀ h1 h2:Heap,φ h1->(∀ o,h1.get? a=some o->h2.get? a=some o)->φ h2
def kT(H:Hp)(h:Heap):Prop:=∀ a o,H a=some o->b7 P w H h a o
end
section
variable {P:Program}{w:World}{H H':Hp}{h h':Heap}{a:Addr}{o:HO}
theorem b7.lt(x:b7 P w H h a o):a<h.objs.size:=by
 cases o with
 | lst xs=>obtain⟨_,_,_,_,e⟩:=x;exact aap e
 | tup xs=>obtain⟨_,_,_,p⟩:=x;exact p.lt
 | dK o_=>obtain⟨_,_,_,_,o,_,_,e,_⟩:=x;exact aap e
 | dT o_=>obtain⟨_,_,_,_,o,_,_,e,_⟩:=x;exact aap e
 | set S n=>obtain⟨o,_,_,_,e,_⟩:=x;exact aap e
 | ins C dx fs=>obtain⟨_,_,_,e,_⟩:=x;exact aap e
 | own y=>obtain⟨_,e⟩:=x;exact aap e
 | xd fs=>obtain⟨_,⟨_,_,_,e,_⟩,_⟩:=x;exact aap e
 | k9 lo hi=>obtain⟨_,_,_,e⟩:=x;exact aap e
 | iC ob u=>obtain⟨e,_⟩:=x;exact aap e
 | G9 ps=>exact aap (show h.get? a=some _ from x)
 | met f y=>exact aap (show h.get? a=some _ from x)
 | ext φ=>obtain⟨_,⟨_,e⟩,_⟩:=x;exact aap e
theorem Paired.Rf{α β:Type}{F G:α->β->Prop}:∀ {l₁:List α} {l₂:List β},Paired F l₁ l₂->(∀ a b,F a b->G a b)->Paired G l₁ l₂
 | _,_,.nil,_=>.nil
 | _,_,.cons r t,f=>.cons (f _ _ r) (Paired.Rf t f)
theorem b7.jO(x:b7 P w H h a o)(k:∀ b u,(b=a\/H b=some (.own a))->h.get? b=some u->h'.get? b=some u)
  (ho:∀ b,H b=some (.own a)->H' b=some (.own a)) (ht:∀ b xs,H b=some (.tup xs)->H' b=some (.tup xs)):b7 P w H' h' a o:=by
 induction o with
 | lst xs=>obtain⟨z,ao,n,r,e⟩:=x;exact⟨z,ao,n,r,k _ _ (.inl rfl) e⟩
 | tup xs=>obtain⟨z,ao,r,ob,e,c⟩:=x;exact⟨z,ao,r,ob,k _ _ (.inl rfl) e,c⟩
 | dK o_=>obtain⟨z,y,vs,r,ob,es,ep,e,c⟩:=x;exact⟨z,y,vs,r,ob,es,ep,k _ _ (.inl rfl) e,c⟩
 | dT o_ =>
  obtain⟨z,y,xs,r,ob,es,ep,e,c⟩:=x;exact⟨z,y,xs,Paired.Rf r λp q z=>⟨z.1,ht _ _ z.2.1,z.2.2⟩,ob,es,ep,k _ _ (.inl rfl) e,c⟩
 | set S n=>obtain⟨ob,es,ep,t,e,c⟩:=x;exact⟨ob,es,ep,t,k _ _ (.inl rfl) e,c⟩
 | ins C dx fs =>
  obtain⟨d,z,ne,e,mA,⟨od,es,ep,e2,c⟩,r⟩:=x;exact⟨ho _ d,z,ne,k _ _ (.inl rfl) e,mA,⟨od,es,ep,k _ _ (.inr d) e2,c⟩,r⟩
 | own y=>obtain⟨ob,e⟩:=x;exact⟨ob,k _ _ (.inl rfl) e⟩
 | xd fs=>obtain⟨mA,⟨od,es,ep,e,c⟩,r⟩:=x;exact⟨mA,⟨od,es,ep,k _ _ (.inl rfl) e,c⟩,r⟩
 | k9 lo hi=>obtain⟨t,u,v,e⟩:=x;exact⟨t,u,v,k _ _ (.inl rfl) e⟩
 | iC ob u ih=>obtain⟨e,q⟩:=x;exact⟨k _ _ (.inl rfl) e,ih q⟩
 | G9 ps =>
  have e:h.get? a=some { cls:=.none,data:=.fields ps }:=x;show h'.get? a=some { cls:=.none,data:=.fields ps };exact k a _ (.inl rfl) e
 | met f y =>
  have e:h.get? a=some (PySem.W.methodObj (.ref f) (.ref y)):=x;show h'.get? a=some (PySem.W.methodObj (.ref f) (.ref y));exact k a _ (.inl rfl) e
 | ext φ=>obtain⟨p,⟨o,e⟩,st⟩:=x;exact⟨st _ _ p λo q=>k _ _ (.inl rfl) q,⟨o,k _ _ (.inl rfl) e⟩,st⟩
theorem kT.lt(x:kT P w H h)(e:H a=some o):a<h.objs.size:=(x a o e).lt
theorem kT.fresh(x:kT P w H h)(e:h.objs.size<=a):H a=none:=by
 cases q:H a with
 | none=>rfl
 | some u=>exact absurd (aan (x.lt q) e) (aaF _)
theorem kT.kept(x:kT P w H h)(k:∀ b u,h.get? b=some u->h'.get? b=some u):kT P w H h':=λa o e =>
 (x a o e).jO (λb u _ q=>k b u q) (λ_ q=>q) λ_ _ q=>q
theorem kT.laid(x:kT P w H h)(k:∀ b u,h.get? b=some u->h'.get? b=some u)(hp:h.objs.size<=a)(new:b7 P w (upd H a o) h' a o):kT P w (upd H a o) h':=λb u e=>by
 have hn:=x.fresh hp;by_cases hb:b=a
 ·subst hb;rw[aH]at e;cases e;exact new
 ·rw[aA hb]at e;exact(x b u e).jO (λc v _ q=>k c v q) (λc q=>by rw[aA (bz q hn)];exact q) λc xs q=>by rw[aA (bz q hn)];exact q
end
noncomputable def Rd(H:Hp)(a:Addr)(u:HO):Prop:=H a=some u\/∃ o,H a=some (.iC o u)
theorem Rd.ok{P:Program}{w:World}{h:Heap}{a:Addr}{u:HO}(r:Rd H a u)(x:kT P w H h):b7 P w H h a u:=by
 rcases r with r | ⟨o,r⟩
 ·exact x a u r
 ·obtain⟨_,q⟩:=x a _ r;exact q
noncomputable def UX:Option HO->Prop
 | some (.lst _)=>True
 | some (.dK _)=>True
 | some (.dT _)=>True
 | some (.set _ _)=>True
 | some (.ins _ _ _)=>True
 | some (.ext _)=>True
 | _=>False
section
variable {P:Program}{w:World}{H:Hp}{h h':Heap}{x e:Addr}{o':HO}
theorem kT.write(ok:kT P w H h)(mu:UX (H x))(he:e=x\/H e=some (.own x))(k:∀ b u,b≠e->h.get? b=some u->h'.get? b=some u)(O3:∃ u,h'.get? e=some u)
  (new:b7 P w (upd H x o') h' x o'):kT P w (upd H x o') h':=λb u q=>by
 have Q4:∀ c y,H c=some (.own y)->c≠x:=λc y r z=>by subst z;rw[r]at mu;exact mu
 have V2:∀ c xs,H c=some (.tup xs)->c≠x:=λc xs r z=>by subst z;rw[r]at mu;exact mu
 by_cases hb:b=x
 ·subst hb;rw[aH]at q;cases q;exact new
 ·rw[aA hb]at q;by_cases MY:b=e
  ·have q':H b=some (.own x):=by
    rcases he with z | z
    ·exact absurd (MY.trans z) hb
    ·rw[MY];exact z
   rw[q]at q';cases q';obtain⟨v,hv⟩:=O3;exact⟨v,by rw[MY];exact hv⟩
  ·refine(ok b u q).jO (λc v hc r=>k c v ?_ r) (λc r=>by rw[aA (Q4 c b r)];exact r) λc xs r=>by rw[aA (V2 c xs r)];exact r
   rcases hc with rfl | hc
   ·exact MY
   ·rintro rfl;rcases he with z | z
    ·exact Q4 c b hc z
    ·rw[hc]at z;cases z;exact hb rfl
end
structure Un(fs ex:List Addr)(H H':Hp)(h h':Heap):Prop where
 keep:∀ b o,h.get? b=some o->H b=none->b∉fs->b∉ex->h'.get? b=some o
 slot:∀ b o,h.get? b=some o->H b=none->b∈fs->b∉ex->∃ sl,h'.get? b=some { o with slots:=sl }
 free:∀ b o,h.get? b=some o->H b=none->b∉ex->H' b=none
 there:∀ b o,h.get? b=some o->b∉ex->∃ o',h'.get? b=some o'
 o5:∀ b xs,H b=some (.tup xs)->H' b=some (.tup xs)
 nN:∀ b o u,H b=some (.iC o u)->H' b=some (.iC o u)
 o6:∀ b ps,H b=some (.G9 ps)->∃ more,H' b=some (.G9 (ps++more))
section
variable {fs fs' ex SU:List Addr}{H H1 H2:Hp}{h h1 h2 h':Heap}{a x e:Addr}{o:HO}
theorem Un.any(u:Un fs ex H H1 h h1){b:Addr}{ob:Obj}(q:h.get? b=some ob)(n:H b=none)(hx:b∉ex):∃ sl,h1.get? b=some { ob with slots:=sl }:=by
 by_cases hb:b∈fs
 ·exact u.slot b ob q n hb hx
 ·exact⟨ob.slots,u.keep b ob q n hb hx⟩
theorem Un.kept(k:∀ b u,h.get? b=some u->h'.get? b=some u):Un fs ex H H h h' :=
 ⟨λb ob q _ _ _=>k b ob q,λb ob q _ _ _=>⟨ob.slots,k b ob q⟩,λ_ _ _ n _=>n,λb ob q _=>⟨ob,k b ob q⟩,λ_ _ q=>q,λ_ _ _ q=>q,λ_ ps q=>⟨#[],by rw[q];simp⟩⟩
theorem Un.refl:Un fs ex H H h h:=Un.kept λ_ _ q=>q
theorem Un.laid(k:∀ b u,h.get? b=some u->h'.get? b=some u)(hp:h.objs.size<=a)(hn:H a=none):Un fs ex H (upd H a o) h h' where
 keep:=λb u q _ _ _=>k b u q
 slot:=λb u q _ _ _=>⟨u.slots,k b u q⟩
 free:=λb u q n _=>by rw[aA (Nat.ne_of_lt (Nat.lt_of_lt_of_le (Heap.lt_size q) hp))];exact n
 there:=λb u q _=>⟨u,k b u q⟩
 o5:=λb xs q=>by rw[aA (bz q hn)];exact q
 nN:=λb u xs q=>by rw[aA (bz q hn)];exact q
 o6:=λb ps q=>⟨#[],by rw[aA (bz q hn),q];simp⟩
theorem Un.write(mu:UX (H x))(he:e=x\/H e=some (.own x))(k:∀ b u,b≠e->h.get? b=some u->h'.get? b=some u)(O3:∃ u,h'.get? e=some u):Un fs ex H (upd H x o) h h':=by
 have hx:∀ b,H b=none->b≠x:=λb n z=>by subst z;rw[n]at mu;exact mu
 have hb:∀ b,H b=none->b≠e:=λb n z=>by
  subst z;rcases he with r | r
  ·exact hx b n r
  ·rw[n]at r;cases r
 have hm:∀ b u,H b=some u->¬ UX (some u)->b≠x:=λb u q nm z=>by subst z;rw[q]at mu;exact nm mu
 refine⟨λb u q n _ _=>k b u (hb b n) q,λb u q n _ _=>⟨u.slots,k b u (hb b n) q⟩,λb u q n _=>by rw[aA (hx b n)];exact n,λb u q _=>?_,
  λb xs q=>by rw[aA (hm b _ q λz=>z)];exact q,λb u xs q=>by rw[aA (hm b _ q λz=>z)];exact q,λb ps q=>⟨#[],by rw[aA (hm b _ q λz=>z),q];simp⟩⟩
 by_cases MY:b=e
 ·subst MY;exact O3
 ·exact⟨u,k b u MY q⟩
end
noncomputable def TK(h:Heap)(H:Hp):List Addr:=(List.range h.objs.size).filter λa=>(H a).isSome
def vq(h:Heap)(H:Hp):Heap:=PySem.W.hideAll h (TK h H)
theorem B7(h:Heap)(H:Hp):(vq h H).objs.size=h.objs.size:=PySem.W.hideAll_size _ _
variable {o:Obj}
theorem EX{h:Heap}{b:Addr}(e:h.get? b=some o)(n:H b=none):(vq h H).get? b=some o :=
 PySem.W.hideAll_get _ e λhm=>by
  have q:(H b).isSome=true:=(List.mem_filter.mp hm).2;rw[n]at q;simp at q
theorem HS{h:Heap}{b:Addr}(e:(vq h H).get? b=some o):h.get? b=some o/\H b=none:=by
 have e':h.get? b=some o:=PySem.W.of_hideAll (TK h H) e;refine⟨e',?_⟩;cases q:H b with
 | none=>rfl
 | some x =>
  have hm:b∈TK h H:=List.mem_filter.mpr ⟨List.mem_range.mpr (aap e'),by simp[q]⟩;have z:(vq h H).get? b=none:=PySem.W.hideAll_none (TK h H) hm;rw[z]at e;cases e
noncomputable def Jw(g h:Heap)(L:Addr):List (Addr×Obj):=(List.range h.objs.size).filterMap λa=>if a=L\/(g.get? a).isSome=true then none else(h.get? a).map λo=>(a,o)
def rest(g h:Heap)(L d:Addr):List (Addr×Obj):=(Jw g h L).filter λp=>decide (p.1≠d)
end L2
namespace L2
open PySem PySem.Spec PyProof.Rows
structure Mod(K:PySem.W.Frag)(mg:Str->Option Value)(base:Heap):Prop where
 V_:K.In base
 glob:base.Ns mainGlobals mg
 blt:∃ mb,base.Ns builtinsNs mb/\∀ x:Str,x ≠ "__name__" -> mb x=bootBuiltins x
 nolimit:base.NoLimit
structure Cx where
 prog:Program
 w:World
 K:PySem.W.Frag
 mg:Str->Option Value
 base:Heap
 A:Around
 N:List Str
 s₀:Shared
 H₀:Hp
 env:Env
 outer:List Env
 stack:List Env
 ex:List Addr
 fn:Str->Bool
 calm:Bool
 pn:List (Addr×Obj)
 xe:Value->Shared->Prop
noncomputable def nP(l:List Env):List Addr:=l.filterMap (·.frame)
abbrev Cx.fs(X:Cx):List Addr:=nP X.outer
noncomputable def Jz(sc:Scope)(x:Str):Prop:=sc.names.lookup x=some .local\/sc.names.lookup x=some .cell\/sc.names.lookup x=some .free
noncomputable def Loc(sc:Scope)(x:Str):Prop:=sc.names.lookup x=some .local\/sc.names.lookup x=some .cell
noncomputable def Look(env:Env)(h:Heap)(m:Str->Option Value)(x:Str)(u:Value):Prop :=
 (env.kindOf x=some .local/\m x=some u)\/((env.kindOf x=some .cell\/env.kindOf x=some .free)/\∃ c,env.cells.lookup x=some c/\h.IsCell c (some u))
structure Cx.Ok(X:Cx):Prop where
 mod:Mod X.K X.mg X.base
 kind:X.env.scope.kind=.function
 glob:X.env.globals=mainGlobals
 blt:X.env.builtins=builtinsNs
 above:X.s₀.heap.objs.size<=X.env.locals
 inj:∀ x y c,X.env.cells.lookup x=some c->X.env.cells.lookup y=some c->x=y
 has:∀ x,(X.env.kindOf x=some .cell\/X.env.kindOf x=some .free)->∃ c,X.env.cells.lookup x=some c
 Km:∀ x c,X.fn x=true->X.env.cells.lookup x=some c->X.s₀.heap.objs.size<=c
 hd:X.calm=true->X.A.handled=none
 frames:X.A.frames=some X.stack
 K3:X.stack=X.outer\/(X.stack=X.env::X.outer/\X.env.frame=some X.env.locals)
 SS:∀ b∈X.ex,b≠X.env.locals/\∀ x c,X.env.cells.lookup x=some c->c≠b
 bs:∀ b o,X.base.get? b=some o->X.s₀.heap.get? b=some o/\X.H₀ b=none
 Ga:X.base.objs.size<=X.s₀.heap.objs.size
 xk:∀ b o,X.base.get? b=some o->b∉X.ex
 zi:∀ b∈X.ex,b∉X.fs
 lE:X.s₀.heap.FunFrames X.base X.outer
 CQ:∀ b∈X.fs,X.H₀ b=none
structure Inv(X:Cx)(pins:List (Addr×Obj))(σ:List (Option V))(H:Hp)(s:Shared):Prop where
 ok:X.Ok
 os:s.os=X.s₀.os
 bare:AllBare s.gens
 base:Un X.fs X.ex X.H₀ H X.s₀.heap s.heap
 loc:∃ m,s.heap.Ns X.env.locals m/\∀(i:Nat) (x:Str) (v:V),X.N[i]?=some x->σ[i]?=some (some v)->Jz X.env.scope x->∃ u,RelV v u/\Look X.env s.heap m x u
 cell:∀ x c,X.env.cells.lookup x=some c->∃ v,s.heap.IsCell c v
 free:H X.env.locals=none
 fW:∀ x c,X.env.cells.lookup x=some c->H c=none
 pin:∀ p∈X.pn++pins,s.heap.get? p.1=some p.2/\H p.1=none/\p.1≠X.env.locals/\p.1∉X.fs/\∀ v,p.2.data≠.cell v
 bQ:kT X.prog X.w H s.heap
 len:σ.length=X.N.length
variable {A:Around}{E:Value->Shared->Prop}{Q:Unit->Shared->Prop}{ch:List Addr}{t':Nat}
section
variable {X:Cx}{pins:List (Addr×Obj)}{σ:List (Option V)}{H H':Hp}{s:Shared}{h':Heap}
theorem Cx.Ok.V3(ok:X.Ok){b:Addr}{o:Obj}(e:X.base.get? b=some o):b∉X.fs:=λhb=>by
 have:=(ok.lE.mem hb).1;rw[e]at this;cases this
theorem Inv.bs(I:Inv X pins σ H s):∀ b o,X.base.get? b=some o->s.heap.get? b=some o/\H b=none:=λb o e =>
 ⟨I.base.keep b o (I.ok.bs b o e).1 (I.ok.bs b o e).2 (I.ok.V3 e) (I.ok.xk b o e),I.base.free b o (I.ok.bs b o e).1 (I.ok.bs b o e).2 (I.ok.xk b o e)⟩
theorem Inv.bk(I:Inv X pins σ H s):∀ b o,X.base.get? b=some o->s.heap.get? b=some o:=λb o e=>(I.bs b o e).1
theorem Inv.mod(I:Inv X pins σ H s):Mod X.K X.mg X.base:=I.ok.mod
theorem Inv.BZ(I:Inv X pins σ H s):X.K.In s.heap:=I.ok.mod.V_.keeps I.bk
theorem Inv.lt(I:Inv X pins σ H s):X.env.locals<s.heap.objs.size:=let ⟨_,hn,_⟩:=I.loc;hn.lt
theorem Inv.sz(I:Inv X pins σ H s):X.s₀.heap.objs.size<=s.heap.objs.size:=aaI I.ok.above (abU I.lt)
theorem Inv.L9(I:Inv X pins σ H s){a:Addr}(h:s.heap.objs.size<=a):a∉X.fs:=λhb=>by
 obtain⟨_,o,ho,_⟩:=I.ok.lE.mem hb;exact absurd (aan (aap ho) (aaI I.sz h)) (aaF _)
theorem Inv.Jl(I:Inv X pins σ H s):∀ x c,X.env.cells.lookup x=some c->c≠X.env.locals:=λx c e z=>by
 obtain⟨v,o,ho,hd⟩:=I.cell x c e;obtain⟨m,⟨o',es,ep,gE,Gx,_⟩,_⟩:=I.loc;rw[z,gE]at ho;cases ho;rw[Gx]at hd;cases hd
theorem Inv.lE(I:Inv X pins σ H s):s.heap.FunFrames X.base X.outer:=by
 have all:∀(l:List Env),(∀ b∈nP l,b∈X.fs)->X.s₀.heap.FunFrames X.base l->s.heap.FunFrames X.base l:=by
  intro l;induction l with
  | nil=>intro _ _;trivial
  | cons env r ih =>
   intro hs hl;obtain⟨hk,⟨L,o,hf,hn,ho,hd⟩,hr⟩:=hl;have hL:L∈X.fs:=hs L (by unfold nP;rw[List.filterMap_cons,hf];exact aao);obtain⟨sl,e⟩:=I.base.slot L o ho (I.ok.CQ L hL) hL λz=>I.ok.zi L z hL;exact⟨hk,⟨L,_,hf,hn,e,hd⟩,ih (λb hb=>hs b (by unfold nP;rw[List.filterMap_cons,hf];exact aam _ hb)) hr⟩
 exact all X.outer (λ_ hb=>hb) I.ok.lE
theorem Inv.stack(I:Inv X pins σ H s):s.heap.FunFrames X.base X.stack:=by
 rcases I.ok.K3 with e | ⟨e,hf⟩
 ·rw[e];exact I.lE
 ·rw[e];obtain⟨m,hn,_⟩:=I.loc;refine .cons (by rw[I.ok.kind];decide) hf hn ?_ I.lE;exact Heap.get?_none_of_le (aaI I.ok.Ga I.ok.above)
theorem Inv.ll(I:Inv X pins σ H s):∀ b∈nP X.stack,b∈X.env.locals::X.fs:=λb hb=>by
 rcases I.ok.K3 with e | ⟨e,hf⟩
 ·rw[e]at hb;exact aam _ hb
 ·rw[e]at hb;unfold nP at hb;rw[List.filterMap_cons,hf]at hb;exact hb
theorem Inv.mj(I:Inv X pins σ H s):∀ b∈nP X.stack,H b=none:=λb hb=>by
 rcases List.mem_cons.mp (I.ll b hb)with e | hb
 ·rw[e];exact I.free
 ·obtain⟨_,o,ho,_⟩:=I.ok.lE.mem hb;exact I.base.free b o ho (I.ok.CQ b hb) λz=>I.ok.zi b z hb
theorem Inv.step{g':Array GenState}{d':Drawn}(I:Inv X pins σ H s)
  (Gy:∀ b∈ch,(b∈X.ex\/X.s₀.heap.objs.size<=b)/\b≠X.env.locals/\(∀ x c,X.env.cells.lookup x=some c->c≠b)/\∀ p∈X.pn++pins,p.1≠b)
  (keep:∀ b o,b≠X.env.locals->b∉X.fs->b∉ch->s.heap.get? b=some o->H b=none->h'.get? b=some o)
  (slot:∀ b o,b≠X.env.locals->b∈X.fs->b∉ch->s.heap.get? b=some o->H b=none->∃ sl,h'.get? b=some { o with slots:=sl }) (free:∀ b o,b∉ch->s.heap.get? b=some o->H b=none->H' b=none)
  (there:∀ b o,b∉ch->s.heap.get? b=some o->∃ o',h'.get? b=some o')
  (o5:∀ b xs,H b=some (.tup xs)->H' b=some (.tup xs)) (nN:∀ b o u,H b=some (.iC o u)->H' b=some (.iC o u)) (o6:∀ b ps,H b=some (.G9 ps)->∃ more,H' b=some (.G9 (ps++more)))
  (ns:∀ m,s.heap.Ns X.env.locals m->h'.Ns X.env.locals m) (bQ:kT X.prog X.w H' h') (hg:AllBare g') :
  Inv X pins σ H' { s with heap:=h',gens:=g',drawn:=d',toks:=t' }:=by
 have Y8:∀ b o,X.s₀.heap.get? b=some o->b≠X.env.locals:=λb o e=>aat (aan (aap e) I.ok.above);have J2:∀ b o,X.s₀.heap.get? b=some o->b∉X.ex->b∉ch:=λb o e hx hb=>by
  rcases(Gy b hb).1 with z | z
  ·exact hx z
  ·exact absurd (aan (aap e) z) (aaF _)
 have cellK:∀ x c,X.env.cells.lookup x=some c->∀ v,s.heap.IsCell c v->h'.IsCell c v:=λx c e v ⟨o,ho,hd⟩=>by
  have Q9:c∉ch:=λz=>(Gy c z).2.2.1 x c e rfl;by_cases hc:c∈X.fs
  ·obtain⟨sl,q⟩:=slot c o (I.Jl x c e) hc Q9 ho (I.fW x c e);exact⟨_,q,hd⟩
  ·exact⟨o,keep c o (I.Jl x c e) hc Q9 ho (I.fW x c e),hd⟩
 refine⟨I.ok,I.os,hg,⟨λb o e n hb hx=>?_,λb o e n hb hx=>?_,λb o e n hx=>?_,λb o e hx=>?_,λb xs e=>o5 b xs (I.base.o5 b xs e),λb o xs e=>nN b o xs (I.base.nN b o xs e),λb ps e=>?_⟩,?_,λx c e=>?_,?_,λx c e=>?_,λp hp=>?_,bQ,I.len⟩
 ·exact keep b o (Y8 b o e) hb (J2 b o e hx) (I.base.keep b o e n hb hx) (I.base.free b o e n hx)
 ·obtain⟨sl,e1⟩:=I.base.slot b o e n hb hx;obtain⟨Vy,e2⟩:=slot b _ (Y8 b o e) hb (J2 b o e hx) e1 (I.base.free b o e n hx);exact⟨Vy,e2⟩
 ·obtain⟨o',e1⟩:=I.base.there b o e hx;exact free b o' (J2 b o e hx) e1 (I.base.free b o e n hx)
 ·obtain⟨o',e1⟩:=I.base.there b o e hx;exact there b o' (J2 b o e hx) e1
 ·obtain⟨m1,e1⟩:=I.base.o6 b ps e;obtain⟨m2,e2⟩:=o6 b _ e1;exact⟨m1++m2,by rw[e2,Array.append_assoc]⟩
 ·obtain⟨m,hn,hl⟩:=I.loc;refine⟨m,ns m hn,λi x v e1 e2 e3=>?_⟩;obtain⟨u,r,l⟩:=hl i x v e1 e2 e3;refine⟨u,r,?_⟩;rcases l with l | ⟨k,c,e,z⟩
  ·exact .inl l
  ·exact .inr ⟨k,c,e,cellK x c e _ z⟩
 ·obtain⟨v,z⟩:=I.cell x c e;exact⟨v,cellK x c e v z⟩
 ·obtain⟨m,⟨o,_,_,ho,_⟩,_⟩:=I.loc;exact free _ o (λz=>(Gy _ z).2.1 rfl) ho I.free
 ·obtain⟨v,o,ho,hd⟩:=I.cell x c e;exact free c o (λz=>(Gy c z).2.2.1 x c e rfl) ho (I.fW x c e)
 ·obtain⟨e,n,ne,nf,d⟩:=I.pin p hp;have Q9:p.1∉ch:=λz=>(Gy p.1 z).2.2.2 p hp rfl;exact⟨keep p.1 p.2 ne nf Q9 e n,free p.1 p.2 Q9 e n,ne,nf,d⟩
theorem Inv.un(I:Inv X pins σ H s)(u:Un X.fs [] H H' s.heap h')(bQ:kT X.prog X.w H' h'):Inv X pins σ H' { s with heap:=h',toks:=t' }:=by
 obtain⟨m,⟨o,es,ep,ho,r⟩,_⟩:=id I.loc;obtain⟨sl,hL⟩:=u.any ho I.free (by simp);exact I.step (g':=s.gens) (d':=s.drawn) (ch:=[]) (λ_ z=>nomatch z) (λb o _ hb _ e n=>u.keep b o e n hb (by simp)) (λb o _ hb _ e n=>u.slot b o e n hb (by simp)) (λb o _ e n=>u.free b o e n (by simp)) (λb o _ e=>u.there b o e (by simp)) u.o5 u.nN u.o6 (λm' hm=>by
  obtain⟨o',SW,AX,gE,r'⟩:=hm;rw[ho]at gE;cases gE;exact⟨_,SW,AX,hL,r'⟩) bQ I.bare
theorem Inv.call{g':Array GenState}{d':Drawn}(I:Inv X pins σ H s)(u:Un (nP X.stack) ch H H' s.heap h')(bQ:kT X.prog X.w H' h')(hg:AllBare g')
  (Gy:∀ b∈ch,(b∈X.ex\/X.s₀.heap.objs.size<=b)/\b≠X.env.locals/\(∀ x c,X.env.cells.lookup x=some c->c≠b)/\∀ p∈X.pn++pins,p.1≠b) :
  Inv X pins σ H' { s with heap:=h',gens:=g',drawn:=d',toks:=t' }:=by
 obtain⟨m,⟨o,es,ep,ho,r⟩,_⟩:=id I.loc;obtain⟨sl,hL⟩:=u.any ho I.free λz=>(Gy _ z).2.1 rfl;exact I.step (ch:=ch) Gy (λb o hL hb hc e n=>u.keep b o e n (λz=>(List.mem_cons.mp (I.ll b z)).elim hL hb) hc) (λb o _ _ hc e n=>u.any e n hc) (λb o hc e n=>u.free b o e n hc) (λb o hc e=>u.there b o e hc) u.o5 u.nN u.o6 (λm' hm=>by
  obtain⟨o',SW,AX,gE,r'⟩:=hm;rw[ho]at gE;cases gE;exact⟨_,SW,AX,hL,r'⟩) bQ hg
theorem Inv.turned{it:Addr}(I:Inv X pins σ H s)(k:∀ b o,b≠it->s.heap.get? b=some o->h'.get? b=some o)(hn:H it=none)(hL:it≠X.env.locals)
  (h1:it∈X.ex\/X.s₀.heap.objs.size<=it) (h2:∀ x c,X.env.cells.lookup x=some c->c≠it) (h3:∀ p∈X.pn++pins,p.1≠it):Inv X pins σ H { s with heap:=h',toks:=t' }:=by
 have J1:∀ b u,H b=some u->b≠it:=λb u e z=>by rw[z,hn]at e;cases e
 refine I.step (g':=s.gens) (d':=s.drawn) (ch:=[it]) (λb hb=>?_) (λb o _ _ hc e _=>k b o (λz=>hc (by simp[z])) e) (λb o _ _ hc e _=>⟨o.slots,k b o (λz=>hc (by simp[z])) e⟩) (λ_ _ _ _ n=>n)
  (λb o hc e=>⟨o,k b o (λz=>hc (by simp[z])) e⟩) (λ_ _ e=>e) (λ_ _ _ e=>e) (λb ps e=>⟨#[],by rw[e];simp⟩) (λm hm=>?_) (λb u e=>?_) I.bare
 ·have e:b=it:=by simpa using hb
  subst e;exact⟨h1,hL,h2,h3⟩
 ·obtain⟨o,es,ep,ho,r⟩:=hm;exact⟨o,es,ep,k _ o (abv hL) ho,r⟩
 ·refine(I.bQ b u e).jO (λc v hc q=>k c v ?_ q) (λ_ q=>q) λ_ _ q=>q;rcases hc with z | z
  ·rw[z];exact J1 b u e
  ·exact J1 c _ z
theorem Inv.tok(I:Inv X pins σ H s)(t:Nat):Inv X pins σ H { s with toks:=t }:=I.un (h':=s.heap) (t':=t) Un.refl I.bQ
theorem Inv.kept{t':Nat}(I:Inv X pins σ H s)(k:∀ b u,s.heap.get? b=some u->h'.get? b=some u):Inv X pins σ H { s with heap:=h',toks:=t' }:=I.un (Un.kept k) (I.bQ.kept k)
theorem Inv.laid{a:Addr}{o:HO}{t':Nat}(I:Inv X pins σ H s)(k:∀ b u,s.heap.get? b=some u->h'.get? b=some u)(hp:s.heap.objs.size<=a)(new:b7 X.prog X.w (upd H a o) h' a o):
  Inv X pins σ (upd H a o) { s with heap:=h',toks:=t' }:=I.un (Un.laid k hp (I.bQ.fresh hp)) (I.bQ.laid k hp new)
theorem Inv.write{x e:Addr}{o:HO}{t':Nat}(I:Inv X pins σ H s)(mu:UX (H x))(he:e=x\/H e=some (.own x))(k:∀ b u,b≠e->s.heap.get? b=some u->h'.get? b=some u)(O3:∃ u,h'.get? e=some u)
  (new:b7 X.prog X.w (upd H x o) h' x o):Inv X pins σ (upd H x o) { s with heap:=h',toks:=t' }:=I.un (Un.write mu he k O3) (I.bQ.write mu he k O3 new)
theorem Inv.kD{DY:List (Addr×Obj)}(I:Inv X pins σ H s)(h:∀ p∈DY,s.heap.get? p.1=some p.2/\H p.1=none/\p.1≠X.env.locals/\p.1∉X.fs/\∀ v,p.2.data≠.cell v):Inv X DY σ H s :=
 ⟨I.ok,I.os,I.bare,I.base,I.loc,I.cell,I.free,I.fW,λp hp=>(List.mem_append.mp hp).elim (λz=>I.pin p (aaG _ z)) (h p),I.bQ,I.len⟩
theorem xl{N:List Str}(hN:N.Nodup){i j:Nat}{x:Str}(a:N[i]?=some x)(b:N[j]?=some x):i=j:=by
 obtain⟨h1,e1⟩:=List.getElem?_eq_some_iff.mp a;obtain⟨h2,e2⟩:=List.getElem?_eq_some_iff.mp b;exact(acm hN).mp (e1.trans e2.symm)
theorem BB{M:Model}{i:Nat}{x:Str}{v:V}{u:Value}(I:Inv X pins σ H s)(hN:X.N.Nodup)(hi:X.N[i]?=some x)(hx:Loc X.env.scope x)(r:RelV v u)
  (h:∀ s',Inv X pins (σ.set i (some v)) H s'->(∃ a,Heap.SameBut a s.heap s'.heap/\(a=X.env.locals\/X.env.cells.lookup x=some a))->Q () s') (hf:X.fn x=true\/X.env.scope.names.lookup x=some .local:=by first | exact .inl rfl | exact .inr rfl | assumption):wpAny M A (storeName X.env x u) Q E s:=by
 obtain⟨m,hn,hl⟩:=id I.loc;have EY:(X.env.scope.kind==.class||(X.env.scope.kind==.module&&X.env.locals != X.env.globals))=false:=by rw[I.ok.kind];rfl
 have R9:i<σ.length:=by rw[I.len];exact(List.getElem?_eq_some_iff.mp hi).1
 have Jl:=I.Jl;have tracked:∀ {a:Addr} {h':Heap},(∃ o,s.heap.get? a=some o/\H a=none)->Heap.SameBut a s.heap h'->kT X.prog X.w H h':=λ{a h'} ha hs b ob e=>by
  obtain⟨_,_,Ka⟩:=ha;refine(I.bQ b ob e).jO (λc w' hc q=>(hs.2 c ?_).trans q) (λ_ q=>q) λ_ _ q=>q;rintro rfl;rcases hc with rfl | hc
  ·rw[Ka]at e;cases e
  ·rw[Ka]at hc;cases hc
 rcases hx with hk | hk
 ·refine wpAny_storeName_local hk hn (λh' AJ hs=>?_) EY;obtain⟨oL,_,_,RX,_⟩:=id hn;refine h _ ⟨I.ok,I.os,I.bare,⟨λb o e n hb hx=>?_,λb o e n hb hx=>?_,I.base.free,λb o e hx=>?_,I.base.o5,I.base.nN,I.base.o6⟩,⟨_,AJ,λj y v' e1 e2 e3=>?_⟩,λy c e=>?_,I.free,I.fW,λp hp=>?_,tracked ⟨oL,RX,I.free⟩ hs,by simpa using I.len⟩ ⟨_,hs,.inl rfl⟩
  ·exact(hs.2 b (aat (aan (aap e) I.ok.above))).trans (I.base.keep b o e n hb hx)
  ·obtain⟨sl,e1⟩:=I.base.slot b o e n hb hx;exact⟨sl,(hs.2 b (aat (aan (aap e) I.ok.above))).trans e1⟩
  ·obtain⟨o',e1⟩:=I.base.there b o e hx;exact⟨o',(hs.2 b (aat (aan (aap e) I.ok.above))).trans e1⟩
  ·by_cases hj:j=i
   ·subst hj;rw[hi]at e1;cases e1;rw[List.getElem?_set_self R9]at e2;cases e2;exact⟨u,r,.inl ⟨hk,by simp⟩⟩
   ·rw[List.getElem?_set_ne (Ne.symm hj)]at e2;obtain⟨u',r',q⟩:=hl j y v' e1 e2 e3;refine⟨u',r',?_⟩;rcases q with ⟨k,e⟩ | ⟨k,c,e,z⟩
    ·refine .inl ⟨k,?_⟩;have:y≠x:=λe=>hj (xl hN e1 (e▸hi));simp[this,e]
    ·exact .inr ⟨k,c,e,z.sameBut hs (Jl y c e)⟩
  ·obtain⟨w',z⟩:=I.cell y c e;exact⟨w',z.sameBut hs (Jl y c e)⟩
  ·obtain⟨e,n,ne,nf,d⟩:=I.pin p hp;exact⟨(hs.2 p.1 ne).trans e,n,ne,nf,d⟩
 ·have sT:X.fn x=true:=by
   rcases hf with z | z
   ·exact z
   ·rw[z]at hk;cases hk
  obtain⟨c,hc⟩:=I.ok.has x (.inl hk);obtain⟨w',z⟩:=I.cell x c hc;refine wpAny_storeName_cell I.ok.kind hk hc z (λh' EZ hs=>?_);obtain⟨oc,Zz,WN⟩:=id z;refine h { s with heap:=h' } ⟨I.ok,I.os,I.bare,⟨λb o e n hb hx=>?_,λb o e n hb hx=>?_,I.base.free,λb o e hx=>?_,I.base.o5,I.base.nN,I.base.o6⟩,⟨m,hn.sameBut hs (abv (Jl x c hc)),λj y v' e1 e2 e3=>?_⟩,λy c' e=>?_,I.free,I.fW,λp hp=>?_,tracked ⟨oc,Zz,I.fW x c hc⟩ hs,by simpa using I.len⟩ ⟨c,hs,.inr hc⟩
  ·exact(hs.2 b (aat (aan (aap e) (I.ok.Km x c sT hc)))).trans (I.base.keep b o e n hb hx)
  ·obtain⟨sl,e1⟩:=I.base.slot b o e n hb hx;exact⟨sl,(hs.2 b (aat (aan (aap e) (I.ok.Km x c sT hc)))).trans e1⟩
  ·obtain⟨o',e1⟩:=I.base.there b o e hx;exact⟨o',(hs.2 b (aat (aan (aap e) (I.ok.Km x c sT hc)))).trans e1⟩
  ·by_cases hj:j=i
   ·subst hj;rw[hi]at e1;cases e1;rw[List.getElem?_set_self R9]at e2;cases e2;exact⟨u,r,.inr ⟨.inl hk,c,hc,EZ⟩⟩
   ·rw[List.getElem?_set_ne (Ne.symm hj)]at e2;obtain⟨u',r',q⟩:=hl j y v' e1 e2 e3;refine⟨u',r',?_⟩;rcases q with q | ⟨k,c',e,z'⟩
    ·exact .inl q
    ·refine .inr ⟨k,c',e,z'.sameBut hs ?_⟩;rintro rfl;exact hj (xl hN e1 (I.ok.inj _ _ _ e hc▸hi))
  ·by_cases ZN:c'=c
   ·subst ZN;exact⟨_,EZ⟩
   ·obtain⟨w2,z2⟩:=I.cell y c' e;exact⟨w2,z2.sameBut hs ZN⟩
  ·obtain⟨e,n,ne,nf,d⟩:=I.pin p hp;refine⟨(hs.2 p.1 ?_).trans e,n,ne,nf,d⟩;intro q;rw[q,Zz]at e;have q':oc=p.2:=aaA e;exact d w' (by rw[<- q'];exact WN)
theorem iu{M:Model}{i:Nat}{x:Str}{v:V}{u:Value}(I:Inv X pins σ H s)(hN:X.N.Nodup)(hi:X.N[i]?=some x)(hx:Loc X.env.scope x)(r:RelV v u)
  (h:∀ s',Inv X pins (σ.set i (some v)) H s'->Q () s') (hf:X.fn x=true\/X.env.scope.names.lookup x=some .local:=by first | exact .inl rfl | exact .inr rfl | assumption):wpAny M A (storeName X.env x u) Q E s :=
 BB I hN hi hx r (λs' I' _=>h s' I') hf
theorem Inv.Ba{s':Shared}(I:Inv X pins σ H s)(ho:s'.os=s.os)(u:Un (nP X.stack) ch H H' s.heap s'.heap)(bQ:kT X.prog X.w H' s'.heap)(hg:AllBare s'.gens)
  (Gy:∀ b∈ch,(b∈X.ex\/X.s₀.heap.objs.size<=b)/\b≠X.env.locals/\(∀ x c,X.env.cells.lookup x=some c->c≠b)/\∀ p∈X.pn++pins,p.1≠b):Inv X pins σ H' s':=by
 obtain⟨h',g',d',t',o'⟩:=s';have e:o'=s.os:=ho;subst e;exact I.call (g':=g') (t':=t') (d':=d') u bQ hg Gy
end
noncomputable abbrev XK:=Value->Option Addr->Hp->Prop
noncomputable abbrev St:=List (Option V)
noncomputable abbrev VK:=V->Hp->Prop
noncomputable abbrev TE:=St->Hp->VK->Prop
noncomputable abbrev TT:=St->Hp->(Bool->Hp->Prop)->Prop
noncomputable abbrev TA:=St->Hp->(List V->Hp->Prop)->Prop
structure Ends where
 nx:St->Hp->Prop
 rt:VK
 bk:St->Hp->Prop:=λ_ _=>False
 ct:St->Hp->Prop:=λ_ _=>False
noncomputable abbrev TS:=Ends->St->Hp->Prop
def EP(X:Cx)(pins:List (Addr×Obj))(σ:St)(Q:VK)(u:Value)(s':Shared):Prop:=∃ v H',Inv X pins σ H' s'/\RelV v u/\Q v H'
noncomputable def TP(X:Cx)(pins:List (Addr×Obj))(σ:St)(Q:Bool->Hp->Prop)(b:Bool)(s':Shared):Prop:=∃ H',Inv X pins σ H' s'/\Q b H'
def AP(X:Cx)(pins:List (Addr×Obj))(σ:St)(Q:List V->Hp->Prop)(us:List Value)(s':Shared):Prop:=∃ vs H',Inv X pins σ H' s'/\Vals vs us/\Q vs H'
def SP(X:Cx)(pins:List (Addr×Obj))(D:Ends)(f:Flow)(s':Shared):Prop :=
 match f with
 | .next=>∃ σ' H',Inv X pins σ' H' s'/\D.nx σ' H'
 | .brk=>∃ σ' H',Inv X pins σ' H' s'/\D.bk σ' H'
 | .cont=>∃ σ' H',Inv X pins σ' H' s'/\D.ct σ' H'
 | .ret u=>∃ v σ' H',Inv X pins σ' H' s'/\RelV v u/\D.rt v H'
noncomputable def PE(X:Cx)(e:Expr)(t:TE):Prop :=
 ∀(pins:List (Addr×Obj)) (s:Shared) (σ:St) (H:Hp) (Q:VK),Inv X pins σ H s->t σ H Q->wpAny (model X.prog X.w) X.A (eval e X.env) (EP X pins σ Q) X.xe s
noncomputable def PT(X:Cx)(e:Expr)(t:TT):Prop :=
 ∀(pins:List (Addr×Obj)) (s:Shared) (σ:St) (H:Hp) (Q:Bool->Hp->Prop),Inv X pins σ H s->t σ H Q->wpAny (model X.prog X.w) X.A (isTrue e X.env (eval e X.env)) (TP X pins σ Q) X.xe s
noncomputable def PW(X:Cx)(e:Expr)(t:TT):Prop :=
 ∀(whole:Sem Value) (pins:List (Addr×Obj)) (s:Shared) (σ:St) (H:Hp) (Q:Bool->Hp->Prop),Inv X pins σ H s->t σ H Q->wpAny (model X.prog X.w) X.A (isTrue e X.env whole) (TP X pins σ Q) X.xe s
theorem PW.pt{X:Cx}{e:Expr}{t:TT}(h:PW X e t):PT X e t:=h _
noncomputable def PA(X:Cx)(es:List Expr)(t:TA):Prop :=
 ∀(pos:Pos) (pins:List (Addr×Obj)) (s:Shared) (σ:St) (H:Hp) (Q:List V->Hp->Prop),Inv X pins σ H s->t σ H Q->wpAny (model X.prog X.w) X.A (spliced (backTo pos (starEach es X.env))) (AP X pins σ Q) X.xe s
noncomputable def PS(X:Cx)(st:Stmt)(t:TS):Prop :=
 ∀(pins:List (Addr×Obj)) (s:Shared) (σ:St) (H:Hp) (D:Ends),Inv X pins σ H s->t D σ H->wpAny (model X.prog X.w) X.A (exec st X.env) (SP X pins D) X.xe s
noncomputable def g9(X:Cx)(st:List Stmt)(t:TS):Prop :=
 ∀(pins:List (Addr×Obj)) (s:Shared) (σ:St) (H:Hp) (D:Ends),Inv X pins σ H s->t D σ H->wpAny (model X.prog X.w) X.A (execs st X.env) (SP X pins D) X.xe s
theorem cI{α:Type}{t:Sem α}{Q Q':α->Shared->Prop}{M:Model}{s:Shared}(h:wpAny M A t Q E s)(hQ:∀ a s,Q a s->Q' a s):wpAny M A t Q' E s:=aaC h hQ λ_ _ x=>x
end L2
namespace L2
open PySem PySem.Spec PyProof.Rows
variable {E Q:Value->Shared->Prop}{H:Hp}{pos:Pos}{σ:L2.St}
section
variable {X:Cx}
theorem bin{a b:Expr}{ta tb:TE}(ha:PE X a ta)(hb:PE X b tb){pins:List (Addr×Obj)}{s:Shared}{R:V->V->Hp->Prop}(I:Inv X pins σ H s)(h:ta σ H λx H1=>tb σ H1 λy H2=>R x y H2)
  {α:Type} {Q:α->Shared->Prop} {f:Value->Value->Sem α}
  (hf:∀ v u s2 x y H2,Inv X pins σ H2 s2->RelV x v->RelV y u->R x y H2->wpAny (model X.prog X.w) X.A (f v u) Q X.xe s2) :
  wpAny (model X.prog X.w) X.A (eval a X.env) (λv s₁=>wpAny (model X.prog X.w) X.A (eval b X.env) (λu s₂=>wpAny (model X.prog X.w) X.A (f v u) Q X.xe s₂) X.xe s₁) X.xe s:=by
 refine cI (ha pins s σ H _ I h) λv s1 ⟨x,H1,I1,r1,q1⟩=>?_;refine cI (hb pins s1 σ H1 _ I1 q1) λu s2 ⟨y,H2,I2,r2,q2⟩=>?_;exact hf v u s2 x y H2 I2 r1 r2 q2
noncomputable def uM(i:Nat):TE:=λσ H Q=>∃ v,σ[i]?=some (some v)/\Q v H
noncomputable def tC(v:V):TE:=λ_ H Q=>Q v H
theorem lu{i:Nat}{x:Str}(hN:X.N[i]?=some x)(hv:Jz X.env.scope x)(hd:(x==("__debug__" : Str))=false:=by decide)(xA:(x==("__classdict__" : Str))=false:=by decide):PE X (.Name x pos) (uM i):=by
 intro pins s σ H Q I h;obtain⟨v,e,h⟩:=h;obtain⟨m,hn,hl⟩:=I.loc;obtain⟨u,r,l⟩:=hl i x v hN e hv;have fin:EP X pins σ Q u s:=⟨v,H,I,r,h⟩
 rcases l with ⟨hk,hm⟩ | ⟨hk,c,hc,hcell⟩
 ·exact wpAny_Name (wpAny_loadName_local I.ok.kind hk hn hm fin) hd
 ·rcases hk with hk | hk
  ·exact wpAny_Name (wpAny_loadName_cell I.ok.kind hk hc hcell fin) hd
  ·exact wpAny_Name (wpAny_loadName_free I.ok.kind hk hc hcell fin xA) hd
theorem LK{i j pos}:PE X (.Constant (.int i) j pos) (tC (.int i)):=λ_ _ _ H _ I h=>wpAny_Constant_int ⟨.int i,H,I.tok _,⟨_,rfl⟩,h⟩
theorem QS{b j pos}:PE X (.Constant (.bool b) j pos) (tC (.bl b)):=λ_ _ _ H _ I h=>Constant_bool ⟨.bl b,H,I,rfl,h⟩
theorem D7{j pos}:PE X (.Constant .none j pos) (tC .bh):=λ_ _ _ H _ I h=>Constant_none ⟨.bh,H,I,rfl,h⟩
theorem LH{x j pos}:PE X (.Constant (.str x) j pos) (tC (.str x)):=λ_ _ _ H _ I h=>Calls.Constant_str ⟨.str x,H,I.tok _,⟨_,rfl⟩,h⟩
noncomputable def Gl(X:Cx)(x:Str):Prop:=X.env.kindOf x=some .globalImplicit
theorem vi{pins:List (Addr×Obj)}{s:Shared}{x:Str}{u:Value}(I:Inv X pins σ H s)(hg:Gl X x)(hm:X.mg x=some u)(h:Q u s)
  (hd:(x==("__debug__" : Str))=false:=by decide):wpAny (model X.prog X.w) X.A (eval (.Name x pos) X.env) Q E s :=
 abn I.ok.kind hg (Calls.loadGlobal_global (by rw[I.ok.glob];exact I.mod.glob.keeps I.bk) hm h) hd
theorem gT{pins:List (Addr×Obj)}{s:Shared}{x:Str}{u:Value}(I:Inv X pins σ H s)(hg:Gl X x)(hm:X.mg x=none)(hv:bootBuiltins x=some u)(h:Q u s)
  (hn:x ≠ "__name__":=by decide) (hd:(x==("__debug__" : Str))=false:=by decide):wpAny (model X.prog X.w) X.A (eval (.Name x pos) X.env) Q E s:=by
 obtain⟨mb,h1,h2⟩:=I.mod.blt;exact abn I.ok.kind hg (Calls.loadGlobal_builtin (by rw[I.ok.glob];exact I.mod.glob.keeps I.bk) hm (by rw[I.ok.blt];exact h1.keeps I.bk) ((h2 x hn).trans hv) h) hd
theorem uW{x:Str}{v:V}{u:Value}(hg:Gl X x)(hm:X.mg x=some u)(r:RelV v u)(hd:(x==("__debug__" : Str))=false:=by decide):PE X (.Name x pos) (tC v) :=
 λ_ _ _ H _ I h=>vi I hg hm ⟨v,H,I,r,h⟩ hd
theorem HL{x:Str}{v:V}{u:Value}(hg:Gl X x)(hm:X.mg x=none)(hv:bootBuiltins x=some u)(r:RelV v u)(hn:x ≠ "__name__":=by decide)(hd:(x==("__debug__" : Str))=false:=by decide):PE X (.Name x pos) (tC v) :=
 λ_ _ _ H _ I h=>gT I hg hm hv ⟨v,H,I,r,h⟩ hn hd
variable {a b:Expr}{ta tb:TE}{pos:Pos}
noncomputable def tB(t:TE):TT:=λσ H Q=>t σ H λx H1=>∃ c,x=.bl c/\Q c H1
theorem LA{e:Expr}{t:TE}(h:PE X e t)(he:∀ whole,isTrue e X.env whole=(do let v <- whole;standAt e.pos;holding [v] (truthy v)):=by intro _;rfl):PT X e (tB t):=by
 intro pins s σ H Q I hw;refine isTrue_plain (cI (h pins s σ H _ I hw) λv s1 ⟨x,H1,I1,r1,q1⟩=>?_) (he _);obtain⟨d,rfl,q⟩:=q1;cases r1;exact aaZ ⟨H1,I1,q⟩
variable {tA TN:TT}{rest:List Expr}
noncomputable def Qd(t u:TT):TT:=λσ H Q=>t σ H λc H1=>if c=true then u σ H1 Q else Q false H1
noncomputable def YM(t u:TT):TT:=λσ H Q=>t σ H λc H1=>if c=true then Q true H1 else u σ H1 Q
noncomputable def Ve(t:TT):TT:=λσ H Q=>t σ H λc H1=>Q (!c) H1
theorem HF(ha:PT X a tA):PW X (.BoolOp .And [a] pos) tA:=by
 intro wh pins s σ H Q I h;refine isTrue_and (cI (ha pins s σ H Q I h) λc s1 e=>?_);cases c with
 | true=>exact isTrue_and_nil e
 | false=>exact e
theorem Ly(ha:PT X a tA):PW X (.BoolOp .Or [a] pos) tA:=by
 intro wh pins s σ H Q I h;refine isTrue_or (cI (ha pins s σ H Q I h) λc s1 e=>?_);cases c with
 | false=>exact isTrue_or_nil e
 | true=>exact e
theorem Lz(ha:PT X a tA)(hb:PW X (.BoolOp .And (b::rest) pos) TN):PW X (.BoolOp .And (a::b::rest) pos) (Qd tA TN):=by
 intro wh pins s σ H Q I h;refine isTrue_and (cI (ha pins s σ H _ I h) λc s1 ⟨H1,I1,q1⟩=>?_);cases c with
 | true=>exact hb wh pins s1 σ H1 Q I1 q1
 | false=>exact⟨H1,I1,q1⟩
theorem QL(ha:PT X a tA)(hb:PW X (.BoolOp .Or (b::rest) pos) TN):PW X (.BoolOp .Or (a::b::rest) pos) (YM tA TN):=by
 intro wh pins s σ H Q I h;refine isTrue_or (cI (ha pins s σ H _ I h) λc s1 ⟨H1,I1,q1⟩=>?_);cases c with
 | true=>exact⟨H1,I1,q1⟩
 | false=>exact hb wh pins s1 σ H1 Q I1 q1
theorem LB(ha:PT X a tA):PT X (.UnaryOp .Not a pos) (Ve tA):=by
 intro pins s σ H Q I h;exact isTrue_not (ha pins s σ H (λc H1=>Q (!c) H1) I h)
noncomputable def JM(ta tb:TE):TE:=λσ H Q=>ta σ H λx H1=>∃ c,x=.bl c/\if c=true then tb σ H1 Q else Q (.bl false) H1
noncomputable def P6(ta tb:TE):TE:=λσ H Q=>ta σ H λx H1=>∃ c,x=.bl c/\if c=true then Q (.bl true) H1 else tb σ H1 Q
noncomputable def P7(ta:TE):TE:=λσ H Q=>ta σ H λx H1=>∃ c,x=.bl c/\Q (.bl (!c)) H1
theorem D5{op}{t:TE}(h:PE X a t):PE X (.BoolOp op [a] pos) t:=λpins s σ H Q I hw=>BoolOp_one (h pins s σ H Q I hw)
theorem LM(ha:PE X a ta)(hb:PE X (.BoolOp .And (b::rest) pos) tb):PE X (.BoolOp .And (a::b::rest) pos) (JM ta tb):=by
 intro pins s σ H Q I h;refine BoolOp_and (cI (ha pins s σ H _ I h) λv s1 ⟨x,H1,I1,r1,q1⟩=>?_);obtain⟨c,rfl,q1⟩:=q1;cases r1;refine aaZ ?_;cases c with
 | true=>exact hb pins s1 σ H1 Q I1 q1
 | false=>exact⟨.bl false,H1,I1,rfl,q1⟩
theorem QQ(ha:PE X a ta)(hb:PE X (.BoolOp .Or (b::rest) pos) tb):PE X (.BoolOp .Or (a::b::rest) pos) (P6 ta tb):=by
 intro pins s σ H Q I h;refine BoolOp_or (cI (ha pins s σ H _ I h) λv s1 ⟨x,H1,I1,r1,q1⟩=>?_);obtain⟨c,rfl,q1⟩:=q1;cases r1;refine aaZ ?_;cases c with
 | false=>exact hb pins s1 σ H1 Q I1 q1
 | true=>exact⟨.bl true,H1,I1,rfl,q1⟩
theorem LI(ha:PE X a ta):PE X (.UnaryOp .Not a pos) (P7 ta):=by
 intro pins s σ H Q I h;refine UnaryOp_ (cI (ha pins s σ H _ I h) λv s1 ⟨x,H1,I1,r1,q1⟩=>?_);obtain⟨c,rfl,q1⟩:=q1;cases r1;exact not_of (aaZ ⟨.bl (!c),H1,I1,rfl,q1⟩)
noncomputable def tIf(t:TT)(ta tb:TE):TE:=λσ H Q=>t σ H λc H1=>if c=true then ta σ H1 Q else tb σ H1 Q
theorem D_{c:Expr}(hc:PT X c tA)(ha:PE X a ta)(hb:PE X b tb):PE X (.IfExp c a b pos) (tIf tA ta tb):=by
 intro pins s σ H Q I h;refine wpAny_IfExp (cI (hc pins s σ H _ I h) λd s1 ⟨H1,I1,q1⟩=>?_);cases d with
 | true=>exact ha pins s1 σ H1 Q I1 q1
 | false=>exact hb pins s1 σ H1 Q I1 q1
end
end L2
namespace L2
open PySem PySem.Spec PyProof.Rows
def cV(K:PySem.W.Frag)(H:Hp)(a:Addr)(xs:List V):Prop :=
 Rd H a (.lst xs) \/
  ∃(o:Obj) (ao:Array Value) (n:Nat),K.lookup a=some o/\o.cls=.type "list" /\ o.dict=none/\o.data=.seq ao n/\ao.size<=sizeLine/\Vals xs ao.toList
def aG(K:PySem.W.Frag)(H:Hp)(a:Addr)(xs:List V):Prop :=
 Rd H a (.tup xs) \/
  ∃(o:Obj) (ao:Array Value) (n:Nat),K.lookup a=some o/\o.cls=.type "tuple" /\ o.data=.seq ao n/\ao.size<=sizeLine/\Vals xs ao.toList
noncomputable def Yp:Value->Option V
 | .none=>some .bh
 | .bool b=>some (.bl b)
 | .int i _=>some (.int i)
 | .str x _=>some (.str x)
 | .bytes b _=>some (.Yh b)
 | .float b _=>some (.SO b)
 | .ref a=>some (.ref a)
 | .type n=>some (.ty n)
 | _=>none
theorem RelV.abs{x:V}{u:Value}(r:RelV x u):Yp u=some x:=by
 cases x with
 | bh=>cases r;rfl
 | bl _=>cases r;rfl
 | int _=>obtain⟨t,rfl⟩:=r;rfl
 | str _=>obtain⟨t,rfl⟩:=r;rfl
 | Yh _=>obtain⟨t,rfl⟩:=r;rfl
 | SO _=>obtain⟨t,rfl⟩:=r;rfl
 | ref _=>cases r;rfl
 | ty _=>cases r;rfl
theorem RelV.inj{x y:V}{u:Value}(r:RelV x u)(q:RelV y u):x=y:=aaA (r.abs.symm.trans q.abs)
theorem Vals.inj:∀ {xs ys:List V} {us:List Value},Vals xs us->Vals ys us->xs=ys
 | _,_,_,.nil,.nil=>rfl
 | _,_,_,.cons r t,.cons r' t'=>by rw[r.inj r',Vals.inj t t']
variable {K:PySem.W.Frag}
section
variable {X:Cx}{pins:List (Addr×Obj)}{σ:St}{H:Hp}{s:Shared}{a:Addr}{xs ys:List V}
theorem cV.of(h:H a=some (.lst xs)):cV K H a xs:=.inl (.inl h)
theorem aG.of(h:H a=some (.tup xs)):aG K H a xs:=.inl (.inl h)
theorem Inv.list(I:Inv X pins σ H s)(h:cV X.K H a xs):∃ ao:List Value,Vals xs ao/\PlainL s.heap a ao.toArray/\xs.length<=sizeLine:=by
 rcases h with h | ⟨o,ao,n,hk,hc,hd,hs,hz,r⟩
 ·obtain⟨z,ao,n,r,e⟩:=h.ok I.bQ;exact⟨ao,r,⟨_,n,e,rfl,rfl,rfl⟩,z⟩
 ·refine⟨ao.toList,r,⟨o,n,I.BZ a o hk,hc,hd,by simpa using hs⟩,?_⟩;have e:=r.length;simp only[Array.length_toList]at e;left
theorem Inv.tuple(I:Inv X pins σ H s)(h:aG X.K H a xs):∃ ao:List Value,Vals xs ao/\IsTup s.heap a ao.toArray/\xs.length<=sizeLine:=by
 rcases h with h | ⟨o,ao,n,hk,hc,hs,hz,r⟩
 ·obtain⟨z,ao,r,p⟩:=h.ok I.bQ;exact⟨ao,r,p,z⟩
 ·refine⟨ao.toList,r,⟨o,I.BZ a o hk,hc,n,by simpa using hs⟩,?_⟩;have e:=r.length;simp only[Array.length_toList]at e;left
theorem Inv.mG(I:Inv X pins σ H s)(h:cV X.K H a xs)(h':cV X.K H a ys):xs=ys:=by
 obtain⟨ao,r,⟨o,n,e,_,_,d⟩,_⟩:=I.list h;obtain⟨its',r',⟨o',n',e',_,_,d'⟩,_⟩:=I.list h';rw[e]at e';cases e';rw[d]at d';injection d' with d1 _;have:ao=its':=by simpa using congrArg Array.toList d1
 subst this;exact r.inj r'
theorem Inv.tP(I:Inv X pins σ H s)(h:aG X.K H a xs)(h':aG X.K H a ys):xs=ys:=by
 obtain⟨ao,r,⟨o,e,_,n,d⟩,_⟩:=I.tuple h;obtain⟨its',r',⟨o',e',_,n',d'⟩,_⟩:=I.tuple h';rw[e]at e';cases e';rw[d]at d';injection d' with d1 _;have:ao=its':=by simpa using congrArg Array.toList d1
 subst this;exact r.inj r'
end
noncomputable abbrev Cx.qi(X:Cx)(E:Value->Shared->Prop):Cx:={ X with xe:=E }
abbrev Cx.yh(X:Cx):Cx:=X.qi λ_ _=>False
theorem Cx.Ok.qi{X:Cx}(ok:X.Ok)(E:Value->Shared->Prop):(X.qi E).Ok :=
 ⟨ok.mod,ok.kind,ok.glob,ok.blt,ok.above,ok.inj,ok.has,ok.Km,ok.hd,ok.frames,ok.K3,ok.SS,ok.bs,ok.Ga,ok.xk,ok.zi,ok.lE,ok.CQ⟩
variable {E:Value->Shared->Prop}{X:Cx}
theorem Cx.Ok.iN(ok:(X.qi E).Ok):X.Ok :=
 ⟨ok.mod,ok.kind,ok.glob,ok.blt,ok.above,ok.inj,ok.has,ok.Km,ok.hd,ok.frames,ok.K3,ok.SS,ok.bs,ok.Ga,ok.xk,ok.zi,ok.lE,ok.CQ⟩
section
variable {X:Cx}{pins:List (Addr×Obj)}{σ:St}{H:Hp}{s:Shared}{E:Value->Shared->Prop}
theorem Inv.qi(I:Inv X pins σ H s)(E:Value->Shared->Prop):Inv (X.qi E) pins σ H s:=⟨I.ok.qi E,I.os,I.bare,I.base,I.loc,I.cell,I.free,I.fW,I.pin,I.bQ,I.len⟩
theorem Inv.iN(I:Inv (X.qi E) pins σ H s):Inv X pins σ H s:=⟨I.ok.iN,I.os,I.bare,I.base,I.loc,I.cell,I.free,I.fW,I.pin,I.bQ,I.len⟩
theorem SP.iN{D:Ends}{f:Flow}{s':Shared}(h:SP (X.qi E) pins D f s'):SP X pins D f s':=by
 cases f with
 | next=>obtain⟨σ',H',I,q⟩:=h;exact⟨σ',H',I.iN,q⟩
 | brk=>obtain⟨σ',H',I,q⟩:=h;exact⟨σ',H',I.iN,q⟩
 | cont=>obtain⟨σ',H',I,q⟩:=h;exact⟨σ',H',I.iN,q⟩
 | ret u=>obtain⟨v,σ',H',I,r,q⟩:=h;exact⟨v,σ',H',I.iN,r,q⟩
theorem g9.yh{st:List Stmt}{t:TS}(h:g9 X.yh st t):g9 X st t:=λpins s σ H D I hw =>
 aaC (h pins s σ H D (I.qi _) hw) (λ_ _ q=>q.iN) λ_ _ z=>False.elim z
end
variable {H:Hp}{σ:L2.St}
section
variable {X:Cx}{st:Stmt}{rest:List Stmt}{t u:TS}{e:Expr}{te:TE}{pos:Pos}
noncomputable def JK:TS:=λD σ H=>D.nx σ H
noncomputable def Vb(t u:TS):TS:=λD σ H=>t { D with nx:=u D } σ H
theorem Ae:g9 X [] JK:=λ_ _ σ H _ I h=>abq ⟨σ,H,I,h⟩
theorem iw(h1:PS X st t)(h2:g9 X rest u):g9 X (st::rest) (Vb t u):=by
 intro pins s σ H D I h;refine wpAny_execs_cons (cI (h1 pins s σ H { D with nx:=u D } I h) λf s1 q=>?_);cases f with
 | next =>
  obtain⟨σ',H',I',q⟩:=q;exact h2 pins s1 σ' H' D I' q
 | ret v=>exact q
 | brk=>exact q
 | cont=>exact q
theorem mE(h1:PS X st t):g9 X [st] t:=by
 intro pins s σ H D I h;refine wpAny_execs_cons (cI (h1 pins s σ H D I h) λf s1 q=>?_);cases f with
 | next=>exact abq q
 | ret v=>exact q
 | brk=>exact q
 | cont=>exact q
noncomputable def K0:TS:=λD σ H=>D.bk σ H
noncomputable def P_:TS:=λD σ H=>D.ct σ H
theorem T9:PS X (.Pass pos) JK:=λ_ _ σ H _ I h=>wpAny_Pass ⟨σ,H,I,h⟩
theorem QN:PS X (.Break pos) K0:=λ_ _ σ H _ I h=>wpAny_Break ⟨σ,H,I,h⟩
theorem JV:PS X (.Continue pos) P_:=λ_ _ σ H _ I h=>wpAny_Continue ⟨σ,H,I,h⟩
theorem Inv.quiet{pins:List (Addr×Obj)}{s:Shared}(I:Inv X pins σ H s):interactive X.env=false:=by simp[interactive,I.ok.kind]
noncomputable def P9(te:TE):TS:=λD σ H=>te σ H λ_ H1=>D.nx σ H1
theorem pT(he:PE X e te)(hs:swapsWith e none pos.line X.env=pure false:=by rfl):PS X (.Expr e pos) (P9 te):=by
 intro pins s σ H D I h;exact wpAny_Expr_any (cI (he pins s σ H _ I h) λv s1 ⟨x,H1,I1,r1,q1⟩=>⟨σ,H1,I1,q1⟩) I.quiet hs
noncomputable def Vc(te:TE):TS:=λD σ H=>te σ H D.rt
theorem yL(he:PE X e te):PS X (.Return (some e) pos) (Vc te):=by
 intro pins s σ H D I h;exact wpAny_Return_some (cI (he pins s σ H _ I h) λv s1 ⟨x,H1,I1,r1,q1⟩=>⟨x,σ,H1,I1,r1,q1⟩)
noncomputable def P4:TS:=λD _ H=>D.rt .bh H
theorem T8:PS X (.Return none pos) P4:=λ_ _ σ H _ I h=>wpAny_Return_none ⟨.bh,σ,H,I,rfl,h⟩
noncomputable def Vh(c:TT)(t u:TS):TS:=λD σ H=>c σ H λb H1=>if b=true then t D σ H1 else u D σ H1
theorem JU{c:Expr}{a b:List Stmt}{tc:TT}(hc:PT X c tc)(ha:g9 X a t)(hb:g9 X b u):PS X (.If c a b pos) (Vh tc t u):=by
 intro pins s σ H D I h;refine wpAny_If (cI (hc pins s σ H _ I h) λd s1 ⟨H1,I1,q1⟩=>?_);cases d with
 | true=>exact ha pins s1 σ H1 D I1 q1
 | false=>exact hb pins s1 σ H1 D I1 q1
noncomputable def KZ:TS:=λ_ _ _=>False
end
noncomputable abbrev TG:=V->St->Hp->(St->Hp->Prop)->Prop
noncomputable abbrev JA:=List V->St->Hp->(St->Hp->Prop)->Prop
def PG(X:Cx)(target:Expr)(t:TG):Prop :=
 ∀(pins:List (Addr×Obj)) (s:Shared) (σ:St) (H:Hp) (v:V) (u:Value) (Q:St->Hp->Prop),Inv X pins σ H s->RelV v u->t v σ H Q ->
  wpAny (model X.prog X.w) X.A (assign target X.env u) (λ_ s'=>∃ σ' H',Inv X pins σ' H' s'/\Q σ' H') X.xe s
def Pj(X:Cx)(ts:List Expr)(t:JA):Prop :=
 ∀(pins:List (Addr×Obj)) (s:Shared) (σ:St) (H:Hp) (vs:List V) (us:List Value) (Q:St->Hp->Prop),Inv X pins σ H s->Vals vs us->t vs σ H Q ->
  wpAny (model X.prog X.w) X.A (assignInOrder ((assignEach ts X.env).map (·.2)) us) (λ_ s'=>∃ σ' H',Inv X pins σ' H' s'/\Q σ' H') X.xe s
noncomputable abbrev Ot:=V->V->V->Hp->(Hp->Prop)->Prop
def Tx(X:Cx)(t:Ot):Prop :=
 ∀(pins:List (Addr×Obj)) (s:Shared) (σ:St) (H:Hp) (o i v:V) (ov iv u:Value) (Q:Hp->Prop),Inv X pins σ H s->RelV o ov->RelV i iv->RelV v u->t o i v H Q ->
  wpAny (model X.prog X.w) X.A (setItem ov iv u) (λ_ s'=>∃ H',Inv X pins σ H' s'/\Q H') X.xe s
noncomputable abbrev UW:=V->V->Hp->VK->Prop
def Yt(X:Cx)(op:Operator)(t:UW):Prop :=
 ∀(pins:List (Addr×Obj)) (s:Shared) (σ:St) (H:Hp) (x y:V) (v u:Value) (Q:VK),Inv X pins σ H s->RelV x v->RelV y u->t x y H Q ->
  wpAny (model X.prog X.w) X.A (inplaceOp op v u) (EP X pins σ Q) X.xe s
variable {es:List Expr}{pos':Pos}{te:TE}{tg:Expr}
section
variable {X:Cx}{pos:Pos}
noncomputable def rn(i:Nat):TG:=λv σ H Q=>Q (σ.set i (some v)) H
theorem uV{i:Nat}{x:Str}(hN:X.N.Nodup)(hi:X.N[i]?=some x)(hx:Loc X.env.scope x)(hf:X.fn x=true\/X.env.scope.names.lookup x=some .local:=by first | exact .inl rfl | exact .inr rfl | assumption):PG X (.Name x pos) (rn i):=by
 intro pins s σ H v u Q I r h;exact wpAny_assign_Name (iu I hN hi hx r (λs' I'=>⟨_,H,I',h⟩) hf)
noncomputable def Nj:JA:=λvs σ H Q=>vs=[]/\Q σ H
noncomputable def Fx(t:TG)(u:JA):JA:=λvs σ H Q=>∃ v r,vs=v::r/\t v σ H λσ' H'=>u r σ' H' Q
theorem Al:Pj X [] Nj:=by
 intro pins s σ H vs us Q I r h;obtain⟨e,h⟩:=h;subst e;cases r;exact assignInOrder_nil ⟨σ,H,I,h⟩
theorem xf{e:Expr}{t:TG}{u:JA}(h1:PG X e t)(h2:Pj X es u)
  (hs:(assignEach (e::es) X.env).map (·.2)=assign e X.env::(assignEach es X.env).map (·.2):=by rfl):Pj X (e::es) (Fx t u):=by
 intro pins s σ H vs us Q I r h;obtain⟨v,vr,e1,h⟩:=h;subst e1;cases r with
 | cons r rr =>
  rw[hs];refine assignInOrder_cons (cI (h1 pins s σ H _ _ _ I r h) λ_ s1 ⟨σ1,H1,I1,q1⟩=>?_);exact h2 pins s1 σ1 H1 _ _ Q I1 rr q1
def Xz(K:PySem.W.Frag)(n:Nat)(t:JA):TG:=λv σ H Q=>∃ a xs,v=.ref a/\aG K H a xs/\xs.length=n/\t xs σ H Q
theorem D0{k:Nat}{t:JA}{n:Nat}(hc:X.calm=true)(h:Pj X es t)
  (hn:(assignEach es X.env).length=n:=by rfl) (pZ:(assignEach es X.env).findIdx? (·.1)=none:=by rfl):PG X (.Tuple es k pos) (Xz X.K n t):=by
 intro pins s σ H v u Q I r hw;obtain⟨a,xs,e1,hq,hl,hw⟩:=hw;subst e1;cases r;obtain⟨ao,rv,ht,hz⟩:=I.tuple hq;refine assign_Tuple_tuple (I.ok.hd hc) ht (by simp[hn,<- hl,rv.length]) pZ λh' hx=>?_;have I1:Inv X pins σ H { s with heap:=h' }:=I.kept (t':=s.toks) λb o e=>hx b o (aat (aap e)) e;exact h pins _ σ H xs _ Q I1 (by simpa using rv) hw
noncomputable def XA(to ti:TE)(t:Ot):TG:=λv σ H Q=>to σ H λo H1=>ti σ H1 λi H2=>t o i v H2 λH3=>Q σ H3
theorem VS{o i:Expr}{to ti:TE}{t:Ot}(ho:PE X o to)(hi:PE X i ti)(hs:Tx X t)
  (ha:∀ v,assign (.Subscript o i pos) X.env v=(do
   let ov <- holding [v] (eval o X.env)
   let iv <- holding [v,ov] (eval i X.env)
   standAt pos
   holding [v,ov,iv] (setItem ov iv v)
   release [v,ov,iv] []):=by intro _;rfl):PG X (.Subscript o i pos) (XA to ti t):=by
 intro pins s σ H v u Q I r h;rw[ha];refine aah (aaO (cI (ho pins s σ H _ I h) λov s1 ⟨x,H1,I1,r1,q1⟩=>?_));refine aah (aaO (cI (hi pins s1 σ H1 _ I1 q1) λiv s2 ⟨y,H2,I2,r2,q2⟩=>?_));refine aah (ace (aah (aaO (cI (hs pins s2 σ H2 x y v ov iv u _ I2 r1 r2 r q2) λ_ s3 ⟨H3,I3,q3⟩=>?_))));exact wpAny_release ⟨σ,H3,I3,q3⟩
noncomputable def Qc(te:TE)(g:TG):TS:=λD σ H=>te σ H λx H1=>g x σ H1 D.nx
theorem DX{e:Expr}{g:TG}(he:PE X e te)(hg:PG X tg g)(hs:swapsWithSole [tg] e pos.line X.env=pure false:=by rfl)(hw:swappedStores [tg] e X.env=pure none:=by rfl)
  (h1:(assignEach [tg] X.env).map (·.2)=[assign tg X.env]:=by rfl):PS X (.Assign [tg] e pos) (Qc te g):=by
 intro pins s σ H D I h;refine wpAny_Assign_stores (cI (he pins s σ H _ I h) λv s1 ⟨x,H1,I1,r1,q1⟩=>?_) hs hw;rw[h1];exact cI (hg pins s1 σ H1 x v _ I1 r1 q1) λ_ s2 q=>q
theorem yK{i:Nat}{x:Str}{e:Expr}(hN:X.N.Nodup)(hi:X.N[i]?=some x)(hx:Loc X.env.scope x)(he:PE X e te)(hs:swapsWith e (some (.Name x pos')) pos.line X.env=pure false:=by rfl)(hf:X.fn x=true\/X.env.scope.names.lookup x=some .local:=by first | exact .inl rfl | exact .inr rfl | assumption):
  PS X (.Assign [.Name x pos'] e pos) (Qc te (rn i)):=by
 intro pins s σ H D I h;refine wpAny_Assign_Name (cI (he pins s σ H _ I h) λv s1 ⟨y,H1,I1,r1,q1⟩=>?_) hs;exact iu I1 hN hi hx r1 (λs2 I2=>⟨_,H1,I2,q1⟩) hf
noncomputable def Vd(i j:Nat)(ta:TA):TS:=λD σ H=>ta σ H λvs H1=>∃ v w,vs=[v,w]/\D.nx ((σ.set i (some v)).set j (some w)) H1
theorem LC{i j:Nat}{x y:Str}{a b:Expr}{ta:TA}{px py pt:Pos}{kt k2 OE}(hc:X.calm=true)(hN:X.N.Nodup)(hi:X.N[i]?=some x)(hj:X.N[j]?=some y)(la:i≠j)
  (hx:X.env.scope.names.lookup x=some .local) (hy:X.env.scope.names.lookup y=some .local) (ha:PA X [a,b] ta)
  (hw:swappedStores [.Tuple [.Name x px,.Name y py] kt pt] (.Tuple [a,b] k2 OE) X.env=pure (some [x,y]))
  (hs:swapsWithSole [.Tuple [.Name x px,.Name y py] kt pt] (.Tuple [a,b] k2 OE) pos.line X.env=pure false:=by rfl) :
  PS X (.Assign [.Tuple [.Name x px,.Name y py] kt pt] (.Tuple [a,b] k2 OE) pos) (Vd i j ta):=by
 intro pins s σ H D I h;rw[exec_Assign_arm];refine aah (ace ?_);rw[hs];refine aah (aaq ?_);rw[if_neg (by decide)];refine aah (Tuple_ (cI (ha _ pins s σ H _ I h) λus s1 ⟨vs,H1,I1,r1,q1⟩=>?_));obtain⟨v,w,e1,q1⟩:=q1;subst e1;obtain⟨u1,u2,rfl,rv,mB⟩:∃ u1 u2,us=[u1,u2]/\RelV v u1/\RelV w u2:=by
  cases r1 with
  | cons p q =>
   cases q with
   | cons p' q' =>
    cases q';exact⟨_,_,rfl,p,p'⟩
 refine abj ?_ (by show 2<=sizeLine;decide);have I2:Inv X pins σ H1 { s1 with heap:=s1.heap.push { cls:=.type "tuple",data:=.seq [u1,u2].toArray } }:=I1.kept (t':=s1.toks) λb o e=>aar _ e;rw[hw];refine aah (aaq ?_);show wpAny (model X.prog X.w) X.A (do rule "assign.swapped-stores";let items <- unpackItems (.ref s1.heap.objs.size) 2 none;assignInOrder [λv=>bindName X.env y v,λv=>bindName X.env x v] items.reverse;pure Flow.next) _ _ _;refine aah (wpAny_rule (aah (unpackItems_tuple (items:=#[u1,u2]) (I.ok.hd hc) (IsTup.new s1.heap _) λh' CN=>?_)));have I3:=I2.kept (h':=h') (t':=s1.toks) λb o e=>CN b o (aat (aap e)) e;show wpAny _ _ (assignInOrder [λv=>bindName X.env y v,λv=>bindName X.env x v] [u2,u1] >>= λ_=>pure Flow.next) _ _ _;refine aah (assignInOrder_cons (wpAny_bindName (iu I3 hN hj (.inl hy) mB (λs2 I4=>?_) (.inr hy))));refine assignInOrder_cons (wpAny_bindName (iu I4 hN hi (.inl hx) rv (λs3 I5=>assignInOrder_nil (aaq ?_)) (.inr hx)));rw[List.set_comm _ _ (Ne.symm la)]at I5;exact⟨_,H1,I5,q1⟩
noncomputable def Vk(i:Nat)(te:TE)(ti:UW):TS:=λD σ H=>∃ x,σ[i]?=some (some x)/\te σ H λy H1=>ti x y H1 λz H2=>D.nx (σ.set i (some z)) H2
theorem VQ{i:Nat}{x:Str}{e:Expr}{op:Operator}{ti:UW}(hN:X.N.Nodup)(hi:X.N[i]?=some x)(hx:Loc X.env.scope x)(he:PE X e te)(ho:Yt X op ti)(hf:X.fn x=true\/X.env.scope.names.lookup x=some .local:=by first | exact .inl rfl | exact .inr rfl | assumption):
  PS X (.AugAssign (.Name x pos') op e pos) (Vk i te ti):=by
 intro pins s σ H D I h;obtain⟨v,e1,h⟩:=h;obtain⟨m,hn,hl⟩:=I.loc;have TH:Jz X.env.scope x:=by rcases hx with k | k;exact .inl k;exact .inr (.inl k)
 obtain⟨u,r,l⟩:=hl i x v hi e1 TH;refine wpAny_AugAssign_Name ?_;have go:wpAny (model X.prog X.w) X.A (eval e X.env) (λw s₂=>wpAny (model X.prog X.w) X.A (inplaceOp op u w) (λr s₃=>wpAny (model X.prog X.w) X.A (storeName X.env x r) (λ_=>SP X pins D .next) X.xe s₃) X.xe s₂) X.xe s:=by
  refine cI (he pins s σ H _ I h) λw s1 ⟨y,H1,I1,r1,q1⟩=>?_;refine cI (ho pins s1 σ H1 v y u w _ I1 r r1 q1) λz s2 ⟨zv,H2,I2,r2,q2⟩=>?_;exact iu I2 hN hi hx r2 (λs3 I3=>⟨_,H2,I3,q2⟩) hf
 rcases l with ⟨hk,hm⟩ | ⟨hk,c,hc,hcell⟩
 ·exact wpAny_loadName_local I.ok.kind hk hn hm go
 ·rcases hk with hk | hk
  ·exact wpAny_loadName_cell I.ok.kind hk hc hcell go
  ·rcases hx with k | k
   ·have:X.env.scope.names.lookup x=some .free:=hk;rw[k]at this;cases this
   ·have:X.env.scope.names.lookup x=some .free:=hk;rw[k]at this;cases this
noncomputable def Zs(f:Int->Int->Int):UW:=λx y H Q=>∃ i j,x=.int i/\y=.int j/\Q (.int (f i j)) H
theorem Ws:Yt X .Add (Zs λi j=>i+j):=by
 intro pins s σ H x y v u Q I r1 r2 h;obtain⟨i,j,e1,e2,q⟩:=h;subst e1;subst e2;obtain⟨t,rfl⟩:=r1;obtain⟨t',rfl⟩:=r2;exact iadd_int ⟨.int _,H,I.tok _,⟨_,rfl⟩,q⟩
theorem Wr:Yt X .Sub (Zs λi j=>i - j):=by
 intro pins s σ H x y v u Q I r1 r2 h;obtain⟨i,j,e1,e2,q⟩:=h;subst e1;subst e2;obtain⟨t,rfl⟩:=r1;obtain⟨t',rfl⟩:=r2;exact isub_int ⟨.int _,H,I.tok _,⟨_,rfl⟩,q⟩
end
section
variable {X:Cx}{pos:Pos}
noncomputable def KW(c:TT)(tb:TS):TS:=λD σ H=>∃ W:Nat->St->Hp->Prop,(∃ m,W m σ H)/\∀ m σ H,W m σ H ->
 c σ H λb H1=>if b=true then ∃ N:St->Hp->Prop,(∀ σ' H',N σ' H'->∃ m',m'<m/\W m' σ' H')/\tb { D with nx:=N,ct:=N,bk:=D.nx } σ H1 else D.nx σ H1
theorem DU{c:Expr}{body:List Stmt}{tc:TT}{tb:TS}(hp:PassesOwn (model X.prog X.w) X.A X.env X.xe)(hc:PT X c tc)(hb:g9 X body tb):PS X (.While c body [] pos) (KW tc tb):=by
 intro pins s σ H D I h;obtain⟨W,⟨m0,w0⟩,turn⟩:=h;refine wpAny_While (codeAny_whileLoop (λn s'=>∃ σ' H',Inv X pins σ' H' s'/\W n σ' H') ?_ m0 ⟨σ,H,I,w0⟩);rintro n s1 ⟨σ1,H1,I1,w1⟩;refine aa8 hp (cI (hc pins s1 σ1 H1 _ I1 (turn n σ1 H1 w1)) λb s2 ⟨H2,I2,q2⟩=>?_);cases b with
 | true =>
  obtain⟨N,hN,q2⟩:=q2;rw[if_pos rfl];refine aa8 hp (cI (hb pins s2 σ1 H2 _ I2 q2) λf s3 q3=>?_);cases f with
  | next =>
   obtain⟨σ3,H3,I3,n3⟩:=q3;obtain⟨m',hm,w3⟩:=hN σ3 H3 n3;exact⟨m',hm,σ3,H3,I3,w3⟩
  | cont =>
   obtain⟨σ3,H3,I3,n3⟩:=q3;obtain⟨m',hm,w3⟩:=hN σ3 H3 n3;exact⟨m',hm,σ3,H3,I3,w3⟩
  | brk=>exact q3
  | ret v=>exact q3
 | false =>
  rw[if_neg Bool.false_ne_true];exact abq ⟨σ1,H2,I2,q2⟩
end
structure It where
 go:Nat->Hp->Prop
 yf:Nat->Hp->V->Hp->Prop
 stop:Nat->Hp->Prop
noncomputable def sv(X:Cx)(pins:List (Addr×Obj))(H:Hp)(b:Addr):Prop :=
 H b=none/\b≠X.env.locals/\b∉X.fs/\(b∈X.ex\/X.s₀.heap.objs.size<=b)/\(∀ x c,X.env.cells.lookup x=some c->c≠b)/\∀ p∈X.pn++pins,p.1≠b
theorem Inv.Fz{pins:List (Addr×Obj)}{H':Hp}{s:Shared}{b:Addr}(I:Inv X pins σ H s)(hb:s.heap.objs.size<=b)(hn:H' b=none):sv X pins H' b:=by
 refine⟨hn,aaD (aan I.lt hb),I.L9 hb,.inr (aaI I.sz hb),λx c e z=>?_,λp hp z=>?_⟩
 ·obtain⟨v,q⟩:=I.cell x c e;exact absurd (aan q.lt (by rw[z];exact hb)) (aaF _)
 ·exact absurd (aan (aap (I.pin p hp).1) (by rw[z];exact hb)) (aaF _)
structure Turn(P:Program)(w:World)(K:PySem.W.Frag)(tg:Expr)(J:It)(fp:List Addr)(it:Addr)(tn:Nat->Heap->Prop):Prop where
 mem:it∈fp
 obj:∀ i h,tn i h->∀ b∈fp,∃ o,h.get? b=some o/\∀ v,o.data≠.cell v
 keep:∀ i h h',tn i h->(∀ b∈fp,∀ o,h.get? b=some o->h'.get? b=some o)->tn i h'
 item:∀(X:Cx),X.prog=P->X.w=w->X.K=K->X.calm=true->∀(i:Nat) (pins:List (Addr×Obj)) (s:Shared) (σ:St) (H:Hp) (E:Value->Shared->Prop),Inv X pins σ H s->(∀ b∈fp,sv X pins H b)->tn i s.heap->J.go i H ->
  wpAny (model P w) X.A (pyNext (.ref it)) (λr s1=>∃ u,r=some u /\
   wpAny (model P w) X.A (letOwnedTupleGo tg (.ref it) u) (λ_ s2=>∃ x H',Inv X pins σ H' s2/\RelV x u/\J.yf i H x H'/\tn (i+1) s2.heap/\∀ b∈fp,H' b=none) E s1) E s
 done:∀(X:Cx),X.prog=P->X.w=w->X.K=K->X.calm=true->∀(i:Nat) (pins:List (Addr×Obj)) (s:Shared) (σ:St) (H:Hp) (E:Value->Shared->Prop),Inv X pins σ H s->(∀ b∈fp,sv X pins H b)->tn i s.heap->J.stop i H ->
  wpAny (model P w) X.A (pyNext (.ref it)) (λr s1=>r=none/\Inv X pins σ H s1) E s
 self:∀(A:Around) (i:Nat) (s:Shared) (Q:Value->Shared->Prop) (E:Value->Shared->Prop),tn i s.heap->Q (.ref it) s->wpAny (model P w) A (pyIter (.ref it)) Q E s
noncomputable abbrev TI:=St->Hp->(It->Hp->Prop)->Prop
def Gk(X:Cx)(pins:List (Addr×Obj))(σ:St)(tg:Expr)(R:It->Hp->Prop)(Wi:Value)(s2:Shared):Prop :=
 ∃(it:Addr) (fp:List Addr) (tn:Nat->Heap->Prop) (J:It) (H':Hp),Wi=.ref it/\Inv X pins σ H' s2/\Turn X.prog X.w X.K tg J fp it tn/\tn 0 s2.heap/\(∀ b∈fp,sv X pins H' b)/\R J H'
def PI(X:Cx)(tg iter:Expr)(wi:TI):Prop :=
 ∀(pins:List (Addr×Obj)) (s:Shared) (σ:St) (H:Hp) (R:It->Hp->Prop),Inv X pins σ H s->wi σ H R ->
  wpAny (model X.prog X.w) X.A (eval iter X.env) (λv s1=>wpAny (model X.prog X.w) X.A (pyIter v) (Gk X pins σ tg R) X.xe s1) X.xe s
theorem AL{M:Model}{A:Around}{s:Shared}{it:Addr}{u:Value}{o:Obj}{n:String}{vs:Array Value}{Q:Unit->Shared->Prop}(ho:s.heap.get? it=some o)(hc:o.cls=.type n)(hd:o.data=.fields vs)
    (hn:["enumerate","zip","dict_itemiterator","dict_reverseitemiterator","odict_iterator","itertools.zip_longest","itertools.pairwise"].contains n=false) (hQ:Q () s):wpAny M A (letOwnedTupleGo tg (.ref it) u) Q E s:=by
  unfold letOwnedTupleGo;cases tg<;>first
    | exact aaq hQ
    | (cases u<;>first
        | exact aaq hQ
        | (refine aah (wpAny_load ho ?_)
           rw[hc,hd];show wpAny M A (if (["enumerate","zip","dict_itemiterator","dict_reverseitemiterator","odict_iterator","itertools.zip_longest","itertools.pairwise"].contains n&&vs[0]?==some (rawInt _))=true then _ else _) Q E s;rw[if_neg (by intro h;rw[hn,Bool.false_and]at h;cases h)];exact aaq hQ))
def Pl(K:PySem.W.Frag)(a:Addr):It :=
 ⟨λi H=>∃ xs x,cV K H a xs/\xs[i]?=some x,λi H x H'=>H'=H/\∀ xs,cV K H a xs->xs[i]?=some x,λi H=>∃ xs,cV K H a xs/\xs.length<=i⟩
def Pk(K:PySem.W.Frag)(a:Addr):It :=
 ⟨λi H=>∃ xs x,aG K H a xs/\xs[i]?=some x,λi H x H'=>H'=H/\∀ xs,aG K H a xs->xs[i]?=some x,λi H=>∃ xs,aG K H a xs/\xs.length<=i⟩
noncomputable def CG(lo:Int)(n:Nat):It:=⟨λi _=>i<n,λi H x H'=>H'=H/\x=.int (lo+i),λi _=>n<=i⟩
variable {P:Program}{w:World}
theorem Bw(a it:Addr):Turn P w K tg (Pl K a) [it] it (λi h=>h.IsListIter it a i) where
 mem:=by simp
 obj:=λi h st b hb=>by
  have e:b=it:=by simpa using hb
  subst e;obtain⟨o,e,c,d⟩:=st;exact⟨o,e,λv z=>by rw[d]at z;cases z⟩
 keep:=λi h h' st k=>st.at λo e=>k it (by simp) o e
 item:=by
  intro X hP hw hK hc i pins s σ H E I hf st hg;subst hP hw hK;obtain⟨xs,x,hq,hx⟩:=hg;obtain⟨ao,rv,p,hz⟩:=I.list hq;obtain⟨u,hu,ru⟩:=rv.get hx;obtain⟨f0,f1,f2,f3,f4,f5⟩:=hf it (by simp);refine wpAny_pyNext_list_item st p.isList (x:=u) (by simpa using hu) λh' o8 sb=>?_;have I1:Inv X pins σ H { s with heap:=h' }:=I.turned (t':=s.toks) (λb o hb e=>(sb.2 b hb).trans e) f0 f1 f3 f4 f5;obtain⟨o,e,c,d⟩:=id o8;exact⟨u,rfl,AL (s:={ s with heap:=h' }) e c d (by decide) ⟨x,H,I1,ru,⟨rfl,λys hy=>by rw[I.mG hy hq];exact hx⟩,o8,λb hb=>(hf b hb).1⟩⟩
 done:=by
  intro X hP hw hK hc i pins s σ H E I hf st hg;subst hP hw hK;obtain⟨xs,hq,hx⟩:=hg;obtain⟨ao,rv,p,hz⟩:=I.list hq;obtain⟨f0,f1,f2,f3,f4,f5⟩:=hf it (by simp);have hl:=rv.length;exact wpAny_pyNext_list_end (I.ok.hd hc) st p.isList (by simp;left) λh' eb=>⟨rfl,I.turned (t':=s.toks) (λb o hb e=>eb b o hb e) f0 f1 f3 f4 f5⟩
 self:=λ_ _ _ _ _ st h=>wpAny_pyIter_listiter st h
theorem yx(a it:Addr):Turn P w K tg (Pk K a) [it] it (λi h=>h.IsTupleIter it a i) where
 mem:=by simp
 obj:=λi h st b hb=>by
  have e:b=it:=by simpa using hb
  subst e;obtain⟨o,e,c,d⟩:=st;exact⟨o,e,λv z=>by rw[d]at z;cases z⟩
 keep:=λi h h' st k=>st.at λo e=>k it (by simp) o e
 item:=by
  intro X hP hw hK hc i pins s σ H E I hf st hg;subst hP hw hK;obtain⟨xs,x,hq,hx⟩:=hg;obtain⟨ao,rv,p,hz⟩:=I.tuple hq;obtain⟨u,hu,ru⟩:=rv.get hx;obtain⟨f0,f1,f2,f3,f4,f5⟩:=hf it (by simp);refine wpAny_pyNext_tuple_item st (show s.heap.IsTuple a ao.toArray from p) (x:=u) (by simpa using hu) λh' o8 sb=>?_;have I1:Inv X pins σ H { s with heap:=h' }:=I.turned (t':=s.toks) (λb o hb e=>(sb.2 b hb).trans e) f0 f1 f3 f4 f5;obtain⟨o,e,c,d⟩:=id o8;exact⟨u,rfl,AL (s:={ s with heap:=h' }) e c d (by decide) ⟨x,H,I1,ru,⟨rfl,λys hy=>by rw[I.tP hy hq];exact hx⟩,o8,λb hb=>(hf b hb).1⟩⟩
 done:=by
  intro X hP hw hK hc i pins s σ H E I hf st hg;subst hP hw hK;obtain⟨xs,hq,hx⟩:=hg;obtain⟨ao,rv,p,hz⟩:=I.tuple hq;obtain⟨f0,f1,f2,f3,f4,f5⟩:=hf it (by simp);have hl:=rv.length;exact wpAny_pyNext_tuple_end (I.ok.hd hc) st (show s.heap.IsTuple a ao.toArray from p) (by simp;left) λh' eb=>⟨rfl,I.turned (t':=s.toks) (λb o hb e=>eb b o hb e) f0 f1 f3 f4 f5⟩
 self:=λ_ _ _ _ _ st h=>wpAny_pyIter_tupleiter st h
theorem yy(it:Addr)(lo:Int)(n:Nat):Turn P w K tg (CG lo n) [it] it (λi h=>IsRangeIter h it (lo+(i:Nat)*1) ((n:Int) - (i:Nat)) 1) where
 mem:=by simp
 obj:=λi h st b hb=>by
  have e:b=it:=by simpa using hb
  subst e;exact⟨_,st,λv z=>by
   have z':Data.fields _=Data.cell v:=z;cases z'⟩
 keep:=λi h h' st k=>k it (by simp) _ st
 item:=by
  intro X hP hw hK hc i pins s σ H E I hf st hg;subst hP hw hK;obtain⟨f0,f1,f2,f3,f4,f5⟩:=hf it (by simp);have W:=Walks.range (prog:=X.prog) (w:=X.w) (I.ok.hd hc) it lo 1 n;refine W.item i s _ _ hg st λv h' tk hv o8 kk=>?_;obtain⟨t,rfl⟩:=hv;have I1:Inv X pins σ H { s with heap:=h',toks:=tk }:=I.turned (λb o hb e=>kk b o (by simpa using hb) e) f0 f1 f3 f4 f5;refine⟨_,rfl,AL (s:={ s with heap:=h',toks:=tk }) (n:="range_iterator") o8 rfl rfl (by decide) ⟨.int (lo+i),H,I1,⟨t,?_⟩,⟨rfl,rfl⟩,o8,λb hb=>(hf b hb).1⟩⟩;rw[Int.mul_one]
 done:=by
  intro X hP hw hK hc i pins s σ H E I hf st hg;subst hP hw hK;obtain⟨f0,f1,f2,f3,f4,f5⟩:=hf it (by simp);exact wpAny_pyNext_range_end (I.ok.hd hc) st (by have:n<=i:=hg;left) λh' eb=>⟨rfl,I.turned (t':=s.toks) (λb o hb e=>eb b o hb e) f0 f1 f3 f4 f5⟩
 self:=λ_ _ _ _ _ st h=>wpAny_pyIter_rangeiter st h
end L2
namespace L2
open PySem PySem.Spec PyProof.Rows
variable {H:Hp}{fp:List Addr}{lo:Int}{pos:Pos}{ta:TA}{σ:L2.St}
section
variable {X:Cx}{tg:Expr}
def RF(K:PySem.W.Frag)(tl:TE):TI:=λσ H R=>tl σ H λx H1=>∃ a,x=.ref a/\(∃ xs,cV K H1 a xs)/\R (Pl K a) H1
def Wu(K:PySem.W.Frag)(tl:TE):TI:=λσ H R=>tl σ H λx H1=>∃ a,x=.ref a/\(∃ xs,aG K H1 a xs)/\R (Pk K a) H1
theorem Ak{l:Expr}{tl:TE}(hl:PE X l tl):PI X tg l (RF X.K tl):=by
 intro pins s σ H R I h;refine cI (hl pins s σ H _ I h) λv s1 ⟨x,H1,I1,r1,q1⟩=>?_;obtain⟨a,e,⟨xs,hq⟩,q⟩:=q1;subst e;cases r1;obtain⟨ao,rv,p,hz⟩:=I1.list hq;refine wpAny_pyIter_list p.isList ?_;refine⟨s1.heap.objs.size,[s1.heap.objs.size],_,_,H1,rfl,I1.kept (t':=s1.toks) λb o e=>aar _ e,Bw a _,⟨_,aaw _ rfl,rfl,rfl⟩,λb hb=>?_,q⟩;have e:b=s1.heap.objs.size:=by simpa using hb
 subst e;exact I1.Fz (aas _) (I1.bQ.fresh (aas _))
theorem DZ{l:Expr}{tl:TE}(hl:PE X l tl):PI X tg l (Wu X.K tl):=by
 intro pins s σ H R I h;refine cI (hl pins s σ H _ I h) λv s1 ⟨x,H1,I1,r1,q1⟩=>?_;obtain⟨a,e,⟨xs,hq⟩,q⟩:=q1;subst e;cases r1;obtain⟨ao,rv,p,hz⟩:=I1.tuple hq;refine wpAny_pyIter_tuple (show s1.heap.IsTuple a ao.toArray from p) ?_;refine⟨s1.heap.objs.size,[s1.heap.objs.size],_,_,H1,rfl,I1.kept (t':=s1.toks) λb o e=>aar _ e,yx a _,⟨_,aaw _ rfl,rfl,rfl⟩,λb hb=>?_,q⟩;have e:b=s1.heap.objs.size:=by simpa using hb
 subst e;exact I1.Fz (aas _) (I1.bQ.fresh (aas _))
theorem w9{pins:List (Addr×Obj)}{s:Shared}{R:It->Hp->Prop}{E:Value->Shared->Prop}{hi:Int}{t u v:Tok}{tk:Nat}(I:Inv X pins σ H s)(h1:-(2 ^ 62)<=lo)(h2:lo<2 ^ 62)(h3:-(2 ^ 62)<=hi)(h4:hi<2 ^ 62)
  (q:R (CG lo (hi - lo).toNat) H):wpAny (model X.prog X.w) X.A (pyIter (.ref s.heap.objs.size)) (Gk X pins σ tg R) E { s with heap:=s.heap.push { cls:=.type "range",data:=.fields #[.int lo t,.int hi u,.int 1 v] },toks:=tk }:=by
 refine wpAny_pyIter_range (IsRange.new ..) (small_one h1 h2 h3 h4) ?_;have I1:Inv X pins σ H { s with heap:=s.heap.push { cls:=.type "range",data:=.fields #[.int lo t,.int hi u,.int 1 v] },toks:=tk }:=I.kept λb o e=>aar _ e;refine⟨(s.heap.push { cls:=.type "range",data:=.fields #[.int lo t,.int hi u,.int 1 v] }).objs.size,[(s.heap.push { cls:=.type "range",data:=.fields #[.int lo t,.int hi u,.int 1 v] }).objs.size],_,_,H,rfl,
  I1.kept (t':=tk) λb o e=>aar _ e,yy _ lo (hi - lo).toNat,?_,λb hb=>?_,q⟩
 ·have e1:lo+((0:Nat):Int)*1=lo:=by simp
  have e2:(((hi - lo).toNat:Nat):Int) - ((0:Nat):Int)=Builtin.Range.rangeSize lo hi 1:=by rw[rangeSize_one];split<;>left
  show IsRangeIter _ _ (lo+((0:Nat):Int)*1) ((((hi - lo).toNat:Nat):Int) - ((0:Nat):Int)) 1;rw[e1,e2];exact aaw _ rfl
 ·have e:b=(s.heap.push { cls:=.type "range",data:=.fields #[.int lo t,.int hi u,.int 1 v] }).objs.size:=by simpa using hb
  subst e;exact I1.Fz (aas _) (I1.bQ.fresh (aas _))
def RE(ta:TA):TI:=λσ H R=>ta σ H λvs H1=>∃ j:Int,vs=[.int j] /\ -(2 ^ 62)<=j/\j<2 ^ 62/\R (CG 0 j.toNat) H1
def RD(ta:TA):TI:=λσ H R=>ta σ H λvs H1=>∃ i j:Int,vs=[.int i,.int j]/\(-(2 ^ 62)<=i/\i<2 ^ 62 /\ -(2 ^ 62)<=j/\j<2 ^ 62)/\R (CG i (j - i).toNat) H1
theorem ua{a:Expr}{p:Pos}(hg:Gl X "range")(hm:X.mg "range" = none)(ha:PA X [a] ta)(hs:starEach [a] X.env=[(false,eval a X.env)]:=by rfl):PI X tg (.Call (.Name "range" p) [a] [] pos) (RE ta):=by
 intro pins s σ H R I h;refine Call_ (gT I hg hm boot_range (aaH (cI (ha pos pins s σ H _ I h) λus s1 ⟨vs,H1,I1,r1,q1⟩=>?_) hs rfl));obtain⟨j,e,q1,q2,q⟩:=q1;subst e;cases r1 with
 | cons r rr =>
  cases rr;obtain⟨t,rfl⟩:=r;exact call_range_1 (w9 I1 (by left) (by left) q1 q2 (by simpa using q))
theorem OF{a b:Expr}{p:Pos}(hg:Gl X "range")(hm:X.mg "range" = none)(ha:PA X [a,b] ta)(hs:starEach [a,b] X.env=[(false,eval a X.env),(false,eval b X.env)]:=by rfl)(OW:starEach [b] X.env=[(false,eval b X.env)]:=by rfl):
  PI X tg (.Call (.Name "range" p) [a,b] [] pos) (RD ta):=by
 intro pins s σ H R I h;refine Call_ (gT I hg hm boot_range (aaH (cI (ha pos pins s σ H _ I h) λus s1 ⟨vs,H1,I1,r1,q1⟩=>?_) (by rw[hs,OW]) (by rw[OW];rfl)));obtain⟨i,j,e,⟨q1,q2,q3,q4⟩,q⟩:=q1;subst e;cases r1 with
 | cons r rr =>
  cases rr with
  | cons r' rr =>
   cases rr;obtain⟨t,rfl⟩:=r;obtain⟨t',rfl⟩:=r';exact call_range_2 (w9 I1 q1 q2 q3 q4 q)
noncomputable def Vi(wi:TI)(g:TG)(tb:TS):TS:=λD σ H=>wi σ H λJ H1=>∃ W:Nat->Nat->St->Hp->Prop,(∃ m,W 0 m σ H1)/\∀ i m σ H,W i m σ H ->
 (J.stop i H/\D.nx σ H)\/(J.go i H/\∃ N:St->Hp->Prop,(∀ σ' H',N σ' H'->∃ m',m'<m/\W (i+1) m' σ' H')/\∀ x H',J.yf i H x H'->g x σ H' λσ2 H2=>tb { D with nx:=N,ct:=N,bk:=D.nx } σ2 H2)
noncomputable def jU(fp:List Addr)(h:Heap):List (Addr×Obj):=fp.filterMap λb=>(h.get? b).map λo=>(b,o)
theorem iW{h:Heap}{b:Addr}{o:Obj}(hb:b∈fp)(e:h.get? b=some o):(b,o)∈jU fp h:=List.mem_filterMap.mpr ⟨b,hb,by rw[e];rfl⟩
theorem uc{h:Heap}{p:Addr×Obj}(hp:p∈jU fp h):p.1∈fp/\h.get? p.1=some p.2:=by
 obtain⟨b,hb,e⟩:=List.mem_filterMap.mp hp;cases q:h.get? b with
 | none=>rw[q]at e;cases e
 | some o =>
  rw[q]at e;have e':(b,o)=p:=aaA e;subst e';exact⟨hb,q⟩
theorem Inv.pinned{pins:List (Addr×Obj)}{s:Shared}(I:Inv X pins σ H s)(hf:∀ b∈fp,sv X pins H b)(ho:∀ b∈fp,∃ o,s.heap.get? b=some o/\∀ v,o.data≠.cell v):Inv X (pins++jU fp s.heap) σ H s :=
 I.kD λp hp=>(List.mem_append.mp hp).elim (λz=>I.pin p (aav _ z)) λz=>by
  obtain⟨hb,e⟩:=uc z;obtain⟨f0,f1,f2,_⟩:=hf p.1 hb;obtain⟨o,e',d⟩:=ho p.1 hb;rw[e]at e';cases e';exact⟨e,f0,f1,f2,d⟩
theorem Inv.mf{pins pl:List (Addr×Obj)}{s:Shared}(I:Inv X (pins++pl) σ H s):Inv X pins σ H s:=I.kD λp hp=>I.pin p (aav _ (aaG _ hp))
theorem uU{iter:Expr}{body:List Stmt}{wi:TI}{g:TG}{tb:TS}(hp:PassesOwn (model X.prog X.w) X.A X.env X.xe)(hc:X.calm=true)(hi:PI X tg iter wi)(hg:PG X tg g)(hb:g9 X body tb)
  (hs:∀ x,foldedSetIterable iter X.env x=pure x:=by intro _;rfl):PS X (.For tg iter body [] pos) (Vi wi g tb):=by
 intro pins s σ H D I h;refine wpAny_For (cI (hi pins s σ H _ I h) λv s1 h1=>cI h1 λWi s2 h2=>?_) hs;obtain⟨it,fp,tn,J,H2,e,I2,T,Qm,f2,W,⟨m0,w0⟩,turn⟩:=h2;subst e;have K4:∀ {H':Hp},(∀ b∈fp,H' b=none)->∀ b∈fp,sv X pins H' b:=λhn b hb=>⟨hn b hb,(f2 b hb).2⟩
 refine codeAny_forLoop_any (λn s'=>∃ i σ' H',Inv X pins σ' H' s'/\tn i s'.heap/\(∀ b∈fp,H' b=none)/\W i n σ' H') ?_ m0 ⟨0,σ,H2,I2,Qm,λb hb=>(f2 b hb).1,w0⟩;rintro n s3 ⟨i,σ3,H3,I3,st3,fr3,w3⟩;rcases turn i n σ3 H3 w3 with ⟨stop,qn⟩ | ⟨go,N,hN,step⟩
 ·refine aa8 hp (cI (T.done X rfl rfl rfl hc i pins s3 σ3 H3 X.xe I3 (K4 fr3) st3 stop) λr s4 ⟨hr,I4⟩=>?_);subst hr;exact abq ⟨σ3,H3,I4,qn⟩
 ·refine aa8 hp (cI (T.item X rfl rfl rfl hc i pins s3 σ3 H3 X.xe I3 (K4 fr3) st3 go) λr s4 ⟨u,hr,h4⟩=>?_);subst hr;refine aa8 hp (cI h4 λ_ s5 ⟨x,H5,I5,r5,y5,K7,XH⟩=>?_);have Yz:=I5.pinned (K4 XH) (T.obj _ _ K7);refine aa8 hp (cI (hg _ s5 σ3 H5 x u _ Yz r5 (step x H5 y5)) λ_ s6 ⟨σ6,H6,I6,q6⟩=>?_);refine aa8 hp (cI (hb _ s6 σ6 H6 _ I6 q6) λf s7 q7=>?_);have again:∀ {σ7:St} {H7:Hp},Inv X (pins++jU fp s5.heap) σ7 H7 s7->N σ7 H7->∃ m,m<n/\∃ i σ' H',Inv X pins σ' H' s7/\tn i s7.heap/\(∀ b∈fp,H' b=none)/\W i m σ' H':=λ{σ7 H7} I7 n7=>by
   obtain⟨m',hm,w7⟩:=hN σ7 H7 n7;refine⟨m',hm,i+1,σ7,H7,I7.mf,T.keep _ _ _ K7 λb hb o e=>(I7.pin (b,o) (aav _ (aav _ (iW hb e)))).1,λb hb=>?_,w7⟩;obtain⟨o,e,d⟩:=T.obj _ _ K7 b hb;exact(I7.pin (b,o) (aav _ (aav _ (iW hb e)))).2.1
  cases f with
  | next=>obtain⟨σ7,H7,I7,n7⟩:=q7;exact again I7 n7
  | cont=>obtain⟨σ7,H7,I7,n7⟩:=q7;exact again I7 n7
  | brk=>obtain⟨σ7,H7,I7,q7⟩:=q7;exact⟨σ7,H7,I7.mf,q7⟩
  | ret v=>obtain⟨x7,σ7,H7,I7,r7,q7⟩:=q7;exact⟨x7,σ7,H7,I7.mf,r7,q7⟩
end
variable {K:PySem.W.Frag}{xs:List V}
theorem FA{a:Addr}{g:TG}{tb:TS}{D:Ends}(Pv:Nat->St->Hp->Prop)(h0:Pv 0 σ H)(hl:∀ i σ H,i<=xs.length->Pv i σ H->cV K H a xs)
  (hs:∀ i x σ H,xs[i]?=some x->Pv i σ H->g x σ H λσ2 H2=>tb { D with nx:=Pv (i+1),ct:=Pv (i+1),bk:=D.nx } σ2 H2) (hd:∀ σ H,Pv xs.length σ H->D.nx σ H) :
  ∃ W:Nat->Nat->St->Hp->Prop,(∃ m,W 0 m σ H)/\∀ i m σ H,W i m σ H ->
   ((Pl K a).stop i H/\D.nx σ H)\/((Pl K a).go i H/\∃ N:St->Hp->Prop,(∀ σ' H',N σ' H'->∃ m',m'<m/\W (i+1) m' σ' H')/\∀ x H',(Pl K a).yf i H x H'->g x σ H' λσ2 H2=>tb { D with nx:=N,ct:=N,bk:=D.nx } σ2 H2):=by
 refine⟨λi m σ H=>m=xs.length - i/\i<=xs.length/\Pv i σ H,⟨xs.length,by simp,aaP _,h0⟩,?_⟩;rintro i m σ H ⟨rfl,hi,p⟩;have q:=hl i σ H hi p;by_cases jI:i<xs.length
 ·refine .inr ⟨⟨xs,xs[i],q,by simp[jI]⟩,Pv (i+1),λσ' H' p'=>⟨xs.length - (i+1),by left,rfl,jI,p'⟩,λx H' y=>?_⟩;obtain⟨e,y⟩:=y;subst e;exact hs i x σ _ (y xs q) p
 ·have e:i=xs.length:=by left
  subst e;exact .inl ⟨⟨xs,q,aas _⟩,hd σ H p⟩
theorem IH{a:Addr}{g:TG}{tb:TS}{D:Ends}(Pv:Nat->St->Hp->Prop)(h0:Pv 0 σ H)(hl:∀ i σ H,i<=xs.length->Pv i σ H->aG K H a xs)
  (hs:∀ i x σ H,xs[i]?=some x->Pv i σ H->g x σ H λσ2 H2=>tb { D with nx:=Pv (i+1),ct:=Pv (i+1),bk:=D.nx } σ2 H2) (hd:∀ σ H,Pv xs.length σ H->D.nx σ H) :
  ∃ W:Nat->Nat->St->Hp->Prop,(∃ m,W 0 m σ H)/\∀ i m σ H,W i m σ H ->
   ((Pk K a).stop i H/\D.nx σ H)\/((Pk K a).go i H/\∃ N:St->Hp->Prop,(∀ σ' H',N σ' H'->∃ m',m'<m/\W (i+1) m' σ' H')/\∀ x H',(Pk K a).yf i H x H'->g x σ H' λσ2 H2=>tb { D with nx:=N,ct:=N,bk:=D.nx } σ2 H2):=by
 refine⟨λi m σ H=>m=xs.length - i/\i<=xs.length/\Pv i σ H,⟨xs.length,by simp,aaP _,h0⟩,?_⟩;rintro i m σ H ⟨rfl,hi,p⟩;have q:=hl i σ H hi p;by_cases jI:i<xs.length
 ·refine .inr ⟨⟨xs,xs[i],q,by simp[jI]⟩,Pv (i+1),λσ' H' p'=>⟨xs.length - (i+1),by left,rfl,jI,p'⟩,λx H' y=>?_⟩;obtain⟨e,y⟩:=y;subst e;exact hs i x σ _ (y xs q) p
 ·have e:i=xs.length:=by left
  subst e;exact .inl ⟨⟨xs,q,aas _⟩,hd σ H p⟩
theorem Cf{n:Nat}{g:TG}{tb:TS}{D:Ends}(Pv:Nat->St->Hp->Prop)(h0:Pv 0 σ H)
  (hs:∀ i σ H,i<n->Pv i σ H->g (.int (lo+i)) σ H λσ2 H2=>tb { D with nx:=Pv (i+1),ct:=Pv (i+1),bk:=D.nx } σ2 H2) (hd:∀ σ H,Pv n σ H->D.nx σ H) :
  ∃ W:Nat->Nat->St->Hp->Prop,(∃ m,W 0 m σ H)/\∀ i m σ H,W i m σ H ->
   ((CG lo n).stop i H/\D.nx σ H)\/((CG lo n).go i H/\∃ N:St->Hp->Prop,(∀ σ' H',N σ' H'->∃ m',m'<m/\W (i+1) m' σ' H')/\∀ x H',(CG lo n).yf i H x H'->g x σ H' λσ2 H2=>tb { D with nx:=N,ct:=N,bk:=D.nx } σ2 H2):=by
 refine⟨λi m σ H=>m=n - i/\i<=n/\Pv i σ H,⟨n,by simp,aaP _,h0⟩,?_⟩;rintro i m σ H ⟨rfl,hi,p⟩;by_cases jI:i<n
 ·refine .inr ⟨jI,Pv (i+1),λσ' H' p'=>⟨n - (i+1),by left,rfl,jI,p'⟩,λx H' y=>?_⟩;obtain⟨e,y⟩:=y;subst e y;exact hs i σ _ jI p
 ·have e:i=n:=by left
  subst e;exact .inl ⟨aas _,hd σ H p⟩
end L2
namespace L2
open PySem PySem.Spec PyProof.Rows
noncomputable abbrev R2:=V->V->Hp->VK->Prop
def lh(X:Cx)(f:Value->Value->Sem Value)(r:R2):Prop :=
 ∀(pins:List (Addr×Obj)) (s:Shared) (σ:St) (H:Hp) (x y:V) (v u:Value) (Q:VK),Inv X pins σ H s->RelV x v->RelV y u->r x y H Q ->
  wpAny (model X.prog X.w) X.A (f v u) (EP X pins σ Q) X.xe s
def Yq(X:Cx)(f:Value->Sem Value)(r:V->Hp->VK->Prop):Prop :=
 ∀(pins:List (Addr×Obj)) (s:Shared) (σ:St) (H:Hp) (x:V) (v:Value) (Q:VK),Inv X pins σ H s->RelV x v->r x H Q ->
  wpAny (model X.prog X.w) X.A (f v) (EP X pins σ Q) X.xe s
def gj(X:Cx)(f:Value)(r:List V->Hp->VK->Prop):Prop :=
 ∀(pins:List (Addr×Obj)) (s:Shared) (σ:St) (H:Hp) (xs:List V) (us:List Value) (Q:VK),Inv X pins σ H s->Vals xs us->r xs H Q ->
  wpAny (model X.prog X.w) X.A (call f us) (EP X pins σ Q) X.xe s
noncomputable def Gp(r:R2)(ta tb:TE):TE:=λσ H Q=>ta σ H λx H1=>tb σ H1 λy H2=>r x y H2 Q
noncomputable def tUn(r:V->Hp->VK->Prop)(ta:TE):TE:=λσ H Q=>ta σ H λx H1=>r x H1 Q
noncomputable def rI(C:Int->Int->Prop)(g:Int->Int->V):R2:=λx y H Q=>∃ i j,x=.int i/\y=.int j/\C i j/\Q (g i j) H
noncomputable def DR(g:Int->Int->V):R2:=λx y H Q=>∃ i j,x=.int i/\y=.int j/\Q (g i j) H
noncomputable def rU(g:Int->V):V->Hp->VK->Prop:=λx H Q=>∃ i,x=.int i/\Q (g i) H
variable {H:Hp}{σ:L2.St}
section
variable {X:Cx}{a b c:Expr}{ta tb tc:TE}{pos:Pos}
theorem Oh(ha:PE X a ta)(hb:PE X b tb){pins:List (Addr×Obj)}{s:Shared}{R:V->V->Hp->Prop}(I:Inv X pins σ H s)
  (h:ta σ H λx H1=>tb σ H1 λy H2=>R x y H2) {Q:Value->Shared->Prop} {f:Value->Value->Sem Value}
  (hf:∀ v u s2 x y H2,Inv X pins σ H2 s2->RelV x v->RelV y u->R x y H2->wpAny (model X.prog X.w) X.A (f v u) Q X.xe s2) :
  wpAny (model X.prog X.w) X.A (eval a X.env) (λv s₁=>wpAny (model X.prog X.w) X.A (eval b X.env) (λu s₂=>wpAny (model X.prog X.w) X.A (f v u) Q X.xe s₂) X.xe s₁) X.xe s:=by
 refine cI (ha pins s σ H _ I h) λv s1 ⟨x,H1,I1,r1,q1⟩=>?_;refine cI (hb pins s1 σ H1 _ I1 q1) λu s2 ⟨y,H2,I2,r2,q2⟩=>?_;exact hf v u s2 x y H2 I2 r1 r2 q2
theorem JX{op:Operator}{r:R2}(ho:lh X (binaryOp op) r)(ha:PE X a ta)(hb:PE X b tb):PE X (.BinOp a op b pos) (Gp r ta tb):=by
 intro pins s σ H Q I h;exact wpAny_BinOp (Oh ha hb I h λv u s2 x y H2 I2 rx ry q=>ho pins s2 σ H2 x y v u Q I2 rx ry q)
theorem QP{op:UnaryOp}{r:V->Hp->VK->Prop}(ho:Yq X (unaryOp op) r)(ha:PE X a ta):PE X (.UnaryOp op a pos) (tUn r ta):=by
 intro pins s σ H Q I h;exact UnaryOp_ (cI (ha pins s σ H _ I h) λv s1 ⟨x,H1,I1,r1,q1⟩=>ho pins s1 σ H1 x v Q I1 r1 q1)
theorem L5{f:Value->Value->Sem Value}{C:Int->Int->Prop}{g:Int->Int->Int}
  (rule:∀(i j:Int) (t u:Tok) (s:Shared) (Q:Value->Shared->Prop) (E:Value->Shared->Prop),C i j->Q (.int (g i j) s.toks) { s with toks:=s.toks+1 }->wpAny (model X.prog X.w) X.A (f (.int i t) (.int j u)) Q E s) :
  lh X f (rI C λi j=>.int (g i j)):=by
 intro pins s σ H x y v u Q I rx ry h;obtain⟨i,j,rfl,rfl,hc,q⟩:=h;obtain⟨t,rfl⟩:=rx;obtain⟨t',rfl⟩:=ry;exact rule i j t t' s _ _ hc ⟨.int (g i j),H,I.tok _,⟨_,rfl⟩,q⟩
theorem VX{f:Value->Value->Sem Value}{g:Int->Int->Int}
  (rule:∀(i j:Int) (t u:Tok) (s:Shared) (Q:Value->Shared->Prop) (E:Value->Shared->Prop),Q (.int (g i j) s.toks) { s with toks:=s.toks+1 }->wpAny (model X.prog X.w) X.A (f (.int i t) (.int j u)) Q E s) :
  lh X f (DR λi j=>.int (g i j)):=by
 intro pins s σ H x y v u Q I rx ry h;obtain⟨i,j,rfl,rfl,q⟩:=h;obtain⟨t,rfl⟩:=rx;obtain⟨t',rfl⟩:=ry;exact rule i j t t' s _ _ ⟨.int (g i j),H,I.tok _,⟨_,rfl⟩,q⟩
theorem HR{f:Value->Value->Sem Value}{g:Int->Int->Bool}
  (rule:∀(i j:Int) (t u:Tok) (s:Shared) (Q:Value->Shared->Prop) (E:Value->Shared->Prop),Q (.bool (g i j)) s->wpAny (model X.prog X.w) X.A (f (.int i t) (.int j u)) Q E s) :
  lh X f (DR λi j=>.bl (g i j)):=by
 intro pins s σ H x y v u Q I rx ry h;obtain⟨i,j,rfl,rfl,q⟩:=h;obtain⟨t,rfl⟩:=rx;obtain⟨t',rfl⟩:=ry;exact rule i j t t' s _ _ ⟨.bl (g i j),H,I,rfl,q⟩
theorem yw(k:Nat):(0:Int)<=2 ^ k:=by
 rw[two_pow_cast];exact Int.natCast_nonneg _
theorem L4:lh X (binaryOp .Add) (DR λi j=>.int (i+j)):=VX λ_ _ _ _ _ _ _ q=>add_int q
theorem HQ:lh X (binaryOp .Mod) (rI (λ_ j=>j≠0) λi j=>.int (i.fmod j)):=L5 λ_ _ _ _ _ _ _ hc q=>mod_int' hc q
theorem LZ:lh X (binaryOp .RShift) (rI (λ_ j=>0<=j) λi j=>.int (i / 2 ^ j.toNat)):=L5 λi j _ _ _ _ _ hc q =>
 rshift_int hc (by rw[Int.fdiv_eq_ediv_of_nonneg i (yw _)];exact q)
theorem unI{f:Value->Sem Value}{g:Int->Int}
  (rule:∀(i:Int) (t:Tok) (s:Shared) (Q:Value->Shared->Prop) (E:Value->Shared->Prop),Q (.int (g i) s.toks) { s with toks:=s.toks+1 }->wpAny (model X.prog X.w) X.A (f (.int i t)) Q E s) :
  Yq X f (rU λi=>.int (g i)):=by
 intro pins s σ H x v Q I rx h;obtain⟨i,rfl,q⟩:=h;obtain⟨t,rfl⟩:=rx;exact rule i t s _ _ ⟨.int (g i),H,I.tok _,⟨_,rfl⟩,q⟩
theorem KR:Yq X (unaryOp .USub) (rU λi=>.int (-i)):=unI λ_ _ _ _ _ q=>neg_int q
end
variable {us:List Value}
section
variable {X:Cx}{a b c:Expr}{ta tb tc:TE}{pos:Pos}
theorem FF{pins:List (Addr×Obj)}{s:Shared}{Q:VK}{k k':Bool}(I:Inv X pins σ H s)(q:Q (.bl k) H)(e:k=k'):EP X pins σ Q (.bool k') s:=by
 subst e;exact⟨.bl k,H,I,rfl,q⟩
theorem QY:lh X (compareOp .Lt) (DR λi j=>.bl (decide (i<j))):=HR λ_ _ _ _ _ _ _ q=>lt_int q
theorem QZ:lh X (compareOp .LtE) (DR λi j=>.bl (decide (i<=j))):=HR λ_ _ _ _ _ _ _ q=>le_int q
theorem Q0:lh X (compareOp .Gt) (DR λi j=>.bl (decide (j<i))):=HR λ_ _ _ _ _ _ _ q=>gt_int q
theorem Q1:lh X (compareOp .GtE) (DR λi j=>.bl (decide (j<=i))):=HR λ_ _ _ _ _ _ _ q=>ge_int q
theorem VV:lh X (compareOp .Is) (λx y H Q=>y=.bh/\Q (.bl (decide (x=.bh))) H):=by
 intro pins s σ H x y v u Q I rx ry h;obtain⟨rfl,q⟩:=h;cases ry;refine is_none_gen (FF I q ?_);cases x<;>first
  | (cases rx;rfl)
  | (obtain⟨t,rfl⟩:=rx;rfl)
theorem Ud:lh X (compareOp .IsNot) (λx y H Q=>y=.bh/\Q (.bl (!decide (x=.bh))) H):=by
 intro pins s σ H x y v u Q I rx ry h;obtain⟨rfl,q⟩:=h;cases ry;refine isnot_none_gen (FF I q ?_);cases x<;>first
  | (cases rx;rfl)
  | (obtain⟨t,rfl⟩:=rx;rfl)
theorem lh.or{f:Value->Value->Sem Value}{r r':R2}(h:lh X f r)(h':lh X f r'):lh X f (λx y H Q=>r x y H Q\/r' x y H Q):=by
 intro pins s σ H x y v u Q I rx ry q;rcases q with q | q
 ·exact h pins s σ H x y v u Q I rx ry q
 ·exact h' pins s σ H x y v u Q I rx ry q
theorem Ei(b:Expr){op:CmpOp}(h:op≠.In:=by decide)(h2:op≠.NotIn:=by decide):behindInMarks op b=false:=by
 have e1:(op==CmpOp.In)=false:=by cases op<;>first | rfl | exact absurd rfl h
 have e2:(op==CmpOp.NotIn)=false:=by cases op<;>first | rfl | exact absurd rfl h2
 cases b<;>simp[behindInMarks,e1,e2]
theorem pU{op:CmpOp}{r:R2}(ho:lh X (compareOp op) r)(ha:PE X a ta)(hb:PE X b tb)(hm:behindInMarks op b=false):PE X (.Compare a [op] [b] pos) (Gp r ta tb):=by
 intro pins s σ H Q I h;exact wpAny_Compare1 (Oh ha hb I h λv u s2 x y H2 I2 rx ry q=>ho pins s2 σ H2 x y v u Q I2 rx ry q) hm
noncomputable def JJ(t:TE):TT:=λσ H Q=>t σ H λx H'=>∃ k,x=.bl k/\Q k H'
theorem pS{op:CmpOp}{r:R2}(ho:lh X (compareOp op) r)(ha:PE X a ta)(hb:PE X b tb)(hm:behindInMarks op b=false):PT X (.Compare a [op] [b] pos) (JJ (Gp r ta tb)):=by
 intro pins s σ H Q I h;refine wpAny_isTrue_Compare1 (cI (ha pins s σ H _ I h) λv s1 ⟨x,H1,I1,r1,q1⟩=>cI (hb pins s1 σ H1 _ I1 q1) λu s2 ⟨y,H2,I2,r2,q2⟩ =>
  cI (ho pins s2 σ H2 x y v u _ I2 r1 r2 q2) λc s3 ⟨z,H3,I3,r3,k,e,q3⟩=>?_) hm
 subst e;cases r3;exact aaZ ⟨H3,I3,q3⟩
theorem vg:(sizeLine:Nat)<2 ^ 63:=by rw[sizeLine_eq];decide
theorem vals1{x:V}(r:Vals [x] us):∃ u,us=[u]/\RelV x u:=by
 cases r with
 | cons r1 r2=>cases r2;exact⟨_,rfl,r1⟩
theorem vals2{x y:V}(r:Vals [x,y] us):∃ u w',us=[u,w']/\RelV x u/\RelV y w':=by
 cases r with
 | cons r1 r2 =>
  cases r2 with
  | cons r3 r4=>cases r4;exact⟨_,_,rfl,r1,r3⟩
theorem F9:gj X (.builtin "abs") (λxs H Q=>∃ i,xs=[.int i]/\Q (.int (if i<0 then -i else i)) H):=by
 intro pins s σ H xs us Q I r h;obtain⟨i,rfl,q⟩:=h;obtain⟨u,rfl,t,rfl⟩:=vals1 r;exact call_abs_int λu tk=>⟨.int (if i<0 then -i else i),H,I.tok _,⟨_,rfl⟩,q⟩
theorem Pf(hc:X.calm=true):gj X (.builtin "max") (λxs H Q=>∃ i j,xs=[.int i,.int j]/\Q (.int (if j>i then j else i)) H):=by
 intro pins s σ H xs us Q I r h;obtain⟨i,j,rfl,q⟩:=h;obtain⟨u,w',rfl,⟨t,rfl⟩,⟨t',rfl⟩⟩:=vals2 r;refine max_two_ints (I.ok.hd hc) λh' tk k=>⟨_,H,I.kept k,?_,q⟩
 by_cases hj:j>i
 ·rw[if_pos hj,if_pos hj];exact⟨_,rfl⟩
 ·rw[if_neg hj,if_neg hj];exact⟨_,rfl⟩
theorem Pe(hc:X.calm=true):gj X (.builtin "min") (λxs H Q=>∃ i j,xs=[.int i,.int j]/\Q (.int (if j<i then j else i)) H):=by
 intro pins s σ H xs us Q I r h;obtain⟨i,j,rfl,q⟩:=h;obtain⟨u,w',rfl,⟨t,rfl⟩,⟨t',rfl⟩⟩:=vals2 r;refine min_two_ints (I.ok.hd hc) λh' tk k=>⟨_,H,I.kept k,?_,q⟩
 by_cases hj:j<i
 ·rw[if_pos hj,if_pos hj];exact⟨_,rfl⟩
 ·rw[if_neg hj,if_neg hj];exact⟨_,rfl⟩
theorem CA:gj X (.type "int") (λxs H Q=>(∃ i,xs=[.int i]/\Q (.int i) H)\/∃ k,xs=[.bl k]/\Q (.int (if k then 1 else 0)) H):=by
 intro pins s σ H xs us Q I r h;rcases h with ⟨i,rfl,q⟩ | ⟨k,rfl,q⟩
 ·obtain⟨u,rfl,t,rfl⟩:=vals1 r;exact call_int_int ⟨.int i,H,I,⟨_,rfl⟩,q⟩
 ·obtain⟨u,rfl,r1⟩:=vals1 r;cases r1;exact call_int_bool ⟨.int (if k then 1 else 0),H,I.tok _,⟨_,rfl⟩,q⟩
end
end L2
namespace L2
open PySem PySem.Spec PyProof.Rows
structure adO(h:Heap)(x dx C:Addr)(mA:Str->Option Value):Prop where
 obj:h.get? x=some (PySem.W.instObj C dx)
 ns:h.Ns1 dx mA
 ne:dx≠x
section
variable {prog:Program}{w:World}{A:Around}{E:Value->Shared->Prop}{s:Shared}{K:PySem.W.Frag}{x dx C f:Addr}{mA:Str->Option Value}{name:Str}{v:Value}
end
theorem sj.some_of{v:V}{o:Option Value}(r:sj (some v) o):∃ u,o=some u/\RelV v u:=by
 cases o with
 | none=>exact(show False from r).elim
 | some u=>exact⟨u,rfl,r⟩
theorem sj.none_of{o:Option Value}(r:sj none o):o=none:=by
 cases o with
 | none=>rfl
 | some u=>exact(show False from r).elim
section
variable {P:Program}{w:World}{H H':Hp}{h h':Heap}{a C dx:Addr}{fs fs':List (Str×V)}
end
structure Tz(K:PySem.W.Frag)(C:Addr):Prop where
 pg:PySem.W.plainGet K C Str.empty=true
 hd:PySem.W.hasDictIn K C=true
 po:PySem.W.plainOver K C=true
 sa:PySem.W.findIn K (.ref C) "__setattr__" = some (some (.builtin "object.__setattr__"))
structure Con(K:PySem.W.Frag)(C:Addr)(f:Str)(v:V)(u:Value):Prop where
 at_:PySem.W.findIn K (.ref C) f=some (some u)
 rel:RelV v u
 get:PySem.W.specialIn K u "__get__" = some none
 cp:PySem.W.copiedNames.contains f=false
structure Meth(K:PySem.W.Frag)(C:Addr)(m:Str)(f:Addr):Prop where
 at_:PySem.W.findIn K (.ref C) m=some (some (.ref f))
 fn:PySem.W.isFn K (.ref f)=true
 kp:PySem.W.keepIn K (.ref f)=true
section
variable {X:Cx}{pins:List (Addr×Obj)}{σ:St}{H:Hp}{s:Shared}{a C dx:Addr}{fs:List (Str×V)}{f:Str}{v:V}{A:Around}{E:Value->Shared->Prop}
end
section
variable {X:Cx}{o e value:Expr}{f:Str}{pos pos' aaU:Pos}{ta tv:TE}
end
section
variable {X:Cx}{pins:List (Addr×Obj)}{σ:St}{H:Hp}{s:Shared}{A:Around}{E:Value->Shared->Prop}{Q:Value->Shared->Prop}{c:Value}{b:Bool}
inductive r6(K:PySem.W.Frag)(H:Hp):V->Value->Prop where
 | bh:r6 K H .bh (.type "NoneType")
 | bl (x:Bool):r6 K H (.bl x) (.type "bool")
 | int (i:Int):r6 K H (.int i) (.type "int")
 | str (x:Str):r6 K H (.str x) (.type "str")
 | SO (x:UInt64):r6 K H (.SO x) (.type "float")
 | lst {a:Addr} {xs:List V} (e:H a=some (.lst xs)):r6 K H (.ref a) (.type "list")
 | iC {a:Addr} {o:Obj} {xs:List V} (e:H a=some (.iC o (.lst xs))):r6 K H (.ref a) (.type "list")
 | tup {a:Addr} {xs:List V} (e:H a=some (.tup xs)):r6 K H (.ref a) (.type "tuple")
 | dK {a:Addr} {o_:List (Key×V)} (e:H a=some (.dK o_)):r6 K H (.ref a) (.type "dict")
 | dT {a:Addr} {o_:List (List Key×V)} (e:H a=some (.dT o_)):r6 K H (.ref a) (.type "dict")
 | ins {a C dx:Addr} {fs:List (Str×V)} (e:H a=some (.ins C dx fs)) (cl:Tz K C) (ha:PySem.W.findIn K (.ref C) "__class__" = some (some (.builtin "object.__class__")))
   (hn:PySem.W.specialIn K (.builtin "object.__class__") "__get__" = some (some (.builtin "getset_descriptor.__get__"))) (htk:PySem.W.takesIn K (.builtin "object.__class__")=some true)
   (hm:PySem.W.mroIn K C (.type "object")=some true):r6 K H (.ref a) (.ref C)
end
end L2
namespace L2
open PySem PySem.Spec PyProof.Rows
structure g5(k:Nat)(A:Around):Prop where
 hd:A.handled=none
 dp:A.depth+3*k+5<recursionLimit
 un:A.units+16*k+200<cLine
variable {A:Around}
theorem g5.mono{j k:Nat}(r:g5 k A)(h:j<=k):g5 j A:=⟨r.hd,by have:=r.dp;left,by have:=r.un;left⟩
theorem g5.deeper{k:Nat}{A:Around}(r:g5 (k+1) A)(env:Env):g5 k (A.deeper env) :=
 ⟨r.hd,by have:=r.dp;show A.depth+1+3*k+5<_;left,by have:=r.un;show A.units+3+16*k+200<_;left⟩
theorem g5.depth{k:Nat}{A:Around}(r:g5 k A):A.depth<recursionLimit:=by have:=r.dp;left
theorem g5.units{k:Nat}{A:Around}(r:g5 k A):A.units+64<cLine:=by have:=r.un;left
noncomputable def P8:TA:=λ_ H Q=>Q [] H
noncomputable def JL(ta:TE)(tr:TA):TA:=λσ H Q=>ta σ H λx H1=>tr σ H1 λxs H2=>Q (x::xs) H2
section
variable {X:Cx}{e:Expr}{es:List Expr}{te:TE}{t:TA}{pos:Pos}
theorem gS:PA X [] P8:=λ_ _ _ _ H Q I h=>ach ⟨[],H,I,.nil,h⟩
theorem cm(ha:PE X e te)(hr:PA X es t)(hs:starEach (e::es) X.env=(false,eval e X.env)::starEach es X.env:=by rfl):PA X (e::es) (JL te t):=by
 intro pos pins s σ H Q I h;rw[hs];show wpAny _ _ (spliced ((false,eval e X.env)::backTo pos (starEach es X.env))) _ _ s;refine ab_ (cI (ha pins s σ H _ I h) λu s1 ⟨x,H1,I1,r1,q1⟩=>?_);exact cI (hr pos pins s1 σ H1 _ I1 q1) λus s2 ⟨xs,H2,I2,r2,q2⟩=>⟨x::xs,H2,I2,.cons r1 r2,q2⟩
def U_(t:TA):TE:=λσ H Q=>t σ H λxs H1=>xs.length<=sizeLine/\∀ p,H1 p=none->Q (.ref p) (upd H1 p (.tup xs))
def Vf(t:TA):TE:=λσ H Q=>t σ H λxs H1=>xs.length<=sizeLine/\∀ p,H1 p=none->Q (.ref p) (upd H1 p (.lst xs))
theorem D3{x1}(h:PA X es t):PE X (.Tuple es x1 pos) (U_ t):=by
 intro pins s σ H Q I hq;refine wpAny_Tuple_spliced (cI (h pos pins s σ H _ I hq) λus s1 ⟨xs,H1,I1,r,z,q⟩=>⟨by rw[<- r.length];exact z,?_⟩);have hf:H1 s1.heap.objs.size=none:=I1.bQ.fresh (aas _);refine⟨.ref s1.heap.objs.size,upd H1 s1.heap.objs.size (.tup xs),I1.laid (t':=s1.toks) (λb u e=>aar _ e) (aas _) ?_,rfl,q _ hf⟩;exact⟨z,us,r,⟨_,aaw _ rfl,rfl,_,rfl⟩⟩
theorem D8(h:PA X es t):PE X (.List es pos) (Vf t):=by
 intro pins s σ H Q I hq;refine wpAny_List_spliced (cI (h pos pins s σ H _ I hq) λus s1 ⟨xs,H1,I1,r,z,q⟩=>⟨by rw[<- r.length];exact z,?_⟩);have hf:H1 s1.heap.objs.size=none:=I1.bQ.fresh (aas _);refine⟨.ref s1.heap.objs.size,upd H1 s1.heap.objs.size (.lst xs),I1.laid (t':=s1.toks) (λb u e=>aar _ e) (aas _) ?_,rfl,q _ hf⟩;exact⟨z,us,0,r,aaw _ rfl⟩
end
noncomputable abbrev Sp:=List V->Hp->VK->XK->Prop
noncomputable abbrev Bp:=List Env->Hp->Shared->XK->Value->Shared->Prop
structure JC(P:Program)(w:World)(K:PySem.W.Frag)(mg:Str->Option Value)(base:Heap)(A:Around)(outer:List Env)(s:Shared)(H:Hp):Prop where
 frames:A.frames=some outer
 mod:Mod K mg base
 bs:∀ b o,base.get? b=some o->s.heap.get? b=some o/\H b=none
 Ga:base.objs.size<=s.heap.objs.size
 lE:s.heap.FunFrames base outer
 CQ:∀ b∈nP outer,H b=none
 bQ:kT P w H s.heap
 bare:AllBare s.gens
def CE(outer:List Env)(P:Program)(w:World)(H:Hp)(s:Shared)(Q:VK)(u:Value)(s':Shared):Prop :=
 ∃ v H',s'.os=s.os/\AllBare s'.gens/\Un (nP outer) [] H H' s.heap s'.heap/\kT P w H' s'.heap/\RelV v u/\Q v H'
noncomputable def CR(CX:Bp)(outer:List Env)(P:Program)(w:World)(H:Hp)(s:Shared)(Q:VK)(E:XK)(r:Result)(s':Shared):Prop :=
 match r with
 | .ok (.ret u)=>CE outer P w H s Q u s'
 | .ok _=>False
 | .error e=>CX outer H s E e s'
structure eT(P:Program)(w:World)(K:PySem.W.Frag)(mg:Str->Option Value)(base:Heap)(CX:Bp)(k:Nat)(f:Addr)(fd:FuncData)(ps:List Str)(sp:Sp):Prop where
 len:∀ vs H Q E,sp vs H Q E->vs.length=ps.length
 run:∀(A:Around) (outer:List Env) (s:Shared) (H:Hp) (args:Args) (us:List Value) (vs:List V) (Q:VK) (E:XK),g5 k A->JC P w K mg base A outer s H->BindsTo s fd args (ps.zip us)->Vals vs us->sp vs H Q E ->
  codeAny (model P w) A (.call (.ref f) args) (CR CX outer P w H s Q E) s
theorem eT.mono{P:Program}{w:World}{K:PySem.W.Frag}{mg:Str->Option Value}{base:Heap}{CX:Bp}{j k:Nat}{f:Addr}{fd:FuncData}{ps:List Str}{sp:Sp}(F:eT P w K mg base CX j f fd ps sp)(h:j<=k):
  eT P w K mg base CX k f fd ps sp:=⟨F.len,λA outer s H args us vs Q E hr=>F.run A outer s H args us vs Q E (hr.mono h)⟩
variable {Q:VK}
section
variable {X:Cx}{pins:List (Addr×Obj)}{σ:St}{H:Hp}{s s':Shared}
theorem Inv.XY(I:Inv X pins σ H s):JC X.prog X.w X.K X.mg X.base X.A X.stack s H :=
 ⟨I.ok.frames,I.ok.mod,I.bs,aaI I.ok.Ga I.sz,I.stack,I.mj,I.bQ,I.bare⟩
theorem Inv.after{u:Value}(I:Inv X pins σ H s)(h:CE X.stack X.prog X.w H s Q u s'):EP X pins σ Q u s':=by
 obtain⟨v,H',os,bare,un,bQ,r,q⟩:=h;obtain⟨hh,g,d,t,VT⟩:=s';obtain rfl:VT=s.os:=os;exact⟨v,H',I.call (h':=hh) (g':=g) (d':=d) (t':=t) (ch:=[]) un bQ bare (λb z=>absurd z (by simp)),r,q⟩
end
noncomputable def Qa(sp:Sp)(fY:List V)(E:XK)(t:TA):TE:=λσ H Q=>t σ H λvs H1=>sp (vs++fY) H1 Q E
noncomputable def Binds(K:PySem.W.Frag)(fd:FuncData)(ps:List Str)(ds:List Value):Prop :=
 ∀(s:Shared) (us:List Value),K.In s.heap->(us++ds).length=ps.length->BindsTo s fd ⟨us,[]⟩ (ps.zip (us++ds))
variable {K:PySem.W.Frag}{ps:List Str}
theorem Binds.all{fd:FuncData}(h:∀ us:List Value,us.length=ps.length->bindArgs fd ⟨us,[]⟩=pure (ps.zip us)):Binds K fd ps []:=λs us _ hl=>by
 rw[List.append_nil]at hl ⊢;exact .of_eq (h us hl)
noncomputable def Passes(CX:Bp)(X:Cx)(E:XK):Prop:=∀(pins:List (Addr×Obj)) (σ:St) (H:Hp) (s:Shared) (e:Value) (s':Shared),Inv X pins σ H s->CX X.stack H s E e s'->X.xe e s'
variable {H:Hp}{us:List Value}{vs:List V}
section
variable {X:Cx}{CX:Bp}{k:Nat}{f C:Addr}{fd:FuncData}{ps:List Str}{sp:Sp}{fY:List V}{ds:List Value}{E:XK}{x m:Str}{p pos apos:Pos}{e o:Expr}{es:List Expr}{ta:TE}{t:TA}
theorem Ls{pins:List (Addr×Obj)}{σ:St}{s:Shared}(F:eT X.prog X.w X.K X.mg X.base CX k f fd ps sp)(hr:g5 k X.A)(hb:Binds X.K fd ps ds)(hd:Vals fY ds)(hx:Passes CX X E)
  (I:Inv X pins σ H s) (r:Vals vs us) (h:sp (vs++fY) H Q E):wpAny (model X.prog X.w) X.A (call (.ref f) us) (EP X pins σ Q) X.xe s:=by
 have r2:Vals (vs++fY) (us++ds):=r.append hd;have hl:(us++ds).length=ps.length:=by rw[<- r2.length];exact F.len _ _ _ _ h
 refine wpAny_call (abV (F.run X.A X.stack s H ⟨us,[]⟩ (us++ds) (vs++fY) Q E hr I.XY (hb s us I.BZ hl) r2 h) λr s' hq=>?_);cases r with
 | error e=>exact hx pins σ H s e s' I hq
 | ok fl =>
  cases fl with
  | ret u=>exact I.after hq
  | next=>exact False.elim hq
  | brk=>exact False.elim hq
  | cont=>exact False.elim hq
theorem An(F:eT X.prog X.w X.K X.mg X.base CX k f fd ps sp)(hr:g5 k X.A)(hg:Gl X x)(hm:X.mg x=some (.ref f))(hk:PySem.W.keepIn X.K (.ref f)=true)(hb:Binds X.K fd ps ds)(hd:Vals fY ds)(hx:Passes CX X E)
  (ha:PA X (e::es) t) (Sj:(x==("__debug__" : Str))=false:=by decide) (he:starEach (e::es) X.env=(false,eval e X.env)::starEach es X.env:=by rfl) (hpl:(backTo pos (starEach es X.env)).any (·.1)=false:=by rfl) :
  PE X (.Call (.Name x p) (e::es) [] pos) (Qa sp fY E t):=by
 intro pins s σ H Q I h;refine aa7 (vi I hg hm ?_ Sj);refine PySem.W.callWith_K (h₀:=X.base) I.ok.mod.V_ hk (cI (ha pos pins s σ H _ I h) λus s1 ⟨vs,H1,I1,r,q⟩=>⟨I1.BZ,?_⟩) he hpl;exact Ls F hr hb hd hx I1 r q
structure Mk(K:PySem.W.Frag)(C f:Addr):Prop where
 makes:PySem.W.makesIn K C=true
 init:PySem.W.findIn K (.ref C) "__init__" = some (some (.ref f))
 fn:PySem.W.isFn K (.ref f)=true
 kp:PySem.W.keepIn K (.ref C)=true
end
section
variable {X:Cx}{CX:Bp}{k:Nat}{f C:Addr}{fd:FuncData}{ps ks:List Str}{sp:Sp}{E:XK}{x m:Str}{p pos apos abO:Pos}{e o:Expr}{es:List Expr}{kws:List Keyword}{te ta:TE}{t tk:TA}{nm:Option Str}
structure Yw(K:PySem.W.Frag)(fd:FuncData)(ps ks:List Str)(g:List Value->List Value->List Value)(gV:List V->List V->List V):Prop where
 to:∀(s:Shared) (us ws:List Value),K.In s.heap->(g us ws).length=ps.length->BindsTo s fd ⟨us,ks.zip ws⟩ (ps.zip (g us ws))
 rel:∀ {vs:List V} {us:List Value} {zs:List V} {ws:List Value},Vals vs us->Vals zs ws->Vals (gV vs zs) (g us ws)
variable {g:List Value->List Value->List Value}{gV:List V->List V->List V}
end
structure dJ(N P:List Str)(sc:Scope):Prop where
 kind:sc.kind=.function
 co:sc.isCoroutine=false
 gen:sc.isGenerator=false
 nd:N.Nodup
 pre:N.take P.length=P
 par:∀ x∈P,sc.names.lookup x=some .local\/sc.names.lookup x=some .cell
 L_:∀ y∈sc.names,y.2≠.free
theorem uz{kindOf:Str->Option NameKind}{x:Str}:∀ {binds:List (Str×Value)} {m:Str->Option Value},(∀ v,(x,v)∉binds)->bindL kindOf binds m x=m x
 | [],_,_=>rfl
 | (n,v)::r,m,h=>by
  unfold bindL;rw[uz λw hw=>h w (List.mem_cons_of_mem _ hw)];split
  ·have:x≠n:=by rintro rfl;exact h v aao
   simp[this]
  ·rfl
theorem uB{kindOf:Str->Option NameKind}{x:Str}:∀ {binds:List (Str×Value)} {m:Str->Option Value},(∀ v,(x,v)∉binds)->bindC kindOf binds m x=m x
 | [],_,_=>rfl
 | (n,v)::r,m,h=>by
  unfold bindC;rw[uB λw hw=>h w (List.mem_cons_of_mem _ hw)];split
  ·rfl
  ·have:x≠n:=by rintro rfl;exact h v aao
   simp[this]
theorem uA{kindOf:Str->Option NameKind}{x:Str}{v:Value}:∀ {P:List Str} {vs:List Value} {i:Nat} {m:Str->Option Value},P.Nodup->P[i]?=some x->vs[i]?=some v->kindOf x=some .local ->
  bindL kindOf (P.zip vs) m x=some v
 | [],_,_,_,_,h,_,_=>by simp at h
 | _::_,[],_,_,_,_,h,_=>by simp at h
 | p::P,w::vs,0,m,nd,h1,h2,hk=>by
  simp at h1 h2;subst h1;subst h2;show bindL kindOf ((p,w)::P.zip vs) m p=_;unfold bindL;rw[uz λv hv=>(List.nodup_cons.mp nd).1 (List.of_mem_zip hv).1,if_pos hk];simp
 | p::P,w::vs,i+1,m,nd,h1,h2,hk=>by
  show bindL kindOf ((p,w)::P.zip vs) m x=_;unfold bindL;exact uA (i:=i) (List.nodup_cons.mp nd).2 (by simpa using h1) (by simpa using h2) hk
theorem uC{kindOf:Str->Option NameKind}{x:Str}{v:Value}:∀ {P:List Str} {vs:List Value} {i:Nat} {m:Str->Option Value},P.Nodup->P[i]?=some x->vs[i]?=some v->kindOf x≠some .local ->
  bindC kindOf (P.zip vs) m x=some v
 | [],_,_,_,_,h,_,_=>by simp at h
 | _::_,[],_,_,_,_,h,_=>by simp at h
 | p::P,w::vs,0,m,nd,h1,h2,hk=>by
  simp at h1 h2;subst h1;subst h2;show bindC kindOf ((p,w)::P.zip vs) m p=_;unfold bindC;rw[uB λv hv=>(List.nodup_cons.mp nd).1 (List.of_mem_zip hv).1,if_neg hk];simp
 | p::P,w::vs,i+1,m,nd,h1,h2,hk=>by
  show bindC kindOf ((p,w)::P.zip vs) m x=_;unfold bindC;exact uC (i:=i) (List.nodup_cons.mp nd).2 (by simpa using h1) (by simpa using h2) hk
noncomputable def start(N:List Str)(vs:List V):St:=vs.map some++List.replicate (N.length - vs.length) none
noncomputable def j7(CX:Bp)(P:Program)(w:World)(K:PySem.W.Frag)(mg:Str->Option Value)(base:Heap)(N:List Str)(qual:Str)(scope:Scope)(f:Addr)(cd:Value)(A:Around)(outer:List Env)(s:Shared)(H:Hp)(E:XK):Cx where
 prog:=P
 w:=w
 K:=K
 mg:=mg
 base:=base
 A:=A.deeper (envOfC qual scope s.heap.objs.size f cd)
 N:=N
 s₀:=s
 H₀:=H
 env:=envOfC qual scope s.heap.objs.size f cd
 outer:=outer
 stack:=envOfC qual scope s.heap.objs.size f cd::outer
 ex:=[]
 calm:=true
 fn:=λ_=>true
 pn:=[]
 xe:=λe s'=>wpAny (model P w) (A.deeper (envOfC qual scope s.heap.objs.size f cd)) (leaving (envOfC qual scope s.heap.objs.size f cd) e) (λ_ VB=>CX outer H s E e VB) (λe' VB=>CX outer H s E e' VB) s'
theorem x9{sc:Scope}{n:Nat}{x:Str}(h:sc.names.lookup x=some .cell):∃ c,(cellsFrom n sc.names []).lookup x=some c:=by
 have q:=PySem.W.cellsFrom_some sc.names n [] (.inl h);exact Option.isSome_iff_exists.mp q
variable {P:Program}{base:Heap}{mg:Str->Option Value}{qual:Str}{scope:Scope}{w:World}
theorem B5{CX:Bp}{N:List Str}{f:Addr}{cd:Value}{outer:List Env}{s s1:Shared}{E:XK}  
  (S:dJ N ps scope) (hd:A.handled=none) (e0:JC P w K mg base A outer s H) (hl:vs.length=ps.length) (r:Vals vs us)
  (x:InCallC s s.heap.objs.size (bindL (envOfC qual scope s.heap.objs.size f cd).kindOf (ps.zip us) λ_=>none) (cellsFrom (s.heap.objs.size+1) scope.names []) (bindC (envOfC qual scope s.heap.objs.size f cd).kindOf (ps.zip us) λ_=>none) s1) :
  Inv (j7 CX P w K mg base N qual scope f cd A outer s H E) [] (start N vs) H s1:=by
 have hpl:ps.length<=N.length:=by have:=aaS List.length S.pre;rw[List.length_take]at this;left
 obtain⟨h1,tk,rfl,hk⟩:=x.done;have Q6:∀ b:Addr,b∉(j7 CX P w K mg base N qual scope f cd A outer s H E).ex:=λb z=>absurd (show b∈([]:List Addr) from z) (by simp);refine⟨⟨e0.mod,S.kind,rfl,rfl,aas _,λy z c h1 h2=>?_,λy hy=>?_,λy c _ h=>?_,λ_=>hd,Around.frames_deeper e0.frames,.inr ⟨rfl,rfl⟩,λb z=>absurd z (Q6 b),e0.bs,e0.Ga,λb _ _=>Q6 b,λb z=>absurd z (Q6 b),e0.lE,e0.CQ⟩,
  rfl,e0.bare,Un.kept hk,⟨_,x.toInCall.ns,λi y v h1 h2 h3=>?_⟩,λy c h=>⟨_,x.cell y c h⟩,e0.bQ.fresh (aas _),λy c h=>?_,λp hp=>absurd (show p∈([]:List (Addr×Obj)) from hp) (by simp),e0.bQ.kept hk,?_⟩
 ·exact name_of_addr x.apart (aa2 h1) (aa2 h2)
 ·have hy:scope.names.lookup y=some .cell\/scope.names.lookup y=some .free:=hy;rcases hy with hy | hy
  ·exact x9 hy
  ·exact absurd rfl (S.L_ _ (aa2 hy))
 ·exact abU (x.above y c (aa2 h))
 ·have hi:i<vs.length:=by
   unfold start at h2;by_cases hi:i<vs.length
   ·exact hi
   ·rw[List.getElem?_append_right (by simpa using hi)]at h2;rw[List.getElem?_replicate]at h2;split at h2<;>cases h2
  have ha:vs[i]?=some v:=by
   unfold start at h2;rw[List.getElem?_append_left (by simpa using hi),List.getElem?_map]at h2;cases e:vs[i]? with
   | none=>rw[e]at h2;cases h2
   | some a=>rw[e]at h2;cases h2;rfl
  obtain⟨u,hu,rv⟩:=r.get ha;have hp:ps[i]?=some y:=by
   rw[<- S.pre,List.getElem?_take_of_lt (by left)];exact h1
  have Y9:ps.Nodup:=by rw[<- S.pre];exact S.nd.sublist (List.take_sublist _ _)
  refine⟨u,rv,?_⟩;rcases S.par y (aaB hp)with k | k
  ·exact .inl ⟨k,uA Y9 hp hu k⟩
  ·obtain⟨c,e⟩:=x9 (n:=s.heap.objs.size+1) k;refine .inr ⟨.inl k,c,e,?_⟩;have q:=x.cell y c e;rw[uC Y9 hp hu (by show scope.names.lookup y≠_;rw[k];decide)]at q;exact q
 ·exact e0.bQ.fresh (abU (x.above y c (aa2 h)))
 ·unfold start;show _=N.length;rw[List.length_append,List.length_map,List.length_replicate];left
theorem Kf{CX:Bp}{k:Nat}{f:Addr}{name:Str}{params:Arguments}{body:List Stmt}{dV kV doc pm gW ct oc:Value}{an od:Option Addr}
  {Ea:Array (Option Value)} {N:List Str} {sp:Sp} (lk:K.lookup f=some ⟨oc,od,.func (PySem.W.fnOf name qual params body scope dV kV doc pm an gW ct),Ea⟩) (xA:PySem.W.codeIn K gW qual=true) (S:dJ N ps scope)
  (len:∀ vs H Q E,sp vs H Q E->vs.length=ps.length)
  (xE:∀(A:Around) (outer:List Env) (s:Shared) (H:Hp) (vs:List V) (Q:VK) (E:XK),g5 k (A.deeper (envOfC qual scope s.heap.objs.size f gW))->sp vs H Q E ->
   ∃ t,g9 (j7 CX P w K mg base N qual scope f gW A outer s H E) body t/\t { nx:=λ_ H'=>Q .bh H',rt:=Q } (start N vs) H) :
  eT P w K mg base CX (k+1) f (PySem.W.fnOf name qual params body scope dV kV doc pm an gW ct) ps sp:=by
 refine⟨len,λA outer s H args us vs Q E hr e0 hb r yi=>?_⟩;have hl:=len _ _ _ _ yi;have KX:K.In s.heap:=e0.mod.V_.keeps λb o e=>(e0.bs b o e).1;have lim:s.heap.NoLimit:=e0.mod.nolimit.keeps λb o e=>(e0.bs b o e).1;have R7:∀ y∈ps.zip us,scope.names.lookup y.1=some .local\/(scope.names.lookup y.1=some .cell/\((cellsFrom (s.heap.objs.size+1) scope.names []).lookup y.1).isSome=true):=λ⟨n,v⟩ hy=>by
  rcases S.par n (aaN hy).1 with q | q
  ·exact .inl q
  ·exact .inr ⟨q,PySem.W.cellsFrom_some _ _ _ (.inl q)⟩
 refine codeAny_call_function hr.depth (KX _ _ lk) rfl S.co S.gen rfl (PySem.W.codeRec_of KX xA) (hb _ _ _ _ ?_);refine wpAny_newFunctionEnv_cells S.kind R7 λenv he s1 x=>?_;subst he;refine⟨lim.keeps x.toInCall.keep,codeAny_func ?_⟩;obtain⟨t,ht,hq⟩:=xE A outer s H vs Q E (hr.deeper _) yi;have I:Inv (j7 CX P w K mg base N qual scope f gW A outer s H E) [] (start N vs) H s1:=B5 S hr.hd e0 hl r x;refine aaC (ht [] s1 (start N vs) H _ I hq) (λfl s' hs=>?_) λe s' hs=>hs;have fin:∀ {σ':St} {H':Hp} {v:V} {u:Value},Inv (j7 CX P w K mg base N qual scope f gW A outer s H E) [] σ' H' s'->RelV v u->Q v H'->CE outer P w H s Q u s' :=
  λ{σ' H' v u} J rv q=>⟨v,H',J.os,J.bare,J.base,J.bQ,rv,q⟩
 cases fl with
 | ret u =>
  obtain⟨v,σ',H',J,rv,q⟩:=hs;exact fin J rv q
 | next =>
  obtain⟨σ',H',J,q⟩:=hs;exact fin (v:=V.bh) (u:=Value.none) J rfl q
 | brk =>
  obtain⟨_,_,_,q⟩:=hs;exact False.elim q
 | cont =>
  obtain⟨_,_,_,q⟩:=hs;exact False.elim q
end L2
namespace L2
open PySem PySem.Spec PyProof.Rows
section
variable {X:Cx}{x:Str}{p pos:Pos}{e:Expr}{es:List Expr}{t:TA}{id T:String}{r:List V->Hp->VK->Prop}
noncomputable def Qb(r:List V->Hp->VK->Prop)(t:TA):TE:=λσ H Q=>t σ H λvs H1=>r vs H1 Q
theorem eI(hc:gj X (.builtin id) r)(hg:Gl X x)(hm:X.mg x=none)(hv:bootBuiltins x=some (.builtin id))(ha:PA X (e::es) t)(hn:x ≠ "__name__":=by decide)(Sj:(x==("__debug__" : Str))=false:=by decide)
  (he:starEach (e::es) X.env=(false,eval e X.env)::starEach es X.env:=by rfl) (hpl:(backTo pos (starEach es X.env)).any (·.1)=false:=by rfl):PE X (.Call (.Name x p) (e::es) [] pos) (Qb r t):=by
 intro pins s σ H Q I h;refine aa7 (gT I hg hm hv ?_ hn Sj);exact PyProof.Rows.callWith_builtin1 (cI (ha pos pins s σ H _ I h) λus s1 ⟨vs,H1,I1,r1,q1⟩=>hc pins s1 σ H1 vs us Q I1 r1 q1) he hpl
theorem nI(hc:gj X (.type T) r)(hg:Gl X x)(hm:X.mg x=none)(hv:bootBuiltins x=some (.type T))(ha:PA X (e::es) t)(hn:x ≠ "__name__":=by decide)(Sj:(x==("__debug__" : Str))=false:=by decide)
  (he:starEach (e::es) X.env=(false,eval e X.env)::starEach es X.env:=by rfl) (hpl:(backTo pos (starEach es X.env)).any (·.1)=false:=by rfl):PE X (.Call (.Name x p) (e::es) [] pos) (Qb r t):=by
 intro pins s σ H Q I h;refine aa7 (gT I hg hm hv ?_ hn Sj);exact aaH (cI (ha pos pins s σ H _ I h) λus s1 ⟨vs,H1,I1,r1,q1⟩=>hc pins s1 σ H1 vs us Q I1 r1 q1) he hpl
end
end L2
namespace HT
open PySem PyProof.Rows
noncomputable def lexLt:List Int->List Int->Bool
 | [],[]=>false
 | [],_::_=>true
 | _::_,[]=>false
 | x::xs,y::ys=>if x=y then lexLt xs ys else decide (x<y)
theorem dq(x y:Int)(xs ys:List Int):lexLt (x::xs) (y::ys)=if x=y then lexLt xs ys else decide (x<y):=rfl
theorem k_:lexLt [] []=false:=rfl
theorem qS(y:Int)(ys:List Int):lexLt [] (y::ys)=true:=rfl
theorem cx(x:Int)(xs:List Int):lexLt (x::xs) []=false:=rfl
theorem xO(A:Around)(s:Shared)(a:Int)(t:Tok)(c:Int)(u:Tok):∃ e,SeqAt.EqAt A s (.int a t) (.int c u) e/\(e=true ↔ a=c) :=
 ⟨(a==c),abt a t c u,by simp⟩
theorem DP(A:Around)(s:Shared)(a:Int)(t:Tok)(c:Int)(u:Tok)(prog:Program)(w:World)(E:Value->Shared->Prop)(Q:Value->Shared->Prop)(h:Q (.bool (decide (a<c))) s):
  wpAny (model prog w) A (richCompare .Lt (.int a t) (.int c u)) Q E s :=
 (PyProof.Rows.lt_int h:wpAny (model prog w) A (compareOp .Lt (.int a t) (.int c u)) Q E s)
section
open PySem.SeqAt
open PySem.AutoSeq1 (wpAny_loadPart')
open PySem.MeetsSeq PySem.MeetsSeq2 PySem.MeetsSeq3
theorem kY(l b:Addr)(items cT:Array Value)(n n2:Nat)(dd Co:Option Addr)(sl zW:Array (Option Value))(ns ms:List Int)(hi:IntsAre items.toList ns)(hj:IntsAre cT.toList ms):
  Meets (Builtin.«tuple.__lt__» ⟨[.ref l,.ref b],[]⟩)
   (λ_ R s=>s.heap.get? l=some { cls:=.type "tuple",dict:=dd,data:=.seq items n,slots:=sl }/\s.heap.get? b=some { cls:=.type "tuple",dict:=Co,data:=.seq cT n2,slots:=zW } /\
    R (.ok (.ret (.bool (lexLt ns ms)))) s) :=
 .of_wp λprog w A R s h=>by
  obtain⟨hp,g,d,tk,os⟩:=s;obtain⟨hl,hb,h⟩:=h;have f2:=AutoSeq1.sub_tuple_tuple;have z1:items.size=ns.length:=by rw[<- hi.length];simp
  have z2:cT.size=ms.length:=by rw[<- hj.length];simp
  wp_walk using wpAny_loadPart' hl,wpAny_loadPart' hb,wpAny_forIn_list _ (λrest b s'=>b.1=none/\s'=⟨hp,g,d,tk,os⟩/\∃(vs ws:List Value) (nq CL:List Int),rest=vs.zip ws /\
   IntsAre vs nq/\IntsAre ws CL/\nq.length+cT.size=CL.length+items.size/\R (.ok (.ret (.bool (lexLt nq CL)))) ⟨hp,g,d,tk,os⟩) _
  case turn =>
   rintro ⟨y,x⟩ rest b s' ⟨xG,rfl,vs,ws,nq,CL,hz,MI,J_,hlen,hR⟩;cases MI with
   | nil=>rw[List.zip_nil_left]at hz;cases hz
   | cons a t hvi' =>
    cases J_ with
    | nil=>rw[List.zip_nil_right]at hz;cases hz
    | cons c u hwi' =>
     rw[List.zip_cons_cons]at hz;injection hz with Wv EO
     injection Wv with hy hx
     subst hy hx;rw[dq]at hR;simp only[List.length_cons]at hlen;obtain⟨e,he,EW⟩:=xO A.in1 ⟨hp,g,d,tk,os⟩ a t c u;refine aah (he prog w _ _ ?_);cases e with
     | true =>
      rw[if_pos (EW.mp rfl)]at hR
      wp_walk
      exact⟨rfl,rfl,_,_,_,_,EO,hvi',hwi',by left,hR⟩
     | false =>
      rw[if_neg (λq=>absurd (EW.mpr q) Bool.false_ne_true)]at hR;have WE:=DP A.in1 ⟨hp,g,d,tk,os⟩ a t c u prog w
      wp_walk using WE
      exact⟨_,rfl,by simpa using hR⟩
  case fin =>
   rintro ⟨b1,b2⟩ s' ⟨xG,rfl,vs,ws,nq,CL,hz,MI,J_,hlen,hR⟩;simp only at xG;subst xG;have hv:lexLt nq CL=decide (items.size<cT.size):=by
    cases MI with
    | nil =>
     cases J_ with
     | nil =>
      simp only[List.length_nil]at hlen;rw[k_];exact(aaX (by left)).symm
     | cons c u hw =>
      simp only[List.length_nil,List.length_cons]at hlen;rw[qS];exact(aaT (by left)).symm
    | cons a t hv =>
     cases J_ with
     | nil =>
      simp only[List.length_nil,List.length_cons]at hlen;rw[cx];exact(aaX (by left)).symm
     | cons c u hw =>
      rw[List.zip_cons_cons]at hz;cases hz
   rw[hv]at hR
   wp_walk
   exact⟨_,rfl,by simpa [Builtin.Tuple.tupleCompareSizes]using hR⟩
  case h =>
   exact⟨rfl,rfl,items.toList,cT.toList,ns,ms,rfl,hi,hj,by left,h⟩
end
variable {Q:Value->Shared->Prop}
section
variable {prog:Program}{w:World}{A:Around}{E:Value->Shared->Prop}{s:Shared}
theorem yT{l b:Addr}{items cT:Array Value}{ns ms:List Int}(hl:IsTup s.heap l items)(hb:IsTup s.heap b cT)(hi:IntsAre items.toList ns)(hj:IntsAre cT.toList ms)
  (hu:A.units<cLine) (h:Q (.bool (lexLt ns ms)) s):wpAny (model prog w) A (compareOp .Lt (.ref l) (.ref b)) Q E s:=by
 obtain⟨⟨cls,dd,data,sl⟩,ho,hc,n,hd⟩:=id hl;obtain⟨⟨Oc,Co,data2,zW⟩,yk,hc2,n2,hd2⟩:=id hb;simp only at hc hd hc2 hd2;subst hc hd hc2 hd2;exact richCompare_meets_room (op:=.Lt) ⟨_,ho,rfl⟩ ⟨_,yk,rfl⟩ abN PySem.F.entry_tuple_lt (PySem.F.args_tuple_lt_2 _ _) (kY l b items cT n n2 dd Co sl zW ns ms hi hj)
  ⟨ho,yk,show Value.bool (lexLt ns ms)≠Value.notImplemented/\Q (.bool (lexLt ns ms)) s from⟨(λx=>nomatch x),h⟩⟩ hu
theorem Jn{t b:Addr}{vs ws:List Value}(ht:IsTup s.heap t vs.toArray)(hb:IsTup s.heap b ws.toArray)(hv:vs≠[])
  (h1:ws=[]->Q (.ref t) s) (h2:ws≠[]->Q (.ref s.heap.objs.size) { s with heap:=s.heap.push { cls:=.type "tuple",data:=.seq (vs++ws).toArray } })
  (hsz:vs.length+ws.length<=sizeLine):wpAny (model prog w) A (binaryOp .Add (.ref t) (.ref b)) Q E s:=by
 obtain⟨⟨cls,dd,data,sl⟩,ho,hc,n,hd⟩:=id ht;obtain⟨⟨Oc,Co,data2,zW⟩,yk,hc2,n2,hd2⟩:=id hb;simp only at hc hd hc2 hd2;subst hc hd hc2 hd2;have e:vs.toArray++ws.toArray=(vs++ws).toArray:=by simp
 by_cases hw:ws=[]
 ·exact concat_meets ⟨_,ho,rfl⟩ ⟨_,yk,rfl⟩ noFill_tuple_add seq_tuple_add PySem.F.slot_tuple_add PySem.F.entry_tuple_add (PySem.F.args_tuple_add_2 _ _)
   (tuple_addW1 t b vs.toArray ws.toArray n n2 dd Co sl zW (by simpa using hv) (by simp[hw])) ⟨ho,yk,h1 hw⟩
 ·refine concat_meets ⟨_,ho,rfl⟩ ⟨_,yk,rfl⟩ noFill_tuple_add seq_tuple_add PySem.F.slot_tuple_add PySem.F.entry_tuple_add (PySem.F.args_tuple_add_2 _ _)
   (tuple_addW2 t b vs.toArray ws.toArray n n2 dd Co sl zW (by simpa using hv) (by simpa using hw) (by rw[List.size_toArray,List.size_toArray];exact hsz)) ⟨ho,yk,?_⟩
  rw[e];exact h2 hw
noncomputable def yI(n d:Nat):Option Int->Nat
 | none=>d
 | some v=>if v<0 then(v+(n:Int)).toNat else min v.toNat n
end
end HT
namespace L2
open PySem PySem.Spec PyProof.Rows
noncomputable abbrev TO:=St->Hp->(Option Int->Hp->Prop)->Prop
noncomputable def PO(X:Cx)(e:Option Expr)(t:TO):Prop :=
 ∀(pins:List (Addr×Obj)) (s:Shared) (σ:St) (H:Hp) (Q:Option Int->Hp->Prop),Inv X pins σ H s->t σ H Q ->
  wpAny (model X.prog X.w) X.A (evalPart e X.env) (λu s'=>∃ o H',Inv X pins σ H' s'/\IsPart u o/\Q o H') X.xe s
noncomputable def He:TO:=λ_ H Q=>Q none H
noncomputable def P5(t:TE):TO:=λσ H Q=>t σ H λx H1=>∃ i,x=.int i/\Q (some i) H1
theorem intsAre_of{ns:List Int}:∀ {us:List Value},Vals (ns.map V.int) us->IntsAre us ns:=by
 induction ns with
 | nil=>intro us r;rw[List.map_nil]at r;cases r;exact .nil
 | cons n ns ih =>
  intro us r;rw[List.map_cons]at r;cases r with
  | cons r1 r2 =>
   obtain⟨t,e⟩:=r1;subst e;exact .cons n t (ih r2)
section
variable {X:Cx}{e:Expr}{te:TE}{lo hi:Option Expr}{tl th:TO}{pos p2:Pos}
theorem Aj:PO X none He:=by
 intro pins s σ H Q I h;rw[evalPart_none];exact aaq ⟨none,H,I,.none,h⟩
theorem Ai(h:PE X e te):PO X (some e) (P5 te):=by
 intro pins s σ H Q I hw;rw[evalPart_some];refine cI (h pins s σ H _ I hw) λu s1 ⟨x,H1,I1,r1,q1⟩=>?_;obtain⟨i,rfl,q⟩:=q1;obtain⟨t,rfl⟩:=r1;exact⟨some i,H1,I1,.int i t,q⟩
def Yr(X:Cx)(r:V->Option Int->Option Int->Hp->VK->Prop):Prop :=
 ∀(pins:List (Addr×Obj)) (s:Shared) (σ:St) (H:Hp) (x:V) (v vl vu:Value) (lo hi:Option Int) (sl:Addr) (Q:VK),Inv X pins σ H s->RelV x v->s.heap.IsSliceOf sl vl vu .none->IsPart vl lo->IsPart vu hi->r x lo hi H Q ->
  ∃ T id,typeLookup (.type T) "__getitem__" = pure (some (.builtin id))/\s.TypeIs v T/\wpAny (model X.prog X.w) X.A (getItem v (.ref sl)) (EP X pins σ Q) X.xe s
noncomputable def tSl(r:V->Option Int->Option Int->Hp->VK->Prop)(te:TE)(tl th:TO):TE:=λσ H Q=>te σ H λx H1=>tl σ H1 λl H2=>th σ H2 λu H3=>r x l u H3 Q
theorem D4{r:V->Option Int->Option Int->Hp->VK->Prop}(hr:Yr X r)(he:PE X e te)(hl:PO X lo tl)(hu:PO X hi th):PE X (.Subscript e (.Slice lo hi none p2) pos) (tSl r te tl th):=by
 intro pins s σ H Q I h;refine Subscript_ (cI (he pins s σ H _ I h) λv s1 ⟨x,H1,I1,r1,q1⟩=>?_);refine wpAny_Slice (cI (hl pins s1 σ H1 _ I1 q1) λvl s2 ⟨l,H2,I2,pl,q2⟩=>cI (hu pins s2 σ H2 _ I2 q2) λvu s3 ⟨u,H3,I3,pu,q3⟩=>?_);rw[evalPart_none];refine aaq ?_;have I4:Inv X pins σ H3 { s3 with heap:=s3.heap.push { cls:=.type "slice",data:=.fields #[vl,vu,.none] } }:=I3.kept (t':=s3.toks) λb ob q=>aar _ q;obtain⟨T,id,hT,ht,hg⟩:=hr pins { s3 with heap:=s3.heap.push { cls:=.type "slice",data:=.fields #[vl,vu,.none] } } σ H3 x v vl vu l u s3.heap.objs.size Q I4 r1 (Heap.IsSliceOf.new ..) pl pu q3;show wpAny (model X.prog X.w) X.A (subscriptTail e (.Slice lo hi none p2) v (.ref s3.heap.objs.size)) (EP X pins σ Q) X.xe { s3 with heap:=s3.heap.push { cls:=.type "slice",data:=.fields #[vl,vu,.none] } };exact tail_any (ops:=[.ref s3.heap.objs.size,v]) ht hT hg (by with_unfolding_all rfl)
def Ji(xs:List V)(lo hi:Option Int):List V:=(xs.drop (HT.yI xs.length 0 lo)).take (HT.yI xs.length xs.length hi - HT.yI xs.length 0 lo)
theorem xQ(xs:List V)(lo hi:Option Int):(Ji xs lo hi).length<=xs.length:=by
 unfold Ji;rw[List.length_take,List.length_drop];left
def QF(K:PySem.W.Frag):R2:=λx y H Q=>∃ a b xs ys,x=.ref a/\y=.ref b/\aG K H a xs/\aG K H b ys/\xs≠[]/\xs.length+ys.length<=sizeLine /\
 (ys=[]->Q (.ref a) H)/\(ys≠[]->∀ p,H p=none->Q (.ref p) (upd H p (.tup (xs++ys))))
theorem Vals.va{xs:List V}{us:List Value}(r:Vals xs us):us=[] ↔ xs=[]:=by
 cases r with
 | nil=>simp
 | cons _ _=>simp
theorem Ue:lh X (binaryOp .Add) (QF X.K):=by
 intro pins s σ H x y v u Q I rx ry h;obtain⟨a,b,xs,ys,rfl,rfl,ha,hb,hx,hz,q1,q2⟩:=h;cases rx;cases ry;obtain⟨ao,r1,p1,_⟩:=I.tuple ha;obtain⟨EE,r2,p2,_⟩:=I.tuple hb;refine HT.Jn p1 p2 (λz=>hx (r1.va.mp z)) (λz=>⟨.ref a,H,I,rfl,q1 (r2.va.mp z)⟩) (λz=>?_) (by rw[<- r1.length,<- r2.length];exact hz);refine⟨.ref s.heap.objs.size,_,I.laid (t':=s.toks) (o:=.tup (xs++ys)) (λb ob q=>aar _ q) (aas _) ?_,rfl,q2 (λw=>z (r2.va.mpr w)) _ (I.bQ.fresh (aas _))⟩;exact⟨by rw[List.length_append];exact hz,_,r1.append r2,IsTup.new _ _⟩
end
end L2
namespace L2
open PySem PySem.Spec PyProof.Rows
noncomputable def B0(n:Nat)(i:Int):Option Nat:=if 0<=i then(if i<n then some i.toNat else none)else if -(n:Int)<=i then some (i+n).toNat else none
def Ks{α:Type}(xs:List α)(i:Int):Option α:=(B0 xs.length i).bind λj=>xs[j]?
theorem AF{n:Nat}{i:Int}{j:Nat}(h:B0 n i=some j):seqIndex? i n=some j/\j<n /\ -(n:Int)<=i/\i<n:=by
 unfold B0 at h;by_cases h0:0<=i
 ·rw[if_pos h0]at h;by_cases h1:i<n
  ·rw[if_pos h1]at h;have e:i.toNat=j:=aaA h;exact⟨by rw[seqIndex_of h0 h1,e],by left,by left,h1⟩
  ·rw[if_neg h1]at h;cases h
 ·rw[if_neg h0]at h;by_cases h1:-(n:Int)<=i
  ·rw[if_pos h1]at h;have e:(i+n).toNat=j:=aaA h;exact⟨by rw[seqIndex_neg (by left) h1,e],by left,h1,by left⟩
  ·rw[if_neg h1]at h;cases h
theorem Bd{α:Type}{xs:List α}{i:Int}{v:α}(h:Ks xs i=some v):∃ j,seqIndex? i xs.length=some j/\xs[j]?=some v/\j<xs.length /\ -(xs.length:Int)<=i/\i<xs.length:=by
 unfold Ks at h;cases e:B0 xs.length i with
 | none=>rw[e]at h;cases h
 | some j =>
  rw[e]at h;obtain⟨h1,h2,h3,h4⟩:=AF e;exact⟨j,h1,h,h2,h3,h4⟩
noncomputable def qg(b:Expr):Prop:=∀ o i,subscripted b false o i=operate [o,i] (getItem o i)
def Kv(X:Cx)(r:R2):Prop :=
 ∀(value slice:Expr) (pins:List (Addr×Obj)) (s:Shared) (σ:St) (H:Hp) (x y:V) (v u:Value) (Q:VK),Inv X pins σ H s->RelV x v->RelV y u->r x y H Q ->
  subscripted slice false v u=operate [v,u] (getItem v u)->wpAny (model X.prog X.w) X.A (subscriptTail value slice v u) (EP X pins σ Q) X.xe s
def Yu(X:Cx)(id:String)(r:V->List V->Hp->VK->Prop):Prop :=
 ∀(pins:List (Addr×Obj)) (s:Shared) (σ:St) (H:Hp) (x:V) (xs:List V) (v:Value) (us:List Value) (Q:VK),Inv X pins σ H s->RelV x v->Vals xs us->r x xs H Q ->
  wpAny (model X.prog X.w) X.A (call (.builtin id) (v::us)) (EP X pins σ Q) X.xe s
variable {H:Hp}{σ:L2.St}
section
variable {X:Cx}{a b:Expr}{ta tb:TE}{pos:Pos}
theorem Kv.or{r r':R2}(h:Kv X r)(h':Kv X r'):Kv X (λx y H Q=>r x y H Q\/r' x y H Q):=by
 intro value slice pins s σ H x y v u Q I rx ry q hs;rcases q with q | q
 ·exact h value slice pins s σ H x y v u Q I rx ry q hs
 ·exact h' value slice pins s σ H x y v u Q I rx ry q hs
theorem D9{r:R2}(hr:Kv X r)(ha:PE X a ta)(hb:PE X b tb)(hs:qg b):PE X (.Subscript a b pos) (Gp r ta tb):=by
 intro pins s σ H Q I h;exact Subscript_ (Oh ha hb I h λv u s2 x y H2 I2 rx ry q=>hr a b pins s2 σ H2 x y v u Q I2 rx ry q (hs _ _))
def VI(K:PySem.W.Frag):R2:=λx y H Q=>∃ p xs i v,x=.ref p/\y=.int i/\cV K H p xs/\Ks xs i=some v/\Q v H
def VH(K:PySem.W.Frag):R2:=λx y H Q=>∃ p xs i v,x=.ref p/\y=.int i/\aG K H p xs/\Ks xs i=some v/\Q v H
theorem AE:Kv X (VI X.K):=by
 intro value slice pins s σ H x y v u Q I rx ry h hs;obtain⟨p,xs,i,z,rfl,rfl,hq,he,q⟩:=h;cases rx;obtain⟨t,rfl⟩:=ry;obtain⟨ao,r,pl,hz⟩:=I.list hq;obtain⟨j,h1,h2,h3,h4,h5⟩:=Bd he;obtain⟨w,ew,mB⟩:=r.get h2;have hl:=r.length;have hn:=vg;have fin:EP X pins σ Q w s:=⟨z,H,I,mB,q⟩
 by_cases h0:0<=i
 ·have hj:i.toNat=j:=by
   rw[seqIndex_of h0 h5]at h1;exact aaA h1
  exact item_listR pl.isList h0 (by left) (by rw[hj];simpa using ew) fin hs
 ·have hj:(i+(ao.toArray.size:Int)).toNat=j:=by
   rw[seqIndex_neg (by left) h4]at h1;rw[List.size_toArray,<- hl];exact aaA h1
  exact aby (x:=w) pl.isList.typeIs slot_list_getitem.lookup
   (wpAny_getItem_list_neg (Q:=λr s'=>r=w/\EP X pins σ Q r s') pl.isList (by left) (by rw[List.size_toArray]<;>omega) (by left) (by rw[hj];simpa using ew) ⟨rfl,fin⟩) hs
theorem ED:Kv X (VH X.K):=by
 intro value slice pins s σ H x y v u Q I rx ry h hs;obtain⟨p,xs,i,z,rfl,rfl,hq,he,q⟩:=h;cases rx;obtain⟨t,rfl⟩:=ry;obtain⟨ao,r,pl,hz⟩:=I.tuple hq;obtain⟨j,h1,h2,h3,h4,h5⟩:=Bd he;obtain⟨w,ew,mB⟩:=r.get h2;have hl:=r.length;have hn:=vg;have fin:EP X pins σ Q w s:=⟨z,H,I,mB,q⟩
 exact aby (x:=w) pl.typeIs slot_tuple_getitem.lookup
  (getItem_tuple (j:=j) (Q:=λr s'=>r=w/\EP X pins σ Q r s') pl (by left) (by left) (by rw[List.size_toArray,<- hl];exact h1) (by simpa using ew) ⟨rfl,fin⟩) hs
theorem yR(ao:List Value)(n j:Nat)(u:Value):Obj.mapSeq (·.setIfInBounds j u) { cls:=.type "list",data:=.seq ao.toArray n }={ cls:=.type "list",data:=.seq (ao.set j u).toArray n }:=by
 simp[Obj.mapSeq]
theorem Inv.lst{pins:List (Addr×Obj)}{σ:St}{H:Hp}{s:Shared}{p:Addr}{xs:List V}(I:Inv X pins σ H s)(h:H p=some (.lst xs)):
  ∃(ao:List Value) (n:Nat),Vals xs ao/\s.heap.get? p=some { cls:=.type "list",data:=.seq ao.toArray n }/\xs.length<=sizeLine:=by
 obtain⟨z,ao,n,r,e⟩:=I.bQ p _ h;exact⟨ao,n,r,e,z⟩
theorem Inv.Mj{pins:List (Addr×Obj)}{s:Shared}{p:Addr}{xs ys:List V}{ao its':List Value}{n n':Nat}{f:Obj->Obj}(I:Inv X pins σ H s)(h:H p=some (.lst xs))
  (ho:s.heap.get? p=some { cls:=.type "list",data:=.seq ao.toArray n }) (hf:f { cls:=.type "list",data:=.seq ao.toArray n }={ cls:=.type "list",data:=.seq its'.toArray n' }) (r:Vals ys its') (hz:ys.length<=sizeLine) (t:Nat) :
  Inv X pins σ (upd H p (.lst ys)) { s with heap:=s.heap.update p f,toks:=t }:=by
 have e:(s.heap.update p f).get? p=some { cls:=.type "list",data:=.seq its'.toArray n' }:=by
  rw[Heap.get?_update_self f ho (by rw[hf]<;>rfl),hf]
 refine I.write (x:=p) (e:=p) (by rw[h];trivial) (.inl rfl) (λb u hb q=>(aaQ _ _ (abv hb)).trans q) ⟨_,e⟩ ?_;exact⟨hz,its',n',r,e⟩
def QB:V->V->V->Hp->(Hp->Prop)->Prop:=λo i v H Q=>∃ p xs k j,o=.ref p/\i=.int k/\H p=some (.lst xs)/\B0 xs.length k=some j/\Q (upd H p (.lst (xs.set j v)))
theorem set_list:Tx X QB:=by
 intro pins s σ H o i v ov iv u Q I ro ri rv h;obtain⟨p,xs,k,j,rfl,rfl,hp,hj,q⟩:=h;cases ro;obtain⟨t,rfl⟩:=ri;obtain⟨ao,n,r,ho,hz⟩:=I.lst hp;obtain⟨h1,h2,h3,h4⟩:=AF hj;have hl:=r.length;have hn:=vg;have I':Inv X pins σ (upd H p (.lst (xs.set j v))) { s with heap:=s.heap.update p (Obj.mapSeq (·.setIfInBounds j u)) } :=
  I.Mj hp ho (yR ao n j u) (r.set rv j) (by rw[List.length_set];exact hz) s.toks
 by_cases h0:0<=k
 ·have hk:k.toNat=j:=by
   rw[seqIndex_of h0 h4]at h1;exact aaA h1
  exact PySem.W.ki_setAt ho h0 (by left) (by rw[List.size_toArray,<- hl];exact h4) (by rw[hk];exact⟨_,I',q⟩)
 ·have hk:(k+(ao.toArray.size:Int)).toNat=j:=by
   rw[seqIndex_neg (by left) h3]at h1;rw[List.size_toArray,<- hl];exact aaA h1
  exact PySem.W.ki_setBack ho (by left) (by rw[List.size_toArray,<- hl];exact h3) (by left) (by rw[hk];exact⟨_,I',q⟩)
theorem uQ(lo hi:Option Int)(n:Nat):(sliceBounds lo hi none n).1=((HT.yI n 0 lo:Nat):Int)/\(sliceBounds lo hi none n).2.1=((HT.yI n n hi:Nat):Int)/\(sliceBounds lo hi none n).2.2=1:=by
 refine⟨?_,?_,rfl⟩
 ·cases lo with
  | none=>simp[sliceBounds,HT.yI]
  | some i =>
   simp only[sliceBounds,HT.yI,Option.getD_none,show(1:Int)>0 by decide,if_true];by_cases h:i<0
   ·simp only[h,if_true]<;>left
   ·simp only[h,if_false]<;>left
 ·cases hi with
  | none=>simp[sliceBounds,HT.yI]
  | some i =>
   simp only[sliceBounds,HT.yI,Option.getD_none,show(1:Int)>0 by decide,if_true];by_cases h:i<0
   ·simp only[h,if_true]<;>left
   ·simp only[h,if_false]<;>left
theorem sQ(ao:List Value)(lo hi:Option Int):slicePick ao.toArray lo hi none=((ao.drop (HT.yI ao.length 0 lo)).take (HT.yI ao.length ao.length hi - HT.yI ao.length 0 lo)).toArray:=by
 obtain⟨h1,h2,h3⟩:=uQ lo hi ao.toArray.size;unfold slicePick;rw[h1,h2,h3];simp only[sliceRange_one,pick_run,List.size_toArray]<;>rfl
def VF(K:PySem.W.Frag):V->Option Int->Option Int->Hp->VK->Prop:=λx lo hi H Q=>∃ a xs,x=.ref a/\cV K H a xs/\∀ p,H p=none->Q (.ref p) (upd H p (.lst (Ji xs lo hi)))
theorem zV:Yr X (VF X.K):=by
 intro pins s σ H x v vl vu lo hi sl Q I rx hs pl pu h;obtain⟨a,xs,rfl,hx,q⟩:=h;cases rx;obtain⟨ao,r,ht,hz⟩:=I.list hx;have hlen:=r.length;refine⟨"list",_,slot_list_getitem.lookup,ht.isList.typeIs,?_⟩;refine wpAny_getItem_list_slice ht.isList hs pl pu .none (by simp) ?_ (by rw[List.size_toArray]<;>omega);rw[sQ,<- hlen];refine⟨.ref s.heap.objs.size,_,I.laid (t':=s.toks) (o:=.lst (Ji xs lo hi)) (λb ob q=>aar _ q) (aas _) ?_,rfl,q _ (I.bQ.fresh (aas _))⟩;exact⟨aaI (xQ xs lo hi) hz,_,0,(r.drop (HT.yI xs.length 0 lo)).take (HT.yI xs.length xs.length hi - HT.yI xs.length 0 lo),aaw _ rfl⟩
noncomputable def j4:V->Bool
 | .bh=>true
 | .bl _=>true
 | .int _=>true
 | .str _=>true
 | _=>false
noncomputable def GA:V->V->Bool
 | .bh,.bh=>true
 | .bl a,.bl b=>a==b
 | .bl a,.int b=>(if a then 1 else 0)==b
 | .int a,.bl b=>a==(if b then 1 else 0)
 | .int a,.int b=>a==b
 | .str a,.str b=>a==b
 | _,_=>false
theorem NR{A:Around}{s:Shared}{y x:V}{u v:Value}(ry:RelV y u)(rx:RelV x v)(fy:j4 y=true)(fx:j4 x=true):SeqAt.EqAt A s u v (GA y x):=by
 cases y with
 | bh =>
  cases ry;cases x with
  | bh=>cases rx;exact abf _
  | bl b=>cases rx;exact abW b
  | int b=>obtain⟨t,rfl⟩:=rx;exact ab5 b t
  | str b=>obtain⟨t,rfl⟩:=rx;exact SeqAt.EqAt.none_str b t
  | _=>exact absurd (show false=true from fx) aal
 | bl a =>
  cases ry;cases x with
  | bh=>cases rx;exact abX a
  | bl b=>cases rx;exact abY a b
  | int b=>obtain⟨t,rfl⟩:=rx;exact ab6 a b t
  | str b=>obtain⟨t,rfl⟩:=rx;exact SeqAt.EqAt.bool_str a b t
  | _=>exact absurd (show false=true from fx) aal
 | int a =>
  obtain⟨t',rfl⟩:=ry;cases x with
  | bh=>cases rx;exact ab7 a t'
  | bl b=>cases rx;exact ab8 a t' b
  | int b=>obtain⟨t,rfl⟩:=rx;exact abt a t' b t
  | str b=>obtain⟨t,rfl⟩:=rx;exact SeqAt.EqAt.int_str a t' b t
  | _=>exact absurd (show false=true from fx) aal
 | str a =>
  obtain⟨t',rfl⟩:=ry;cases x with
  | bh=>cases rx;exact SeqAt.EqAt.str_none a t'
  | bl b=>cases rx;exact SeqAt.EqAt.str_bool a t' b
  | int b=>obtain⟨t,rfl⟩:=rx;exact SeqAt.EqAt.str_int a t' b t
  | str b=>obtain⟨t,rfl⟩:=rx;exact SeqAt.EqAt.str_str a t' b t
  | _=>exact absurd (show false=true from fx) aal
 | _=>exact absurd (show false=true from fy) aal
def zk(x:V)(u:Value):Bool:=match u with
 | .none=>GA .bh x
 | .bool b=>GA (.bl b) x
 | .int i _=>GA (.int i) x
 | .str z _=>GA (.str z) x
 | _=>false
theorem FL{x y:V}{u:Value}(r:RelV y u)(f:j4 y=true):zk x u=GA y x:=by
 cases y with
 | bh=>cases r;rfl
 | bl b=>cases r;rfl
 | int i=>obtain⟨t,rfl⟩:=r;rfl
 | str z=>obtain⟨t,rfl⟩:=r;rfl
 | _=>exact absurd (show false=true from f) aal
theorem m7{x:V}:∀ {xs:List V} {us:List Value},Vals xs us->xs.all j4=true->us.any (zk x)=xs.any λy=>GA y x
 | _,_,.nil,_=>rfl
 | y::xs,u::us,.cons r t,f=>by
  rw[List.all_cons,Bool.and_eq_true]at f;rw[List.any_cons,List.any_cons,FL r f.1,m7 t f.2]
theorem jW{A:Around}{s:Shared}{x:V}{v:Value}(rx:RelV x v)(fx:j4 x=true):∀ {xs:List V} {us:List Value},Vals xs us->xs.all j4=true->∀ u∈us,SeqAt.EqAt A s u v (zk x u)
 | _,_,.nil,_=>λu hu=>by cases hu
 | y::xs,u::us,.cons r t,f=>λu' hu=>by
  rw[List.all_cons,Bool.and_eq_true]at f;rcases List.mem_cons.mp hu with rfl | hu
  ·rw[FL r f.1];exact NR r rx f.1 fx
  ·exact jW rx fx t f.2 u' hu
def Ur(x:V)(xs:List V):Bool:=xs.any λy=>GA y x
def VL(K:PySem.W.Frag)(neg:Bool):R2:=λx y H Q=>∃ p xs,y=.ref p/\(cV K H p xs\/aG K H p xs)/\j4 x=true/\xs.all j4=true/\Q (.bl (if neg then !Ur x xs else Ur x xs)) H
theorem BP:lh X (compareOp .In) (VL X.K false):=by
 intro pins s σ H x y v u Q I rx ry h;obtain⟨p,xs,rfl,hq,fx,fs,q⟩:=h;cases ry;rcases hq with hq | hq
 ·obtain⟨ao,r,pl,hz⟩:=I.list hq;refine SeqAt.in_listAt (zk x) pl.isList (λw hw=>jW rx fx r fs w (by simpa using hw)) ⟨.bl _,H,I,rfl,?_⟩;rw[show ao.toArray.any (zk x)=ao.any (zk x) by simp,m7 r fs];exact q
 ·obtain⟨ao,r,pl,hz⟩:=I.tuple hq;refine SeqAt.in_tupleAt (zk x) pl (λw hw=>jW rx fx r fs w (by simpa using hw)) ⟨.bl _,H,I,rfl,?_⟩;rw[show ao.toArray.any (zk x)=ao.any (zk x) by simp,m7 r fs];exact q
theorem HP:lh X (compareOp .NotIn) (VL X.K true):=by
 intro pins s σ H x y v u Q I rx ry h;obtain⟨p,xs,rfl,hq,fx,fs,q⟩:=h;cases ry;rcases hq with hq | hq
 ·obtain⟨ao,r,pl,hz⟩:=I.list hq;refine SeqAt.notIn_listAt (zk x) pl.isList (λw hw=>jW rx fx r fs w (by simpa using hw)) ⟨.bl _,H,I,rfl,?_⟩;rw[show ao.toArray.any (zk x)=ao.any (zk x) by simp,m7 r fs];exact q
 ·obtain⟨ao,r,pl,hz⟩:=I.tuple hq;refine SeqAt.notIn_tupleAt (zk x) pl (λw hw=>jW rx fx r fs w (by simpa using hw)) ⟨.bl _,H,I,rfl,?_⟩;rw[show ao.toArray.any (zk x)=ao.any (zk x) by simp,m7 r fs];exact q
theorem vY:gj X (.builtin "len") (λxs H Q=>∃ p ys,xs=[.ref p]/\(cV X.K H p ys\/aG X.K H p ys)/\Q (.int ys.length) H):=by
 intro pins s σ H xs us Q I r h;obtain⟨p,ys,rfl,hq,q⟩:=h;obtain⟨u,rfl,rx⟩:=vals1 r;cases rx;have hn:=vg;rcases hq with hq | hq
 ·obtain⟨ao,r',pl,hz⟩:=I.list hq;have hlen:=r'.length;exact Calls.call_len_list pl.isList (by simp only[List.size_toArray]<;>omega) ⟨.int ys.length,H,I.tok _,⟨s.toks+1,by rw[List.size_toArray,hlen]⟩,q⟩
 ·obtain⟨ao,r',pl,hz⟩:=I.tuple hq;have hlen:=r'.length;exact len_tuple pl (by simp only[List.size_toArray]<;>omega) ⟨.int ys.length,H,I.tok _,⟨s.toks+1,by rw[List.size_toArray,hlen]⟩,q⟩
theorem vX:gj X (.type "list") (λxs H Q=>∃ p ys,xs=[.ref p]/\(cV X.K H p ys\/aG X.K H p ys)/\∀ l,H l=none->Q (.ref l) (upd H l (.lst ys))):=by
 intro pins s σ H xs us Q I r h;obtain⟨p,ys,rfl,hq,q⟩:=h;obtain⟨u,rfl,rx⟩:=vals1 r;cases rx;have fin:∀(ao:List Value),Vals ys ao->ys.length<=sizeLine->∀(h':Heap) (c':Nat),(∀ b o',s.heap.get? b=some o'->h'.get? b=some o') ->
   h'.get? s.heap.objs.size=some { cls:=.type "list",dict:=none,data:=.seq ao.toArray c',slots:=#[] }->EP X pins σ Q (.ref s.heap.objs.size) { s with heap:=h' }:=λao r' hz h' c' kp e =>
  ⟨.ref s.heap.objs.size,_,I.laid (t':=s.toks) kp (aas _) (show b7 X.prog X.w _ h' _ (.lst ys) from⟨hz,ao,c',r',e⟩),rfl,q _ (I.bQ.fresh (aas _))⟩
 rcases hq with hq | hq
 ·obtain⟨ao,r',pl,hz⟩:=I.list hq;have hlen:=r'.length;obtain⟨o,ho,hc,n,hd⟩:=pl.isList;exact call_list_seq p (.inl rfl) ho hc hd (λh' c' kp e=>fin ao r' hz h' c' kp e) (by simp only[List.size_toArray]<;>omega)
 ·obtain⟨ao,r',pl,hz⟩:=I.tuple hq;have hlen:=r'.length;obtain⟨o,ho,hc,n,hd⟩:=pl;exact call_list_seq p (.inr rfl) ho hc hd (λh' c' kp e=>fin ao r' hz h' c' kp e) (by simp only[List.size_toArray]<;>omega)
theorem tx:gj X (.type "tuple") (λxs H Q=>∃ p ys,xs=[.ref p]/\((cV X.K H p ys/\∀ l,H l=none->Q (.ref l) (upd H l (.tup ys)))\/(aG X.K H p ys/\Q (.ref p) H))):=by
 intro pins s σ H xs us Q I r h;obtain⟨p,ys,rfl,h⟩:=h;obtain⟨u,rfl,rx⟩:=vals1 r;cases rx;rcases h with ⟨hq,q⟩ | ⟨hq,q⟩
 ·obtain⟨ao,r',pl,hz⟩:=I.list hq;have hlen:=r'.length;refine call_tuple_list pl.isList (λh' kp=>?_) (by simp only[List.size_toArray]<;>omega);have I1:Inv X pins σ H { s with heap:=h' }:=I.kept (t':=s.toks) kp;have I2:Inv X pins σ (upd H h'.objs.size (.tup ys)) { s with heap:=h'.push { cls:=.type "tuple",data:=.seq ao.toArray } } :=
   I1.laid (t':=s.toks) (λb o e=>aar _ e) (aas _) (show b7 X.prog X.w _ _ _ (.tup ys) from⟨hz,ao,r',IsTup.new _ _⟩)
  exact⟨.ref h'.objs.size,_,I2,rfl,q _ (I1.bQ.fresh (aas _))⟩
 ·obtain⟨ao,r',pl,hz⟩:=I.tuple hq;exact call_tuple_same pl ⟨.ref p,H,I,rfl,q⟩
def U8(K:PySem.W.Frag)(T:String)(x:V)(H:Hp):Prop:=match x with
 | .str _=>T = "str"
 | .int _=>T = "int"
 | .ref p=>(T = "list" /\ ∃ xs,cV K H p xs)\/(T = "tuple" /\ ∃ o,K.lookup p=some o/\o.cls=.type "tuple" /\ o.dict=none) \/
   (T = "dict" /\ ((∃ o_,H p=some (.dK o_))\/∃ o_,H p=some (.dT o_)))\/(T = "set" /\ ∃ S n,H p=some (.set S n))
 | _=>False
theorem C8{pins:List (Addr×Obj)}{s:Shared}{T:String}{x:V}{v:Value}(I:Inv X pins σ H s)(r:RelV x v)(ty:U8 X.K T x H):
  s.TypeIs v T/\∀ a,v=.ref a->∃ ob,s.heap.get? a=some ob/\ob.dict=none:=by
 cases x with
 | str z =>
  obtain⟨t,rfl⟩:=r;cases (show T = "str" from ty);exact⟨typeIs_str s z t,λ_ e=>nomatch e⟩
 | int i =>
  obtain⟨t,rfl⟩:=r;cases (show T = "int" from ty);exact⟨typeIs_int s i t,λ_ e=>nomatch e⟩
 | ref p =>
  cases r;rcases ty with ⟨rfl,xs,hq⟩ | ⟨rfl,o,hk,hc,hd⟩ | ⟨rfl,hk⟩ | ⟨rfl,S,n,hk⟩
  ·obtain⟨ao,_,pl,_⟩:=I.list hq;refine⟨pl.isList.typeIs,λa e=>?_⟩;cases e;obtain⟨o,n,e,c,hd,_⟩:=pl;exact⟨o,e,hd⟩
  ·refine⟨⟨o,I.BZ p o hk,hc⟩,λa e=>?_⟩;cases e;exact⟨o,I.BZ _ o hk,hd⟩
  ·have z:∃ o,s.heap.get? p=some o/\o.ExactDict:=by
    rcases hk with ⟨o_,hk⟩ | ⟨o_,hk⟩
    ·obtain⟨_,_,_,_,o,_,_,e,ex,_⟩:=I.bQ p _ hk;exact⟨o,e,ex⟩
    ·obtain⟨_,_,_,_,o,_,_,e,ex,_⟩:=I.bQ p _ hk;exact⟨o,e,ex⟩
   obtain⟨o,e,ex⟩:=z;refine⟨⟨o,e,ex.1⟩,λa e2=>?_⟩;cases e2;exact⟨o,e,ex.2.1⟩
  ·obtain⟨o,_,_,_,e,ex,_⟩:=I.bQ p _ hk;refine⟨⟨o,e,ex.1⟩,λa e2=>?_⟩;cases e2;exact⟨o,e,ex.2.1⟩
 | _=>exact False.elim ty
def Vj(K:PySem.W.Frag)(T:String)(r:V->List V->Hp->VK->Prop)(to:TE):TE:=λσ H Q=>to σ H λx H1=>U8 K T x H1/\r x [] H1 Q
def tBM(K:PySem.W.Frag)(T:String)(r:V->List V->Hp->VK->Prop)(to:TE)(t:TA):TE:=λσ H Q=>to σ H λx H1=>U8 K T x H1/\t σ H1 λxs H2=>r x xs H2 Q
variable {o e:Expr}{es:List Expr}{to:TE}{t:TA}{name:Str}{apos cpos:Pos}{T id:String}{r:V->List V->Hp->VK->Prop}
theorem LL(pa:PlainAttrs T)(slot:Slot T name id)(WB:typeOf (.builtin id)=pure (.type "method_descriptor"))(hm:Yu X id r)(ho:PE X o to)
  (xF:attributeBase o name X.env (eval o X.env)=eval o X.env:=by rfl) (hline:(apos.endLine==cpos.line)=true:=by rfl):PE X (.Call (.Attribute o name apos) [] [] cpos) (Vj X.K T r to):=by
 intro pins s σ H Q I h;refine wpAny_Call_method0_late xF hline (cI (ho pins s σ H _ I h) λv s1 ⟨x,H1,I1,r1,ty,q1⟩=>?_);obtain⟨h1,h2⟩:=C8 I1 r1 ty;exact⟨T,id,pa,slot,WB,h1,h2,abD rfl (PySem.evalArgs_none (hm pins s1 σ H1 x [] v [] Q I1 r1 .nil q1))⟩
theorem QR(pa:PlainAttrs T)(slot:Slot T name id)(WB:typeOf (.builtin id)=pure (.type "method_descriptor"))(hm:Yu X id r)(ho:PE X o to)(ha:PA X (e::es) t)
  (xF:attributeBase o name X.env (eval o X.env)=eval o X.env:=by rfl)
  (hfew:((backTo cpos (starEach (e::es) X.env)).all (λx=>!x.1)&&(backToKw cpos (keywordEach [] X.env)).all (λx=>x.1.isSome)
   && decide ((e::es).length+([]:List Keyword).length+(if ([]:List Keyword).isEmpty then 0 else 1)<30))=true:=by rfl)
  (hline:(apos.endLine==cpos.line)=true:=by rfl) (hs:starEach (e::es) X.env=(false,eval e X.env)::starEach es X.env:=by rfl) (MN:(backTo cpos (starEach es X.env)).any (·.1)=false:=by rfl) :
  PE X (.Call (.Attribute o name apos) (e::es) [] cpos) (tBM X.K T r to t):=by
 intro pins s σ H Q I h;refine wpAny_Call_method_late xF hfew hline rfl (cI (ho pins s σ H _ I h) λv s1 ⟨x,H1,I1,r1,ty,q1⟩=>?_);obtain⟨h1,h2⟩:=C8 I1 r1 ty;refine⟨T,id,pa,slot,WB,h1,h2,?_⟩;have hA:=ha cpos pins s1 σ H1 _ I1 q1;rw[hs]at hA ⊢;refine abD (by show(false||(backTo cpos (starEach es X.env)).any (·.1))=false;rw[MN]<;>rfl) (ab0 ?_);exact cI hA λus s2 ⟨vs,H2,I2,r2,q2⟩=>hm pins s2 σ H2 x vs v us Q I2 r1 r2 q2
/- xs.append(e),list.index on a module's tuple .. are Yu facts of 06m -/
end
end L2
namespace L2
open PySem PySem.Spec PyProof.Rows
def Yv(X:Cx)(id:String)(r:V->List V->Hp->VK->Prop):Prop :=
 ∀(pins:List (Addr×Obj)) (s:Shared) (σ:St) (H:Hp) (x:V) (xs:List V) (v:Value) (us:List Value) (Q:VK),Inv X pins σ H s->RelV x v->Vals xs us->r x xs H Q ->
  wpAny (model X.prog X.w) X.A (call (.builtin id) (v::us)) (EP X pins σ Q) X.xe s
theorem Vals.one:∀ {x:V} {us:List Value},Vals [x] us->∃ u,us=[u]/\RelV x u
 | _,_,.cons r .nil=>⟨_,rfl,r⟩
theorem Vals.zero:∀ {us:List Value},Vals [] us->us=[]
 | _,.nil=>rfl
theorem Vals.eraseIdx:∀ {xs:List V} {us:List Value} (i:Nat),Vals xs us->Vals (xs.eraseIdx i) (us.eraseIdx i)
 | _,_,_,.nil=>.nil
 | _,_,0,.cons _ t=>t
 | _,_,i+1,.cons r t=>.cons r (Vals.eraseIdx i t)
theorem Vals.rep{xs:List V}{us:List Value}(h:Vals xs us):∀ k:Nat,Vals (List.replicate k xs).flatten (List.replicate k us).flatten
 | 0=>.nil
 | k+1=>by
  rw[List.replicate_succ,List.replicate_succ,List.flatten_cons,List.flatten_cons];exact Vals.append h (Vals.rep h k)
theorem ug{α:Type}:∀(l:List α) (i:Nat),(l.eraseIdx i).length<=l.length
 | [],_=>aas _
 | _::_,0=>abE _
 | _::r,i+1=>Nat.succ_le_succ (ug r i)
theorem foldl_rep(ao:List Value):∀(k:Nat) (acc:List Value),
  List.foldl (λx1 x2=>x1++x2) acc.toArray (List.replicate k ao.toArray)=(acc++(List.replicate k ao).flatten).toArray
 | 0,acc=>by simp
 | k+1,acc=>by
  have e:acc.toArray++ao.toArray=(acc++ao).toArray:=by simp
  have e2:(acc++ao)++(List.replicate k ao).flatten=acc++(List.replicate (k+1) ao).flatten:=by
   rw[List.replicate_succ,List.flatten_cons,List.append_assoc]
  rw[<- e2,<- foldl_rep ao k (acc++ao),<- e,List.replicate_succ,List.foldl_cons]
variable {ao:List Value}{t':Nat}
section
variable {X:Cx}{pins:List (Addr×Obj)}{σ:St}{H:Hp}{s:Shared}{l b:Addr}{xs ys zs:List V}
theorem Inv.mF{its':List Value}{n:Nat}{f:Array Value->Array Value}(I:Inv X pins σ H s)(hH:H l=some (.lst xs))
  (e:s.heap.get? l=some { cls:=.type "list",data:=.seq ao.toArray n }) (hf:f ao.toArray=its'.toArray) (hv:Vals ys its') (hz:ys.length<=sizeLine) :
  Inv X pins σ (upd H l (.lst ys)) { s with heap:=s.heap.update l (Obj.mapSeq f),toks:=t' }:=by
 have q:=PySem.IsL.update e f;rw[hf]at q;refine I.write (x:=l) (e:=l) (by rw[hH];exact trivial) (.inl rfl) (λb' u hb hu=>(aaQ s.heap (Obj.mapSeq f) (abv hb)).trans hu) ⟨_,q⟩ ?_;exact⟨hz,its',_,hv,q⟩
theorem Inv.Mm(I:Inv X pins σ H s)(hv:Vals ys ao)(hz:ys.length<=sizeLine):
  Inv X pins σ (upd H s.heap.objs.size (.lst ys)) { s with heap:=s.heap.push { cls:=.type "list",data:=.seq ao.toArray },toks:=t' } :=
 I.laid (λ_ _ q=>aar _ q) (aas _) ⟨hz,ao,0,hv,aaw _ rfl⟩
theorem Inv.fresh(I:Inv X pins σ H s):H s.heap.objs.size=none:=I.bQ.fresh (aas _)
theorem Inv.BX(I:Inv X pins σ H s)(hH:H l=some (.lst xs)):xs.length<=sizeLine/\∃(ao:List Value) (n:Nat),Vals xs ao/\xs.length=ao.length/\s.heap.get? l=some { cls:=.type "list",data:=.seq ao.toArray n }:=by
 obtain⟨z,ao,n,r,e⟩:=I.bQ l _ hH;exact⟨z,ao,n,r,r.length,e⟩
theorem Eh{n:Nat}(h:n<=sizeLine):Builtin.List.listTooLong n=false:=by
 unfold Builtin.List.listTooLong;exact aaX (by left)
end
section
variable {X:Cx}
def HD:V->List V->Hp->VK->Prop:=λx vs H Q=>∃ l xs y,x=.ref l/\vs=[y]/\H l=some (.lst xs)/\xs.length<sizeLine/\Q .bh (upd H l (.lst (xs++[y])))
theorem BS:Yv X "list.append" HD:=by
 intro pins s σ H x vs v us Q I rx rv h;obtain⟨l,xs,y,rfl,rfl,hH,hz,q⟩:=h;cases rx;obtain⟨u,rfl,ru⟩:=rv.one;obtain⟨z,ao,n,r,hl,e⟩:=I.BX hH;refine abw F.slot_list_append ⟨_,e,rfl⟩ F.entry_list_append (F.args_list_append_2 _ _) (PySem.list_append l ao.toArray n u (by rw[List.size_toArray];left)) ⟨e,?_⟩;refine⟨.bh,_,I.mF (its':=ao++[u]) hH e (by simp) (r.append (.cons ru .nil)) ?_,rfl,q⟩;rw[List.length_append,List.length_singleton];left
def Lv:V->List V->Hp->VK->Prop:=λx vs H Q=>∃ l xs i k y,x=.ref l/\vs=[.int i]/\H l=some (.lst xs) /\ -(2 ^ 63)<=i/\i<2 ^ 63/\seqIndex? i xs.length=some k/\xs[k]?=some y/\Q y (upd H l (.lst (xs.eraseIdx k)))
theorem Ra:Yv X "list.pop" Lv:=by
 intro pins s σ H x vs v us Q I rx rv h;obtain⟨l,xs,i,k,y,rfl,rfl,hH,h1,h2,hk,hy,q⟩:=h;cases rx;obtain⟨u,rfl,ru⟩:=rv.one;obtain⟨t,rfl⟩:=ru;obtain⟨z,ao,n,r,hl,e⟩:=I.BX hH;obtain⟨w,hw,mB⟩:=r.get hy;refine abw F.slot_list_pop ⟨_,e,rfl⟩ F.entry_list_pop (F.args_list_pop_2 _ _)
  (MeetsSeq.list_pop_at l ao.toArray n i t k w (fitsIndex_both h1 h2) (by rw[List.size_toArray,<- hl];exact hk) (by rw[<- Array.getElem?_toList];exact hw) (by rw[List.size_toArray];left)) ⟨e,?_⟩
 refine⟨y,_,I.mF (its':=ao.eraseIdx k) hH e ?_ (r.eraseIdx k) ?_,mB,q⟩
 ·show ao.toArray.eraseIdxIfInBounds k=(ao.eraseIdx k).toArray;rw[List.eraseIdxIfInBounds_toArray]
 ·have:=ug xs k;left
def Lx:V->List V->Hp->VK->Prop:=λx vs H Q=>∃ l xs,x=.ref l/\vs=[]/\H l=some (.lst xs)/\Q .bh (upd H l (.lst []))
theorem Ep:Yv X "list.clear" Lx:=by
 intro pins s σ H x vs v us Q I rx rv h;obtain⟨l,xs,rfl,rfl,hH,q⟩:=h;cases rx;have hus:=rv.zero;subst hus;obtain⟨z,ao,n,r,hl,e⟩:=I.BX hH;refine abw F.slot_list_clear ⟨_,e,rfl⟩ F.entry_list_clear (F.args_list_clear_1 _) (AutoSeq1.list_clear_list_0 l ao.toArray n (by rw[List.size_toArray];left)) ⟨e,?_⟩;exact⟨.bh,_,I.mF (its':=[]) (ys:=[]) hH e rfl .nil (aaP _),rfl,q⟩
def VM:R2:=λx y H Q=>∃ l b xs zs,x=.ref l/\y=.ref b/\H l=some (.lst xs)/\H b=some (.lst zs)/\xs.length+zs.length<=sizeLine/\∀ p,H p=none->Q (.ref p) (upd H p (.lst (xs++zs)))
theorem VW:lh X (binaryOp .Add) VM:=by
 intro pins s σ H x y v u Q I rx ry h;obtain⟨l,b,xs,zs,rfl,rfl,hH,hB,hz,q⟩:=h;cases rx;cases ry;obtain⟨z,ao,n,r,hl,e⟩:=I.BX hH;obtain⟨z2,EE,n2,r2,Gv,e2⟩:=I.BX hB;refine PySem.P.add_list e e2 ?_ (by rw[List.size_toArray,List.size_toArray];left);have ea:ao.toArray++EE.toArray=(ao++EE).toArray:=by simp
 rw[ea];exact⟨.ref _,_,I.Mm (t':=s.toks) (r.append r2) (by rw[List.length_append];left),rfl,q _ I.fresh⟩
def VG:R2:=λx y H Q=>∃ l k xs,x=.ref l/\y=.int k/\H l=some (.lst xs) /\ -(2 ^ 63)<=k/\k<2 ^ 63/\xs.length*k.toNat<=sizeLine /\
 ∀ p,H p=none->Q (.ref p) (upd H p (.lst (List.replicate k.toNat xs).flatten))
theorem len_rep{α:Type}(xs:List α)(k:Nat):(List.replicate k xs).flatten.length=k*xs.length:=by
 induction k with
 | zero=>simp
 | succ k ih=>rw[List.replicate_succ,List.flatten_cons,List.length_append,ih,Nat.succ_mul,Nat.add_comm]
theorem VU:lh X (binaryOp .Mult) VG:=by
 intro pins s σ H x y v u Q I rx ry h;obtain⟨l,k,xs,rfl,rfl,hH,h1,h2,hz,q⟩:=h;cases rx;obtain⟨t,rfl⟩:=ry;obtain⟨z,ao,n,r,hl,e⟩:=I.BX hH;have hlen:ao.toArray.size*k.toNat<=sizeLine:=by rw[List.size_toArray,<- hl];exact hz
 have xD:¬ ao.toArray.size*k.toNat>(2 ^ 63 - 1) / 8:=by
  have:(sizeLine:Nat)<=(2 ^ 63 - 1) / 8:=by decide
  left
 have W3:¬ (!Builtin.List.listFitsIndex k)=true:=by
  rw[fitsIndex_both h1 h2];exact aal
 have R6:¬ Builtin.List.listTooLong (ao.toArray.size*k.toNat)=true:=by
  rw[Eh hlen];exact aal
 have MR:List.foldl (λx1 x2=>x1++x2) #[] (List.replicate (if ao.toArray.isEmpty=true then 0 else k.toNat) ao.toArray)=(List.replicate k.toNat ao).flatten.toArray:=by
  have f0:∀ m:Nat,List.foldl (λx1 x2=>x1++x2) #[] (List.replicate m ao.toArray)=(List.replicate m ao).flatten.toArray:=λm=>by
   have:=foldl_rep ao m [];rw[List.nil_append]at this;exact this
  rw[f0];cases ao with
  | nil=>simp
  | cons a r'=>rw[if_neg (by simp)]
 refine wpAny_binaryOp_repeat_ref (T:="list") (U:="int") (by decide) ⟨_,e,rfl⟩ (λs'=>typeIs_int s' k t) noFill_list_mul F.fills_int_mul F.slot_int_rmul repeat_list F.slot_int_index.lookup
  (abw F.slot_int_rmul (typeIs_int s k t) F.entry_int_rmul (F.args_int_rmul_2 _ _) (int___rmul___int_list k t l ao.toArray n)
   ⟨e,rfl,⟨_,e,rfl⟩,abw F.slot_list_mul ⟨_,e,rfl⟩ F.entry_list_mul (F.args_list_mul_2 _ _) (AutoListH.list___mul___list_int_3 l ao.toArray n k t W3 xD R6) ⟨e,?_⟩⟩)
 rw[MR];exact⟨.ref _,_,I.Mm (t':=s.toks) (r.rep k.toNat) (by rw[len_rep,Nat.mul_comm];exact hz),rfl,q _ I.fresh⟩
end
section
variable {prog:Program}{w:World}{A:Around}{E:Value->Shared->Prop}{s:Shared}
set_option maxRecDepth 100000 in
end
section
variable {X:Cx}
end
end L2
namespace Att
open PySem PySem.W PySem.Calls PyProof.Rows
theorem pf{P:Params}{h:Heap}:∀(ns:List Int) (vs:List Value),WellAll P h vs (ns.map WData.int)->IntsAre vs ns:=by
 intro ns;induction ns with
 | nil =>
  intro vs w;rw[List.map_nil]at w;cases w;exact .nil
 | cons n ns ih =>
  intro vs w;rw[List.map_cons]at w;cases w with
  | cons a b =>
   cases a;exact .cons _ _ (ih _ b)
theorem BD{l:OpenLaw}{n:Nat}(hn:l.most=some n){P:Params}{h:Heap}{args:List WData}{vals:List Value}
  (B6:l.row.toRowW.claim.pre args=true) (Wx:WellAll P h vals args) :
  ∃ a vs ns,vals=[Value.ref a]/\args=[WData.list (ns.map WData.int)]/\h.get? a=some { cls:=.type "list",data:=.seq vs.toArray }/\IntsAre vs ns/\ns.length<=n:=by
 have xu:WShape.hasAll [] args [.list .int]=true:=(pre_splitW B6).1;have hc:l.pre.holds [] { args:=args }=true:=(pre_splitW B6).2;obtain⟨d,r,rfl,h1,h2⟩:=hasAllW_cons xu;obtain rfl:=hasAllW_nil h2;obtain⟨xs,rfl,h3⟩:=hasW_list h1;obtain⟨ns,rfl⟩:=items_int h3;have hlen:ns.length<=n:=by
  unfold OpenLaw.pre at hc;have h4:(WTm.not (.lt (.lit (.int (n:Int))) (.len (.arg 0)))).holds [] { args:=[.list (ns.map .int)] }=true:=by
   have h4:=(holds_andW hc).1;rw[hn]at h4;exact h4
  have h5:=condW_of h4 (w_not (w_lt w_lit (w_len_list (w_arg rfl))));rw[List.length_map]at h5;refine Nat.le_of_not_lt λq=>?_;have q':(n:Int)<((ns.length:Nat):Int):=by left
  first
   | (rw[decide_eq_true q']at h5;exact absurd h5 (by decide))
   | (simp at h5;left)
 cases Wx with
 | cons w1 w2 =>
  cases w2;cases w1 with
  | list ho hall=>exact⟨_,_,ns,rfl,rfl,ho,pf ns _ hall,hlen⟩
theorem BM(l:OpenLaw)(args:List WData):l.row.toRowW.claim.post args (.bool true) args=true :=
 postW_of (r:=l.row.toRowW) (X:=(true==true))
  (show WShape.has [] (.bool true) .bool=true by first | rfl | decide | simp[WShape.has,WShape.arms,WShape.armsAll])
  (show(WTm.eq .res (.lit (.bool true))).value [] { args:=args,res:=some (.bool true),after:=args }=some (.bool (true==true)) from w_eq_bool (w_res rfl) w_lit) rfl
theorem yb{l:OpenLaw}{n:Nat}{q:Program}{loose:List Str}{XP:(Str->Option Value)->Heap->Prop}{YP:World->Heap->Prop}{d:DefRec}
  (hn:l.most=some n) (Sf:d.params.defaults=[])
  (call:∀(w:World) (s₀ s₁:Shared) (mg mb:Str->Option Value) (fa:Addr) (o:Obj) (pm cd doc:Value) (a:Addr) (vs:List Value) (ns:List Int),
   Ground q loose [] XP w s₀ mg mb s₁.heap->YP w s₁.heap ->
   s₁.heap.get? fa=some o->o.data=.func (docDef d.name d.params d.body d.scope pm cd doc)->s₁.heap.CodeRec cd d.name->mg d.name=some (.ref fa) ->
   s₁.heap.get? a=some { cls:=.type "list",data:=.seq vs.toArray }->IntsAre vs ns->ns.length<=n->s₁.gens = #[] ->
   codeAny (model l.prog w) callerA (.call (.ref fa) ⟨[.ref a],[]⟩) (λr s'=>r=.ok (.ret (.bool true))/\OldK s₁.heap s'.heap/\s'.os=s₁.os/\AllBare s'.gens) s₁) :
  WalkO q loose XP YP l.row.toRowW d [] (λf vs=>PySem.call f vs):=by
 intro w s₀ s₁ mg mb G Y fa o pm cd doc dV kV ho hd xA hD hmg hg args vals as B6 acn hrd Wx hlo;obtain rfl:dV=.none:=Dflts.none hD Sf;obtain rfl:kV=.none:=Dflts.noKw hD;obtain⟨a,vs,ns,rfl,rfl,MQ,hints,hlen⟩:=BD hn B6 Wx;refine enter_call (abV (call w s₀ s₁ mg mb fa o pm cd doc a vs ns G Y ho (fd_plain hd) xA hmg MQ hints hlen hg) λr s' hq=>?_);obtain⟨rfl,h2,h3,h4⟩:=hq;exact⟨.inl ⟨.bool true,.bool true,[],rfl,λ_=>rfl,.bool true,BM l _,λ_=>⟨List.Pairwise.nil,λ_ hm=>(nomatch hm)⟩⟩,h2,h3,h4⟩
section
variable {prog:Program}{w:World}{A:Around}{E:Value->Shared->Prop}{s:Shared}{K:Frag}
noncomputable def ledger(h:Heap)(L d:Addr):List (Addr×Obj):=(List.range h.objs.size).filterMap λa=>if a=L\/a=d then none else(h.get? a).map λo=>(a,o)
end
end Att
namespace L2
open PySem PySem.Spec PyProof.Rows
theorem nv:∀ {vs:List Value} {ns:List Int},IntsAre vs ns->Vals (ns.map V.int) vs
 | _,_,.nil=>.nil
 | _,_,.cons n t h=>.cons ⟨t,rfl⟩ (nv h)
noncomputable def JB(H:Hp):Prop:=∀ b,H b=none\/∃ o xs,H b=some (.iC o (.lst xs))
theorem Ez{P:Program}{w:World}{K:PySem.W.Frag}{mg mb:Str->Option Value}{CX:Bp}{k:Nat}{fa a:Addr}{fd:FuncData}{x:Str}{sp:Sp}{s₁:Shared}{vs:List Value}{ns:List Int}
  (KX:K.In s₁.heap) (CO:s₁.heap.Ns mainGlobals mg) (hb:s₁.heap.Ns builtinsNs mb) (hbb:∀ x:Str,x ≠ "__name__" -> mb x=bootBuiltins x) (WV:s₁.heap.NoLimit) (hg:s₁.gens = #[])
  (ha:s₁.heap.get? a=some { cls:=.type "list",data:=.seq vs.toArray }) (hi:IntsAre vs ns) (hl:ns.length<=sizeLine) (hr:g5 k callerA)
  (F:∀ base:Heap,K.In base->base.Ns mainGlobals mg->eT P w K mg base CX k fa fd [x] sp) (So:∀(s:Shared) (u:Value),BindsTo s fd ⟨[u],[]⟩ [(x,u)])
  (yi:∀ H:Hp,JB H->cV K H a (ns.map V.int)->sp [.ref a] H (λv _=>v=.bl true) λ_ _ _=>False)
  (Xe:∀ H e s',CX [] H s₁ (λ_ _ _=>False) e s'->False) :
  codeAny (model P w) callerA (.call (.ref fa) ⟨[.ref a],[]⟩) (λr s'=>r=.ok (.ret (.bool true))/\OldK s₁.heap s'.heap/\s'.os=s₁.os/\AllBare s'.gens) s₁:=by
 have rv:=nv hi;have V8:=hi.length;have core:∀ H:Hp,JB H->cV K H a (ns.map V.int)->kT P w H s₁.heap->(∀ b,H b≠none->b=a)->(H a≠none->K.lookup a=none) ->
   codeAny (model P w) callerA (.call (.ref fa) ⟨[.ref a],[]⟩) (λr s'=>r=.ok (.ret (.bool true))/\OldK s₁.heap s'.heap/\s'.os=s₁.os/\AllBare s'.gens) s₁:=by
  intro H hO hS bQ hA hK;have Bb:∀ {b:Addr} {o:Obj},s₁.heap.get? b=some o->H b=none->(vq s₁.heap H).get? b=some o:=λe n=>EX e n;have Q6:∀ {b:Addr} {o:Obj} {es:Array DictEntry} {ep:Nat},s₁.heap.get? b=some o->o.data=.dict es ep->H b=none:=λ{b o es ep} e d=>by
   cases q:H b with
   | none=>rfl
   | some u =>
    have e':b=a:=hA b (by rw[q];simp);subst e';rw[ha]at e;cases e;have d':Data.seq vs.toArray _=Data.dict es ep:=d;cases d'
  have Uh:∀ {b:Addr} {m:Str->Option Value},s₁.heap.Ns b m->(vq s₁.heap H).Ns b m:=λ{b m} ⟨o,es,ep,e,d,r⟩=>⟨o,es,ep,Bb e (Q6 e d),d,r⟩
  have ZS:K.In (vq s₁.heap H):=λb o e=>Bb (KX b o e) (by
   cases q:H b with
   | none=>rfl
   | some u =>
    have e':b=a:=hA b (by rw[q];simp);subst e';rw[hK (by rw[q];simp)]at e;cases e)
  have hM:Mod K mg (vq s₁.heap H):=⟨ZS,Uh CO,⟨mb,Uh hb,hbb⟩,let ⟨mc,h1,h2⟩:=WV;⟨mc,Uh h1,h2⟩⟩
  have e0:JC P w K mg (vq s₁.heap H) callerA [] s₁ H:=⟨rfl,hM,λb o e=>HS e,Nat.le_of_eq (B7 _ _),trivial,λb hb=>absurd (show b∈([]:List Addr) from hb) (by simp),bQ,.of_eq hg⟩
  refine abV ((F _ ZS (Uh CO)).run callerA [] s₁ H ⟨[.ref a],[]⟩ [.ref a] [.ref a] _ _ hr e0 (So s₁ (.ref a)) (.cons rfl .nil) (yi H hO hS)) λr s' h=>?_;cases r with
  | error e=>exact(Xe H e s' h).elim
  | ok fl =>
   cases fl with
   | next=>exact False.elim h
   | brk=>exact False.elim h
   | cont=>exact False.elim h
   | ret u =>
    obtain⟨v,H',os,bare,un,WM,r',q⟩:=h;have q':v=.bl true:=q;subst q';obtain rfl:u=Value.bool true:=r';refine⟨rfl,OldK.of_keep λb o e=>?_,os,bare⟩;cases q:H b with
    | none=>exact un.keep b o e q (by intro z;exact absurd (show b∈([]:List Addr) from z) (by simp)) (by simp)
    | some u =>
     rcases hO b with z | ⟨ob,xs,z⟩
     ·rw[q]at z;cases z
     ·have z2:=un.nN b ob _ z;obtain⟨e1,_⟩:=bQ b _ z;obtain⟨e2,_⟩:=WM b _ z2;rw[e]at e1;cases e1;exact e2
 cases hk:K.lookup a with
 | some o =>
  have e:=KX a o hk;rw[ha]at e;cases e;refine core (λ_=>none) (λ_=>.inl rfl) (.inr ⟨_,vs.toArray,_,hk,rfl,rfl,rfl,by rw[List.size_toArray,V8];exact hl,by simpa using rv⟩) (λb u z=>by have z':(none:Option HO)=some u:=z;cases z') (λb z=>absurd rfl z) λz=>absurd rfl z
 | none =>
  refine core (λb=>if b=a then some (.iC { cls:=.type "list",data:=.seq vs.toArray } (.lst (ns.map V.int)))else none) (λb=>?_) (.inl (.inr ⟨{ cls:=.type "list",data:=.seq vs.toArray },aa3 rfl⟩)) (λb u z=>?_) (λb z=>?_) λ_=>hk
  ·by_cases hb:b=a
   ·exact .inr ⟨_,_,aa3 hb⟩
   ·exact .inl (aco hb)
  ·by_cases hb:b=a
   ·have z':=(aa3 hb).symm.trans z;cases z';subst hb;exact⟨ha,by rw[List.length_map];exact hl,vs,_,rv,ha⟩
   ·have z':=(aco hb).symm.trans z;cases z'
  ·by_cases hb:b=a
   ·exact hb
   ·exact absurd (aco hb) z
end L2
namespace L2
open PySem PySem.Spec PyProof.Rows
theorem GQ{l:PySem.W.OpenLaw}{n k:Nat}{q:Program}{loose:List Str}{XP:(Str->Option Value)->Heap->Prop}{YP:World->Heap->Prop}{d:DefRec}{K:Params->PySem.W.Frag}{CX:World->Bp}{sp:World->Sp}{x:Str}
  (hn:l.most=some n) (hn2:n<=sizeLine) (Sf:d.params.defaults=[]) (hr:g5 k callerA)
  (hY:∀(w:World) (h:Heap),YP w h->(K w.params).In h)
  (F:∀(w:World) (mg:Str->Option Value) (fa:Addr) (h:Heap),(K w.params).In h->h.Ns mainGlobals mg->mg d.name=some (.ref fa) ->
   ∃ fd:FuncData,(∀(s:Shared) (u:Value),BindsTo s fd ⟨[u],[]⟩ [(x,u)]) /\
    ∀ base:Heap,(K w.params).In base->base.Ns mainGlobals mg->eT l.prog w (K w.params) mg base (CX w) k fa fd [x] (sp w))
  (yi:∀(w:World) (H:Hp) (a:Addr) (ns:List Int),ns.length<=n->JB H->cV (K w.params) H a (ns.map V.int)->sp w [.ref a] H (λv _=>v=.bl true) λ_ _ _=>False)
  (Xe:∀(w:World) (H:Hp) (s:Shared) (e:Value) (s':Shared),CX w [] H s (λ_ _ _=>False) e s'->False) :
  PySem.W.WalkO q loose XP YP l.row.toRowW d [] (λf vs=>PySem.call f vs):=by
 refine Att.yb hn Sf λw s₀ s₁ mg mb fa o pm cd doc a vs ns G Y ho hd xA hmg MQ hints hlen hg=>?_;have KX:=hY w _ Y;obtain⟨fd,hb,hF⟩:=F w mg fa _ KX G.T.g hmg;exact Ez KX G.T.g G.T.b G.T.builtins G.T.nolimit hg MQ hints (aaI hlen hn2) hr hF hb (λH hO hS=>yi w H a ns hlen hO hS) λH e s'=>Xe w H s₁ e s'
end L2
namespace L2
open PySem PySem.Spec PyProof.Rows
noncomputable def eh(s:Stmt):Arguments:=match s with
 | .FunctionDef _ a _ _ _ _ _ _ _ _=>a
 | _=>{ posonlyargs:=[],args:=[],vararg:=none,kwonlyargs:=[],kw_defaults:=[],kwarg:=none,defaults:=[] }
noncomputable def aE(s:Stmt):List Stmt:=match s with
 | .FunctionDef _ _ b _ _ _ _ _ _ _=>b
 | _=>[]
noncomputable def ae(s:Stmt):Scope:=match s with
 | .FunctionDef _ _ _ _ _ _ sc _ _ _=>sc
 | _=>{ kind:=.function,names:=[],isGenerator:=false,isCoroutine:=false }
noncomputable abbrev Bq:Bp:=λ_ _ _ _ _ _=>False
noncomputable abbrev E0:XK:=λ_ _ _=>False
theorem QU{X:Cx}:Passes Bq X E0:=λ_ _ _ _ _ _ _ h=>h.elim
structure Bn(K:PySem.W.Frag)(x qual:Str)(st:Stmt)(f:Addr)(fd:FuncData):Prop where
 ex:∃(oc:Value) (od:Option Addr) (kV doc pm:Value) (an:Option Addr) (gW ct:Value) (Ea:Array (Option Value)),
  fd=PySem.W.fnOf x qual (eh st) (aE st) (ae st) .none kV doc pm an gW ct/\K.lookup f=some ⟨oc,od,.func fd,Ea⟩/\PySem.W.codeIn K gW qual=true
 kp:PySem.W.keepIn K (.ref f)=true
variable {ps:List Str}{qual:Str}{st:Stmt}
section
variable {P:Program}{w:World}{K:PySem.W.Frag}{mg:Str->Option Value}{base:Heap}
theorem Bn.ok{x:Str}{f:Addr}{fd:FuncData}{N:List Str}{k:Nat}{sp:Sp}(F:Bn K x qual st f fd)(S:dJ N ps (ae st))(len:∀ vs H Q E,sp vs H Q E->vs.length=ps.length)
  (xE:∀(gW:Value) (A:Around) (outer:List Env) (s:Shared) (H:Hp) (vs:List V) (Q:VK) (E:XK),g5 k (A.deeper (envOfC qual (ae st) s.heap.objs.size f gW))->sp vs H Q E ->
   ∃ t,g9 (j7 Bq P w K mg base N qual (ae st) f gW A outer s H E).yh (aE st) t/\t { nx:=λ_ H'=>Q .bh H',rt:=Q } (start N vs) H):eT P w K mg base Bq (k+1) f fd ps sp:=by
 obtain⟨oc,od,kV,doc,pm,an,gW,ct,Ea,rfl,lk,xA⟩:=F.ex;refine Kf lk xA S len λA outer s H vs Q E hr yi=>?_;obtain⟨t,h,q⟩:=xE gW A outer s H vs Q E hr yi;exact⟨t,h.yh,q⟩
theorem Bn.binds{x:Str}{f:Addr}{fd:FuncData}(F:Bn K x qual st f fd)
  (h:∀(kV doc pm:Value) (an:Option Addr) (gW ct:Value) (us:List Value),us.length=ps.length->bindArgs (PySem.W.fnOf x qual (eh st) (aE st) (ae st) .none kV doc pm an gW ct) ⟨us,[]⟩=pure (ps.zip us)):Binds K fd ps []:=by
 obtain⟨oc,od,kV,doc,pm,an,gW,ct,Ea,rfl,lk,xA⟩:=F.ex;exact .all (h kV doc pm an gW ct)
theorem Nk{x:Str}{f:Addr}{oc:Value}{od an:Option Addr}{Ea:Array (Option Value)}{kV doc pm gW ct:Value}(l:K.lookup f=some ⟨oc,od,.func (PySem.W.fnOf x qual (eh st) (aE st) (ae st) .none kV doc pm an gW ct),Ea⟩)
  (c:PySem.W.codeIn K gW qual=true) (k:PySem.W.keepIn K (.ref f)=true):Bn K x qual st f (PySem.W.fnOf x qual (eh st) (aE st) (ae st) .none kV doc pm an gW ct):=⟨⟨oc,od,kV,doc,pm,an,gW,ct,Ea,rfl,l,c⟩,k⟩
end
theorem EM{A:Around}{k:Nat}(hr:g5 k A):A.units+1<cLine:=aax (Nat.add_le_add_left (by decide:1<=64) _) hr.units
section
variable {X:Cx}
theorem pv(i:Nat){x:Str}{pos:Pos}(hN:X.N[i]?=some x:=by rfl)(hv:Jz X.env.scope x:=by first | exact Or.inl rfl | exact Or.inr (Or.inl rfl) | exact Or.inr (Or.inr rfl))(hd:(x==("__debug__" : Str))=false:=by decide)
  (xA:(x==("__classdict__" : Str))=false:=by decide):PE X (.Name x pos) (uM i):=lu hN hv hd xA
end
theorem Wk{A B:Prop}(h:A):if true=true then A else B:=by
 rw[if_pos rfl];exact h
noncomputable def ak(H H':Hp):Prop:=∀ b o,H b=some o->H' b=some o
theorem ak.refl(H:Hp):ak H H:=λ_ _ h=>h
variable {H H':Hp}
theorem ak.trans{H1 H2:Hp}(a:ak H H1)(b:ak H1 H2):ak H H2:=λc o h=>b c o (a c o h)
theorem ak.free(e:ak H H'){l:Addr}(h:H' l=Option.none):H l=Option.none:=by
 cases q:H l with
 | none=>rfl
 | some o =>
  rw[e l o q]at h;cases h
theorem ak.seq{K:PySem.W.Frag}{a:Addr}{xs:List V}(e:ak H H')(h:cV K H a xs):cV K H' a xs:=by
 rcases h with (h | ⟨o,h⟩) | h
 ·exact .inl (.inl (e _ _ h))
 ·exact .inl (.inr ⟨o,e _ _ h⟩)
 ·exact .inr h
end L2
set_option autoImplicit false
set_option linter.all false
set_option Elab.async false
set_option maxRecDepth 100000
set_option maxHeartbeats 4000000
section
namespace DI
open PySem (Str Expr Stmt Scope NameKind)
inductive Fl where | ow | fz | al | sc
 deriving DecidableEq
inductive D where
 | bh | bl (b:Bool) | int (i:Int)
 | tup (ds:List D)
 | lst (f:Fl) (ds:List D)
 | bY (f:Fl) (ks:List (List Int)) (vs:List D)
mutual
noncomputable def aq(g:Fl->Fl):D->D
 | .tup ds=>.tup (ag g ds)
 | .lst f ds=>.lst (g f) (ag g ds)
 | .bY f ks vs=>.bY (g f) ks (ag g vs)
 | .bh=>.bh
 | .bl b=>.bl b
 | .int i=>.int i
noncomputable def ag(g:Fl->Fl):List D->List D
 | []=>[]
 | d::ds=>aq g d::ag g ds
end
theorem aB(g:Fl->Fl):∀ ds:List D,ag g ds=ds.map (aq g)
 | []=>rfl
 | d::ds=>by rw[ag,aB g ds];rfl
noncomputable def aR:Fl->Fl | .ow=>.al | f=>f
noncomputable def mP:Fl->Fl | .fz=>.al | f=>f
noncomputable def aC:Fl->Fl | .sc=>.sc | _=>.fz
noncomputable def Il:Fl->Bool | .sc=>true | _=>false
mutual
noncomputable def aI(p:Fl->Bool):D->Bool
 | .tup ds=>av p ds
 | .lst f ds=>p f||av p ds
 | .bY f ks vs=>p f||av p vs
 | _=>false
noncomputable def av(p:Fl->Bool):List D->Bool
 | []=>false
 | d::ds=>aI p d||av p ds
end
noncomputable def bE:Fl->Bool | .al=>true | _=>false
noncomputable def cL:Fl->Bool | .ow=>true | _=>false
noncomputable def anyF:Fl->Bool:=λ_=>true
mutual
noncomputable def jH:D->D->Bool
 | .bh,.bh=>true
 | .bl a,.bl b=>a==b
 | .bl a,.int b=>(if a then 1 else 0)==b
 | .int a,.bl b=>a==(if b then 1 else 0)
 | .int a,.int b=>a==b
 | .tup a,.tup b=>cC a b
 | .lst _ a,.lst _ b=>cC a b
 | _,_=>false
noncomputable def cC:List D->List D->Bool
 | [],[]=>true
 | a::as,b::bs=>jH a b&&cC as bs
 | _,_=>false
end
noncomputable def cQ:Nat->D->Bool
 | _,.bh=>true
 | _,.bl _=>true
 | _,.int _=>true
 | n+1,.tup ds=>ds.all (cQ n)
 | n+1,.lst _ ds=>ds.all (cQ n)
 | _,_=>false
noncomputable abbrev O(α:Type):=Option (Except Nat α)
noncomputable def ok{α:Type}(a:α):O α:=some (.ok a)
noncomputable def bd{α β:Type}(x:O α)(f:α->O β):O β:=match x with
 | some (.ok a)=>f a
 | some (.error c)=>some (.error c)
 | none=>none
@[simp] theorem Uj{α:Type}{a:α}:((none:O α)=ok a)=False:=by simp[ok]
@[simp] theorem V0{α:Type}{a b:α}:(ok a=ok b)=(a=b):=by simp[ok]
@[simp] theorem XT{α:Type}{a:α}{c:Nat}:((some (.error c):O α)=ok a)=False:=by simp[ok]
@[simp] theorem J8{α:Type}{p:Prop}[Decidable p]{a b:α}:((if p then ok a else none)=ok b)=(p/\a=b):=by
 by_cases h:p<;>simp[h]
@[simp] theorem Wt{α:Type}{p:Prop}[Decidable p]{a b:α}:((if p then none else ok a)=ok b)=(¬ p/\a=b):=by
 by_cases h:p<;>simp[h]
theorem nk{α:Type}{a:α}{P:Prop}(h:(none:Option α)=some a):P:=nomatch h
theorem af{α β:Type}{x:O α}{f:α->O β}{b:β}(h:bd x f=ok b):∃ a,x=ok a/\f a=ok b:=by
 unfold bd at h
 match x,h with
 | some (.ok a),h=>exact⟨a,rfl,h⟩
 | some (.error c),h=>cases h
 | none,h=>cases h
inductive JD where | add | sub | mul | fdiv | mod | pow | shr | band
 deriving DecidableEq
inductive CV where | eq | ne | lt | le | gt | ge | CM
 deriving DecidableEq
inductive Ty where | int | bool | list | tuple
 deriving DecidableEq
inductive Bf where | len | abs | xr | list1 | tuple1 | fQ | all1 | iQ
 deriving DecidableEq
inductive Tg where | nm(i:Nat) | tp(is:List Nat)
 deriving DecidableEq
inductive IK where | k9 | seq | cw(p:Nat)
 deriving DecidableEq
inductive GK where | i(z:Int) | t(zs:List Int)
 deriving DecidableEq
inductive CE where
 | bh | bl (b:Bool) | int (i:Int) | glo (x:Str) (i:Int) | glt (x:Str) (zs:List Int)
 | v (i:Nat)
 | bin (op:JD) (a b:CE)
 | neg (a:CE) | not (a:CE) | and (es:List CE) | or (es:List CE) | ite (c a b:CE)
 | cmp (op:CV) (a b:CE)
 | pd (a:CE) (t:Ty)
 | call (f:Nat) (es:List CE)
 | bf (f:Bf) (es:List CE)
 | ix (a b:CE)
 | mF (a:CE)
 | tup (es:List CE) | lst (es:List CE)
 | cw (p:Nat) (es:List CE)
 | comp (n:Nat) (t:Tg) (caps:List Nat) (ik:IK) (es ba:List CE) (elt:CE)
inductive CI where | k9(a:CE) | seq(a:CE) | LG(p:Nat)(es:List CE)
inductive CS where
 | asg (t:Tg) (e:CE) | par (i j:Nat) (a b:CE) | ret (e:CE) | rs (c:Nat) | ex (e:CE)
 | mut (p i:Nat) (es:List CE) | lsn (i:Nat) (es:List CE) | app (i:Nat) (e:CE)
 | ifs (c:CE) (a b:List CS)
 | KI (c:CE) (b:List CS)
 | fr (t:Tg) (it:CI) (b:List CS)
noncomputable abbrev aD:=List (Option D)
noncomputable abbrev au:=Nat->List D->O D
noncomputable def big:Nat:=2 ^ 9000
def gw(i j:Int):Bool:=decide (i.natAbs<2 ^ 64)||decide (j.natAbs<2 ^ 64)||(decide (i.natAbs<big)&&decide (j.natAbs<big))
def uu(j:Int):Bool:=decide (j≠0)&&decide (j.natAbs<big)
noncomputable def Ah(i j:Int):Bool:=decide (0<=j)&&decide (j<=1000000)&&decide (i.natAbs<2 ^ 64)
noncomputable def iL:Nat:=1000000
theorem wq{α:Type}{c:Prop}[inst:Decidable c]{v d:α}(h:(if c then ok v else none)=ok d):c/\v=d:=by
 cases inst with
 | isTrue hc=>exact⟨hc,Except.ok.inj (aaA h)⟩
 | isFalse hc=>cases h
def cq:JD->D->D->O D
 | .add,.int i,.int j=>ok (.int (i+j))
 | .sub,.int i,.int j=>ok (.int (i - j))
 | .mul,.int i,.int j=>if gw i j then ok (.int (i*j))else none
 | .fdiv,.int i,.int j=>if uu j then ok (.int (i.fdiv j))else none
 | .mod,.int i,.int j=>if j≠0 then ok (.int (i.fmod j))else none
 | .pow,.int i,.int j=>if Ah i j then ok (.int (i ^ j.toNat))else none
 | .shr,.int i,.int j=>if 0<=j then ok (.int (i / 2 ^ j.toNat))else none
 | .band,.int i,.int j=>if j=1 then ok (.int (i % 2))else none
 | _,_,_=>none
def inD(x:D):List D->Bool
 | []=>false
 | y::ys=>jH y x||inD x ys
noncomputable def jF:D->Bool
 | .bh=>true | .bl _=>true | .int _=>true | _=>false
noncomputable def Mu:D->Option (List D)
 | .tup ds=>some ds
 | .lst _ ds=>some ds
 | _=>none
def dG:CV->D->D->O D
 | .eq,a,b=>if cQ 40 a&&cQ 40 b then ok (.bl (jH a b))else none
 | .ne,a,b=>if cQ 40 a&&cQ 40 b then ok (.bl (!jH a b))else none
 | .lt,.int i,.int j=>ok (.bl (decide (i<j)))
 | .le,.int i,.int j=>ok (.bl (decide (i<=j)))
 | .gt,.int i,.int j=>ok (.bl (decide (j<i)))
 | .ge,.int i,.int j=>ok (.bl (decide (j<=i)))
 | .CM,a,b=>match Mu b with
  | some ds=>if jF a&&ds.all jF then ok (.bl (inD a ds))else none
  | none=>none
 | _,_,_=>none
noncomputable def cU:Ty->D->Bool
 | .int,.int _=>true | .int,.bl _=>true
 | .bool,.bl _=>true
 | .list,.lst _ _=>true
 | .tuple,.tup _=>true
 | _,_=>false
noncomputable def B0(n:Nat)(i:Int):Option Nat:=if 0<=i then(if i<n then some i.toNat else none)else if -(n:Int)<=i then some (i+n).toNat else none
def yn(ds:List D)(i:Int):O D:=match(B0 ds.length i).bind λj=>ds[j]? with
 | some d=>ok (aq aR d)
 | none=>none
def vm:D->D->O D
 | .tup ds,.int i=>yn ds i
 | .lst _ ds,.int i=>yn ds i
 | _,_=>none
noncomputable def intsOf:List D->Option (List Int)
 | []=>some []
 | .int i::ds=>(intsOf ds).map (i :: ·)
 | _::_=>none
noncomputable def j9:List D->Option (List Bool)
 | []=>some []
 | .bl i::ds=>(j9 ds).map (i :: ·)
 | _::_=>none
theorem dR:∀ {ds:List D} {ns:List Int},intsOf ds=some ns->ds=ns.map D.int
 | [],ns,h=>by simp[intsOf]at h;subst h;rfl
 | d::ds,ns,h=>by
  cases d<;>simp[intsOf]at h;obtain⟨ms,h1,rfl⟩:=h;rw[dR h1];rfl
theorem ya:∀ {ds:List D} {bs:List Bool},j9 ds=some bs->ds=bs.map D.bl
 | [],bs,h=>by simp[j9]at h;subst h;rfl
 | d::ds,bs,h=>by
  cases d<;>simp[j9]at h;obtain⟨ms,h1,rfl⟩:=h;rw[ya h1];rfl
theorem aV:∀ ns:List Int,intsOf (ns.map D.int)=some ns
 | []=>rfl
 | n::ns=>by simp[intsOf,aV ns]
theorem oi:∀ bs:List Bool,j9 (bs.map D.bl)=some bs
 | []=>rfl
 | b::bs=>by simp[j9,oi bs]
noncomputable def sortI(ns:List Int):List Int:=ns.mergeSort (λa b=>decide (a<=b))
def tR(ds:List D):O D:=match intsOf ds with
 | some ns=>if ns.length<64 then ok (.lst .ow ((sortI ns).map D.int))else none
 | none=>none
def oZ:Bf->List D->O D
 | .len,xs=>match xs with
  | [.tup ds]=>ok (.int ds.length)
  | [.lst _ ds]=>ok (.int ds.length)
  | _=>none
 | .abs,xs=>match xs with
  | [.int i]=>ok (.int (if i<0 then -i else i))
  | _=>none
 | .xr,xs=>match xs with
  | [.int i]=>ok (.int i)
  | [.bl b]=>ok (.int (if b then 1 else 0))
  | _=>none
 | .list1,xs=>match xs with
  | [.lst _ ds]=>ok (.lst .ow (ag aR ds))
  | [.tup ds]=>ok (.lst .ow (ag aR ds))
  | _=>none
 | .tuple1,xs=>match xs with
  | [.lst _ ds]=>ok (.tup (ag aR ds))
  | [.tup ds]=>ok (.tup (ag aR ds))
  | _=>none
 | .fQ,xs=>match xs with
  | [.lst _ ds]=>(match intsOf ds with
   | some ns=>ok (.int ns.sum)
   | none=>none)
  | _=>none
 | .all1,xs=>match xs with
  | [.lst _ ds]=>(match j9 ds with
   | some bs=>ok (.bl (bs.all id))
   | none=>none)
  | _=>none
 | .iQ,xs=>match xs with
  | [.lst _ ds]=>tR ds
  | [.tup ds]=>tR ds
  | _=>none
noncomputable def vG(ns:List Int):List Int:=ns.foldl (λ(m:List Int) (k:Int)=>if m.any (· == k)then m else m++[k]) []
def Az:D->O D
 | .tup ds=>(match intsOf ds with
  | some ns=>if ns.length<4000 then ok (.int (vG ns).length)else none
  | none=>none)
 | _=>none
noncomputable def iO:D->O Bool
 | .bl b=>ok b
 | _=>none
noncomputable def intD:D->O Int
 | .int i=>ok i
 | _=>none
noncomputable def uZ:Option (Option D)->Option (List D)
 | some (some (.lst .ow ds))=>some ds
 | _=>none
theorem uY{o:Option (Option D)}{ds:List D}(h:uZ o=some ds):o=some (some (.lst .ow ds)):=by
 unfold uZ at h;split at h<;>cases h;rfl
theorem Uq{d:D}{i:Int}(h:intD d=ok i):d=.int i:=by
 cases d<;>simp[intD]at h;rw[h]
noncomputable def HX:D->O D
 | .int i=>ok (.int (-i))
 | _=>none
def jy:List Nat->List D->aD->O aD
 | [],[],ρ=>ok ρ
 | i::is,d::ds,ρ=>if i<ρ.length then jy is ds (ρ.set i (some d))else none
 | _,_,_=>none
def bT:Tg->D->aD->O aD
 | .nm i,d,ρ=>if i<ρ.length then ok (ρ.set i (some d))else none
 | .tp is,.tup ds,ρ=>if av cL ds then none else jy is ds ρ
 | _,_,_=>none
def nF:D->O (List D)
 | .lst _ ds=>ok (ag aC ds)
 | _=>none
def cS(Φ:au):IK->List D->O (List D)
 | .cw p,xs=>bd (Φ p xs) nF
 | .k9,[.int n]=>if n<=iL /\ -iL<=n then ok ((List.range n.toNat).map λ(k:Nat)=>D.int (k:Int))else none
 | .seq,[.tup ds]=>ok (ag aC ds)
 | .seq,[.lst _ ds]=>ok (ag aC ds)
 | _,_=>none
def iF(bind:D->O aD)(test:aD->O Bool)(el:aD->O D):List D->O (List D)
 | []=>ok []
 | x::xs=>bd (bind x) λρ=>bd (test ρ) λb=>if b then bd (el ρ) λy=>bd (iF bind test el xs) λys=>ok (y::ys)else iF bind test el xs
def aM(n:Nat)(caps:List Nat)(ρ:aD):aD:=List.replicate n none++caps.map λi=>(ρ[i]?.getD none).map (aq aC)
def zU(o:Option (Option D)):O D:=match o with
 | some (some d)=>ok (aq aR d)
 | _=>none
theorem Dx{o:Option (Option D)}{d:D}(h:zU o=ok d):∃ d',o=some (some d')/\d=aq aR d':=by
 cases o with
 | none=>cases h
 | some z=>cases z with
  | none=>cases h
  | some z=>cases h;exact⟨z,rfl,rfl⟩
mutual
noncomputable def aK(Φ:au):CE->aD->O D
 | .bh,_=>ok .bh
 | .bl b,_=>ok (.bl b)
 | .int i,_=>ok (.int i)
 | .glo _ i,_=>ok (.int i)
 | .glt _ zs,_=>ok (.tup (zs.map D.int))
 | .v i,ρ=>zU ρ[i]?
 | .bin op a b,ρ=>bd (aK Φ a ρ) λx=>bd (aK Φ b ρ) λy=>cq op x y
 | .neg a,ρ=>bd (aK Φ a ρ) HX
 | .not a,ρ=>bd (bd (aK Φ a ρ) iO) λb=>ok (.bl (!b))
 | .and es,ρ=>uo Φ es ρ
 | .or es,ρ=>Cg Φ es ρ
 | .ite c a b,ρ=>bd (bd (aK Φ c ρ) iO) λk=>if k then aK Φ a ρ else aK Φ b ρ
 | .cmp op a b,ρ=>bd (aK Φ a ρ) λx=>bd (aK Φ b ρ) λy=>dG op x y
 | .pd a t,ρ=>bd (aK Φ a ρ) λx=>ok (.bl (cU t x))
 | .call f es,ρ=>bd (bL Φ es ρ) λxs=>bd (Φ f (ag aC xs)) λr=>ok (aq mP r)
 | .bf f es,ρ=>bd (bL Φ es ρ) λxs=>oZ f xs
 | .ix a b,ρ=>bd (aK Φ a ρ) λx=>bd (aK Φ b ρ) λy=>vm x y
 | .mF a,ρ=>bd (aK Φ a ρ) λx=>Az x
 | .cw p es,ρ=>bd (bL Φ es ρ) λxs=>Φ p xs
 | .tup es,ρ=>bd (bL Φ es ρ) λxs=>ok (.tup xs)
 | .lst es,ρ=>bd (bL Φ es ρ) λxs=>ok (.lst .ow xs)
 | .comp n t caps ik es ba elt,ρ=>bd (bL Φ es ρ) λxs=>bd (cS Φ ik xs) λitems =>
   bd (iF (λd=>bT t d (aM n caps ρ)) (λρ'=>jG Φ ba ρ') (λρ'=>aK Φ elt ρ') items) λds=>if ds.length<=iL then ok (.lst .ow (ag mP ds))else none
noncomputable def bL(Φ:au):List CE->aD->O (List D)
 | [],_=>ok []
 | e::es,ρ=>bd (aK Φ e ρ) λx=>bd (bL Φ es ρ) λxs=>ok (x::xs)
noncomputable def jG(Φ:au):List CE->aD->O Bool
 | [],_=>ok true
 | e::es,ρ=>bd (bd (aK Φ e ρ) iO) λb=>if b then jG Φ es ρ else ok false
noncomputable def uo(Φ:au):List CE->aD->O D
 | [],_=>none
 | e::es,ρ=>bd (bd (aK Φ e ρ) iO) λc=>match es with
  | []=>ok (.bl c)
  | _::_=>if c then uo Φ es ρ else ok (.bl false)
noncomputable def Cg(Φ:au):List CE->aD->O D
 | [],_=>none
 | e::es,ρ=>bd (bd (aK Φ e ρ) iO) λc=>match es with
  | []=>ok (.bl c)
  | _::_=>if c then ok (.bl true)else Cg Φ es ρ
end
def sG(Φ:au)(e:CE)(ρ:aD):O Bool:=bd (aK Φ e ρ) iO
inductive Fo where | nx | rt(d:D) | bk | ct
noncomputable def cB{α β:Type}(n:Nat)(step:α->O (α ⊕ β))(a:α):O β:=match n with
 | 0=>none
 | n+1=>bd (step a) λr=>match r with
  | .inl a'=>cB n step a'
  | .inr b=>ok b
open Classical in
noncomputable def fO{α β:Type}(step:α->O (α ⊕ β))(a:α):O β :=
 if h:∃ n,cB n step a≠none then cB (Classical.choose h) step a else none
theorem jY{α β:Type}(step:α->O (α ⊕ β)):∀(n m:Nat) (a:α),n<=m->cB n step a≠none->cB m step a=cB n step a
 | 0,_,_,_,h=>absurd rfl h
 | n+1,0,_,hl,_=>by left
 | n+1,m+1,a,hl,h=>by
  unfold cB at h ⊢
  match hs:step a with
  | none=>rw[hs]at h;exact absurd rfl h
  | some (.error c)=>rfl
  | some (.ok (.inr b))=>rfl
  | some (.ok (.inl a')) =>
   rw[hs]at h;exact jY step n m a' (by left) h
theorem nu{α β:Type}{step:α->O (α ⊕ β)}{a:α}{n:Nat}{r:Except Nat β}(h:cB n step a=some r):fO step a=some r:=by
 have hx:∃ n,cB n step a≠none:=⟨n,by rw[h];simp⟩
 unfold fO;rw[dif_pos hx];have hc:=Classical.choose_spec hx;rcases Nat.le_total n (Classical.choose hx)with hl | hl
 ·rw[jY step _ _ a hl (by rw[h];simp),h]
 ·rw[<- jY step _ _ a hl hc,h]
theorem nJ{α β:Type}{step:α->O (α ⊕ β)}{a:α}{r:Except Nat β}(h:fO step a=some r):∃ n,cB n step a=some r:=by
 unfold fO at h;split at h
 ·exact⟨_,h⟩
 ·cases h
theorem qk{α β:Type}{step:α->O (α ⊕ β)}{a a':α}(h:step a=ok (.inl a')):fO step a=fO step a':=by
 match hr:fO step a' with
 | some r =>
  obtain⟨n,hn⟩:=nJ hr;refine nu (n:=n+1) ?_;unfold cB;rw[h];exact hn
 | none =>
  match hq:fO step a with
  | none=>rfl
  | some r =>
   obtain⟨n,hn⟩:=nJ hq
   match n,hn with
   | n+1,hn =>
    unfold cB at hn;rw[h]at hn;rw[nu (n:=n) hn]at hr;cases hr
theorem iM{α β:Type}{step:α->O (α ⊕ β)}{a:α}{b:β}(h:step a=ok (.inr b)):fO step a=ok b :=
 nu (n:=1) (by unfold cB;rw[h];rfl)
mutual
noncomputable def iB:CE->List Nat
 | .v i=>[i]
 | .bin _ a b=>iB a++iB b
 | .neg a=>iB a
 | .not a=>iB a
 | .and es=>ck es
 | .or es=>ck es
 | .ite c a b=>iB c++(iB a++iB b)
 | .cmp _ a b=>iB a++iB b
 | .pd a _=>iB a
 | .call _ es=>ck es
 | .bf _ es=>ck es
 | .ix a b=>iB a++iB b
 | .mF a=>iB a
 | .tup es=>ck es
 | .lst es=>ck es
 | .cw _ es=>ck es
 | .comp _ _ caps _ es _ _=>caps++ck es
 | _=>[]
noncomputable def ck:List CE->List Nat
 | []=>[]
 | e::es=>iB e++ck es
end
def iC(is:List Nat)(ρ:aD):aD:=ρ.mapIdx λi d=>if i∈is then d.map (aq aC)else d
def keep(e:CE)(d:D)(ρ:aD):D×aD:=if aI bE d then(aq aC d,iC (iB e) ρ)else(d,ρ)
def lb(Φ:au)(e:CE)(ρ:aD):O (D×aD):=match e with
 | .v i=>match ρ[i]? with
  | some (some d)=>if aI cL d then ok (d,ρ.set i none)else ok (d,ρ)
  | _=>none
 | _=>bd (aK Φ e ρ) λd=>ok (keep e d ρ)
def cA(Φ:au)(it:CI)(ρ:aD):O (List D×aD):=match it with
 | .LG p es=>bd (bL Φ es ρ) λxs=>bd (Φ p xs) λd=>bd (nF d) λitems=>ok (items,if av bE xs then iC (ck es) ρ else ρ)
 | .k9 a=>bd (aK Φ a ρ) λx=>match x with
  | .int n=>if n<=iL /\ -iL<=n then ok ((List.range n.toNat).map λ(k:Nat)=>D.int (k:Int),ρ)else none
  | _=>none
 | .seq a=>bd (aK Φ a ρ) λx=>match x with
  | .tup ds=>ok (ag aC ds,if aI bE x then iC (iB a) ρ else ρ)
  | .lst f ds=>ok (ag aC ds,if aI bE x then iC (iB a) ρ else ρ)
  | _=>none
def qV(es:List CE)(xs:List D)(ρ:aD):List D×aD:=if av bE xs then(ag aC xs,iC (ck es) ρ)else(xs,ρ)
noncomputable def yP(Φ:au)(p i:Nat)(r:List D×aD):O (Fo×aD):=match r.2[i]? with
 | some (some d)=>bd (Φ p (d::r.1)) λd'=>ok (.nx,r.2.set i (some d'))
 | _=>none
def dO(bind:D->aD->O aD)(body:aD->O (Fo×aD)):List D->aD->O (Fo×aD)
 | [],ρ=>ok (.nx,ρ)
 | d::ds,ρ=>bd (bind d ρ) λρ1=>bd (body ρ1) λr=>match r with
  | (.nx,ρ2)=>dO bind body ds ρ2
  | (.ct,ρ2)=>dO bind body ds ρ2
  | (.bk,ρ2)=>ok (.nx,ρ2)
  | (.rt d,ρ2)=>ok (.rt d,ρ2)
mutual
noncomputable def rF(Φ:au):CS->aD->O (Fo×aD)
 | .asg t e,ρ=>bd (lb Φ e ρ) λr=>bd (bT t r.1 r.2) λρ'=>ok (.nx,ρ')
 | .par i j a b,ρ=>bd (aK Φ a ρ) λx=>bd (aK Φ b ρ) λy=>if aI anyF x=false/\aI anyF y=false/\i<ρ.length/\j<ρ.length then ok (.nx,(ρ.set i (some x)).set j (some y))else none
 | .ret e,ρ=>bd (lb Φ e ρ) λr=>ok (.rt r.1,r.2)
 | .rs c,_=>some (.error c)
 | .ex e,ρ=>bd (aK Φ e ρ) λ_=>ok (.nx,ρ)
 | .mut p i es,ρ=>bd (bL Φ es ρ) λxs=>yP Φ p i (qV es xs ρ)
 | .lsn i es,ρ=>bd (bL Φ es ρ) λxs=>if i<ρ.length then ok (.nx,(iC (ck es) ρ).set i (some (.lst .ow (ag aC xs))))else none
 | .app i e,ρ=>bd (lb Φ e ρ) λr=>match uZ r.2[i]? with
  | some ds=>if ds.length<iL then ok (.nx,r.2.set i (some (.lst .ow (ds++[r.1]))))else none
  | none=>none
 | .ifs c a b,ρ=>bd (sG Φ c ρ) λk=>if k then aT Φ a ρ else aT Φ b ρ
 | .KI c b,ρ=>fO (λρ=>bd (sG Φ c ρ) λk=>if k then bd (aT Φ b ρ) λr=>match r with
   | (.nx,ρ')=>ok (.inl ρ')
   | (.ct,ρ')=>ok (.inl ρ')
   | (.bk,ρ')=>ok (.inr (.nx,ρ'))
   | (.rt d,ρ')=>ok (.inr (.rt d,ρ'))
  else ok (.inr (.nx,ρ))) ρ
 | .fr t it b,ρ=>bd (cA Φ it ρ) λr=>dO (λd ρ=>bT t d ρ) (λρ=>aT Φ b ρ) r.1 r.2
noncomputable def aT(Φ:au):List CS->aD->O (Fo×aD)
 | [],ρ=>ok (.nx,ρ)
 | s::ss,ρ=>bd (rF Φ s ρ) λr=>match r with
  | (.nx,ρ')=>aT Φ ss ρ'
  | r=>ok r
end
noncomputable def BL(Φ:au)(n:Nat)(b:List CS)(ds:List D):O D:=bd (aT Φ b (ds.map some++List.replicate (n - ds.length) none)) λr=>match r.1 with
 | .nx=>ok .bh
 | .rt d=>ok d
 | _=>none
noncomputable def sL:List D->O D
 | [.lst _ a,.lst _ b]=>ok (.lst .ow (List.zipWith (λx y=>.tup [x,y]) a b))
 | _=>none
end DI
end
section
namespace DI
open PySem PySem.Spec PyProof.Rows L2
noncomputable abbrev aL:=List Nat
noncomputable abbrev St:=L2.St
noncomputable abbrev pH:=Addr->List V->Prop
inductive Nd where | l(xs:List V) | d(cs:List (List Int))(as:List Addr)(xs:List V)(ep:Nat)
abbrev ir:=aL->Addr->Nd->Fl->Prop
structure eK(T:pH)(as:List Addr)(cs:List (List Int)):Prop where
 len:as.length=cs.length
 tup:∀(j:Nat) (a:Addr) (c:List Int),as[j]?=some a->cs[j]?=some c->T a (c.map V.int)
variable {T T':pH}
theorem eK.imp{as:List Addr}{cs:List (List Int)}(h:eK T as cs)(hT:∀ p xs,T p xs->T' p xs):eK T' as cs:=⟨h.len,λj a c h1 h2=>hT _ _ (h.tup j a c h1 h2)⟩
mutual
inductive Rep(T:pH)(N:ir):aL->V->D->Prop where
 | bh {q:aL}:Rep T N q .bh .bh
 | bl {q:aL} (b:Bool):Rep T N q (.bl b) (.bl b)
 | int {q:aL} (i:Int):Rep T N q (.int i) (.int i)
 | tup {q:aL} {p:Addr} {xs:List V} {ds:List D} (h:T p xs) (r:ah T N q 0 xs ds):Rep T N q (.ref p) (.tup ds)
 | lst {q:aL} {p:Addr} {xs:List V} {f:Fl} {ds:List D} (h:N q p (.l xs) f) (r:ah T N q 0 xs ds):Rep T N q (.ref p) (.lst f ds)
 | bY {q:aL} {p:Addr} {cs:List (List Int)} {as:List Addr} {xs:List V} {ep:Nat} {f:Fl} {ds:List D} (h:N q p (.d cs as xs ep) f) (k:eK T as cs) (r:ah T N q 0 xs ds):Rep T N q (.ref p) (.bY f cs ds)
inductive ah(T:pH)(N:ir):aL->Nat->List V->List D->Prop where
 | nil {q:aL} {n:Nat}:ah T N q n [] []
 | cons {q:aL} {n:Nat} {v:V} {d:D} {vs:List V} {ds:List D} (h:Rep T N (n::q) v d) (t:ah T N q (n+1) vs ds):ah T N q n (v::vs) (d::ds)
end
variable {ds ds' items:List D}
theorem Rep.C2{N:ir}{q:aL}{v:V}(h:Rep T N q v (.tup ds)):∃ p xs,v=.ref p/\T p xs/\ah T N q 0 xs ds:=by
 cases h with
 | tup a b=>exact⟨_,_,rfl,a,b⟩
theorem Rep.uG{N:ir}{q:aL}{v:V}{f:Fl}(h:Rep T N q v (.lst f ds)):∃ p xs,v=.ref p/\N q p (.l xs) f/\ah T N q 0 xs ds:=by
 cases h with
 | lst a b=>exact⟨_,_,rfl,a,b⟩
mutual
theorem vt:∀ d:D,aI (λ_=>false) d=false
 | .bh=>rfl
 | .bl _=>rfl
 | .int _=>rfl
 | .tup ds=>iA ds
 | .lst _ ds=>iA ds
 | .bY _ _ ds=>iA ds
theorem iA:∀ ds:List D,av (λ_=>false) ds=false
 | []=>rfl
 | d::ds=>by show(aI _ d||av _ ds)=false;rw[vt d,iA ds];rfl
end
theorem JY{a b:Bool}(h:(a||b)=false):a=false/\b=false:=by cases a<;>cases b<;>first | exact⟨rfl,rfl⟩ | cases h
variable {k' q':aL}{vs xs ys:List V}
section
variable {T T':pH}{N N':ir}{g:Fl->Fl}{P:Fl->Bool}{C:aL->aL->Prop}{I:Nat->Nat->Prop}
mutual
theorem Rep.gen(hT:∀ p xs,T p xs->T' p xs)(h0:I 0 0)(hI:∀ n n',I n n'->I (n+1) (n'+1))(hC:∀ k k' n n',C k k'->I n n'->C (n::k) (n'::k'))(hN:∀ k k' p xs f,C k k'->P f=false->N k p xs f->N' k' p xs (g f)):
  ∀ {k:aL} {v:V} {d:D},Rep T N k v d->∀ {k':aL},C k k'->aI P d=false->Rep T' N' k' v (aq g d)
 | _,_,_,.bh,_,_,_=>.bh
 | _,_,_,.bl b,_,_,_=>.bl b
 | _,_,_,.int i,_,_,_=>.int i
 | _,_,_,.tup h r,_,c,e=>.tup (hT _ _ h) (ah.gen hT h0 hI hC hN r c h0 e)
 | _,_,_,.lst h r,_,c,e=>.lst (hN _ _ _ _ _ c (JY e).1 h) (ah.gen hT h0 hI hC hN r c h0 (JY e).2)
 | _,_,_,.bY h k r,_,c,e=>.bY (hN _ _ _ _ _ c (JY e).1 h) (k.imp hT) (ah.gen hT h0 hI hC hN r c h0 (JY e).2)
theorem ah.gen(hT:∀ p xs,T p xs->T' p xs)(h0:I 0 0)(hI:∀ n n',I n n'->I (n+1) (n'+1))(hC:∀ k k' n n',C k k'->I n n'->C (n::k) (n'::k'))(hN:∀ k k' p xs f,C k k'->P f=false->N k p xs f->N' k' p xs (g f)):
  ∀ {k:aL} {n:Nat} {vs:List V} {ds:List D},ah T N k n vs ds->∀ {k':aL} {n':Nat},C k k'->I n n'->av P ds=false->ah T' N' k' n' vs (ag g ds)
 | _,_,_,_,.nil,_,_,_,_,_=>.nil
 | _,_,_,_,.cons h t,_,_,c,i,e=>.cons (Rep.gen hT h0 hI hC hN h (hC _ _ _ _ c i) (JY e).1) (ah.gen hT h0 hI hC hN t c (hI _ _ i) (JY e).2)
end
theorem Rep.map{q:aL}(hT:∀ p xs,T p xs->T' p xs)(hN:∀ c p xs f,N (c++q) p xs f->N' (c++q') p xs (g f)){k:aL}{v:V}{d:D}(h:Rep T N k v d)(c:aL)(e:k=c++q):Rep T' N' (c++q') v (aq g d) :=
 Rep.gen (P:=λ_=>false) (C:=λk k'=>∃ c,k=c++q/\k'=c++q') (I:=λn n'=>n=n') hT rfl (λ_ _ e=>by rw[e]) (λ_ _ n _ ⟨c,e1,e2⟩ e=>⟨n::c,by rw[e1];rfl,by rw[e2,<- e];rfl⟩) (λ_ _ p xs f ⟨c,e1,e2⟩ _ h=>by subst e1;subst e2;exact hN c p xs f h) h ⟨c,e,rfl⟩ (vt d)
theorem ah.map{q:aL}(hT:∀ p xs,T p xs->T' p xs)(hN:∀ c p xs f,N (c++q) p xs f->N' (c++q') p xs (g f)){k:aL}{n:Nat}(h:ah T N k n vs ds)(c:aL)(e:k=c++q):ah T' N' (c++q') n vs (ag g ds) :=
 ah.gen (P:=λ_=>false) (C:=λk k'=>∃ c,k=c++q/\k'=c++q') (I:=λn n'=>n=n') hT rfl (λ_ _ e=>by rw[e]) (λ_ _ n _ ⟨c,e1,e2⟩ e=>⟨n::c,by rw[e1];rfl,by rw[e2,<- e];rfl⟩) (λ_ _ p xs f ⟨c,e1,e2⟩ _ h=>by subst e1;subst e2;exact hN c p xs f h) h ⟨c,e,rfl⟩ rfl (iA ds)
theorem Rep.jX(hT:∀ p xs,T p xs->T' p xs)(hN:∀ k k' p xs f,N k p xs f->N' k' p xs (g f)){k:aL}{v:V}{d:D}(h:Rep T N k v d)(k':aL):Rep T' N' k' v (aq g d) :=
 Rep.gen (P:=λ_=>false) (C:=λ_ _=>True) (I:=λ_ _=>True) hT trivial (λ_ _ e=>e) (λ_ _ _ _ e _=>e) (λk k' p xs f _ _ h=>hN k k' p xs f h) h trivial (vt d)
theorem ah.jX(hT:∀ p xs,T p xs->T' p xs)(hN:∀ k k' p xs f,N k p xs f->N' k' p xs (g f)){k:aL}{n:Nat}(h:ah T N k n vs ds)(k':aL)(n':Nat):ah T' N' k' n' vs (ag g ds) :=
 ah.gen (P:=λ_=>false) (C:=λ_ _=>True) (I:=λ_ _=>True) hT trivial (λ_ _ e=>e) (λ_ _ _ _ e _=>e) (λk k' p xs f _ _ h=>hN k k' p xs f h) h trivial trivial (iA ds)
end
mutual
theorem fB:∀ d:D,aq id d=d
 | .bh=>rfl
 | .bl _=>rfl
 | .int _=>rfl
 | .tup ds=>by rw[aq,cX ds]
 | .lst f ds=>by rw[aq,cX ds];rfl
 | .bY f ks vs=>by rw[aq,cX vs];rfl
theorem cX:∀ ds:List D,ag id ds=ds
 | []=>rfl
 | d::ds=>by rw[ag,fB d,cX ds]
end
section
variable {T T':pH}{N N':ir}
theorem Rep.imp{q:aL}(hT:∀ p xs,T p xs->T' p xs)(hN:∀ c p xs f,N (c++q) p xs f->N' (c++q') p xs f){v:V}{d:D}(h:Rep T N q v d):Rep T' N' q' v d:=by
 have:=Rep.map (g:=id) hT hN h [] rfl;rw[fB]at this;exact this
theorem ah.imp{q:aL}{n:Nat}(hT:∀ p xs,T p xs->T' p xs)(hN:∀ c p xs f,N (c++q) p xs f->N' (c++q') p xs f)(h:ah T N q n vs ds):ah T' N' q' n vs ds:=by
 have:=ah.map (g:=id) hT hN h [] rfl;rw[cX]at this;exact this
theorem ah.length:∀ {k:aL} {n:Nat} {vs:List V} {ds:List D},ah T N k n vs ds->vs.length=ds.length
 | _,_,_,_,.nil=>rfl
 | _,_,_,_,.cons _ t=>by simp[ah.length t]
theorem ah.get:∀ {k:aL} {n j:Nat} {vs:List V} {ds:List D} {d:D},ah T N k n vs ds->ds[j]?=some d->∃ v,vs[j]?=some v/\Rep T N ((n+j)::k) v d
 | _,_,_,_,_,_,.nil,e=>by simp at e
 | _,_,0,_,_,_,.cons h t,e=>by simp at e;subst e;exact⟨_,rfl,h⟩
 | _,n,j+1,_,_,_,.cons h t,e=>by
  obtain⟨v,h1,h2⟩:=ah.get (j:=j) t (by simpa using e);refine⟨v,by simpa using h1,?_⟩;have:n+1+j=n+(j+1):=by left
  rw[<- this];exact h2
theorem ah.zh:∀ {k:aL} {n j:Nat} {vs:List V} {ds:List D} {v:V},ah T N k n vs ds->vs[j]?=some v->∃ d,ds[j]?=some d/\Rep T N ((n+j)::k) v d
 | _,_,_,_,_,_,.nil,e=>by simp at e
 | _,_,0,_,_,_,.cons h t,e=>by simp at e;subst e;exact⟨_,rfl,h⟩
 | _,n,j+1,_,_,_,.cons h t,e=>by
  obtain⟨v,h1,h2⟩:=ah.zh (j:=j) t (by simpa using e);refine⟨v,by simpa using h1,?_⟩;have:n+1+j=n+(j+1):=by left
  rw[<- this];exact h2
end
def KL(K:PySem.W.Frag)(a:Addr)(xs:List V):Prop :=
 ∃(o:Obj) (ao:Array Value) (n:Nat),K.lookup a=some o/\o.cls=.type "list" /\ o.dict=none/\o.data=.seq ao n/\ao.size<=sizeLine/\Vals xs ao.toList
def DO(p:Addr)(cs:List (List Int))(as:List Addr)(xs:List V)(ep:Nat)(h:Heap):Prop :=
 ∃(zs:List (List Int×Addr×Value)) (o:Obj) (es:Array DictEntry),zs.map (·.1)=cs/\zs.map (·.2.1)=as/\Vals xs (zs.map (·.2.2))/\h.get? p=some o/\o.ExactDict/\o.data=.dict es ep /\
  es.toList=zs.map (λz=>⟨reduceHash (Builtin.Tuple.tupleHashOf (z.1.map hashInt)),.ref z.2.1,z.2.2⟩)/\cs.Nodup/\cs.length<=sizeLine/\(p==sysModules)=false
noncomputable abbrev dZ(H:Hp)(p:Addr)(n:Nd):Prop:=match n with
 | .l xs=>H p=some (.lst xs)
 | .d cs as xs ep=>H p=some (.ext (DO p cs as xs ep))
variable {H H' H1 H2:Hp}
theorem dZ.ne{p:Addr}{n:Nd}(h:dZ H p n):H p≠none:=by
 cases n with
 | l xs=>intro z;rw[show H p=some (.lst xs) from h]at z;cases z
 | d cs as xs ep=>intro z;rw[show H p=some (.ext (DO p cs as xs ep)) from h]at z;cases z
theorem dZ.at{p:Addr}{n:Nd}(e:∀ o,H p=some o->H' p=some o)(h:dZ H p n):dZ H' p n:=by
 cases n with
 | l xs=>exact e _ h
 | d cs as xs ep=>exact e _ h
theorem dZ.same{p:Addr}{n:Nd}(e:ak H H')(h:dZ H p n):dZ H' p n:=h.at (e p)
theorem dZ.some{H:Hp}{p:Addr}{n:Nd}(h:dZ H p n):∃ o,H p=some o/\(∀ xs,o≠.tup xs)/\(∀ a u,o≠.iC a u):=by
 cases n with
 | l xs=>exact⟨_,h,λ_ z=>(nomatch z),λ_ _ z=>(nomatch z)⟩
 | d cs as xs ep=>exact⟨_,h,λ_ z=>(nomatch z),λ_ _ z=>(nomatch z)⟩
def nd(K:PySem.W.Frag)(R A:Addr->Prop)(τ:Addr->Option aL)(H:Hp):ir:=λq p n f=>match f with
 | .ow=>dZ H p n/\τ p=some q
 | .fz=>dZ H p n/\R p
 | .al=>dZ H p n/\A p
 | .sc=>match n with
  | .l xs=>(∃ o,H p=some (.iC o (.lst xs)))\/KL K p xs
  | .d _ _ _ _=>False
variable {A F G R R' R1:Addr->Prop}{K:PySem.W.Frag}{τ τ':Addr->Option aL}
theorem nd.DD{q:aL}{p:Addr}{n:Nd}(h:nd K R A τ H q p n .sc):∃ xs,n=.l xs/\((∃ o,H p=some (.iC o (.lst xs)))\/KL K p xs):=by
 cases n with
 | l xs=>exact⟨xs,rfl,h⟩
 | d _ _ _ _=>exact h.elim
theorem nd.sq{q:aL}{p:Addr}{f:Fl}(h:nd K R A τ H q p (.l xs) f):cV K H p xs:=by
 cases f with
 | ow=>exact cV.of h.1
 | fz=>exact cV.of h.1
 | al=>exact cV.of h.1
 | sc=>exact h.elim (λh=>.inl (.inr h)) .inr
theorem nd.lst{K:PySem.W.Frag}{R A:Addr->Prop}{τ:Addr->Option aL}{H:Hp}{q:aL}{p:Addr}{xs:List V}{f:Fl}(h:nd K R A τ H q p (.l xs) f)(hf:Il f=false):H p=some (.lst xs):=by
 cases f with
 | ow=>exact h.1
 | fz=>exact h.1
 | al=>exact h.1
 | sc=>cases hf
variable {ep k1 k2 n1 t':Nat}
theorem nd.dat{q:aL}{p:Addr}{cs:List (List Int)}{as:List Addr}{f:Fl}(h:nd K R A τ H q p (.d cs as xs ep) f):H p=some (.ext (DO p cs as xs ep)):=by
 cases f with
 | ow=>exact h.1
 | fz=>exact h.1
 | al=>exact h.1
 | sc=>exact h.elim
theorem Rd.same{a:Addr}{u:HO}(e:ak H H')(h:Rd H a u):Rd H' a u:=h.elim (λh=>.inl (e _ _ h)) λ⟨o,h⟩=>.inr ⟨o,e _ _ h⟩
theorem aG.same{K:PySem.W.Frag}{H H':Hp}{a:Addr}{xs:List V}(e:ak H H')(h:aG K H a xs):aG K H' a xs:=h.elim (λh=>.inl (Rd.same e h)) .inr
theorem nd.same{K:PySem.W.Frag}{R A:Addr->Prop}{τ:Addr->Option aL}{H H':Hp}{q:aL}{p:Addr}{n:Nd}{f:Fl}(e:ak H H')(h:nd K R A τ H q p n f):nd K R A τ H' q p n f:=by
 cases f with
 | ow=>exact⟨h.1.same e,h.2⟩
 | fz=>exact⟨h.1.same e,h.2⟩
 | al=>exact⟨h.1.same e,h.2⟩
 | sc=>cases n with
  | l xs=>exact h.elim (λ⟨o,h⟩=>.inl ⟨o,e _ _ h⟩) .inr
  | d _ _ _ _=>exact h.elim
theorem Rd.there{a:Addr}{u:HO}(h:Rd H a u):H a≠none:=by
 rcases h with h | ⟨o,h⟩<;>(rw[h];simp)
theorem ak.ne(e:ak H H'){a:Addr}(h:H a≠none):H' a≠none:=by
 cases q:H a with
 | none=>exact absurd q h
 | some o=>rw[e a o q];simp
structure SI(X:Cx)(F R:Addr->Prop)(τ:Addr->Option aL)(ρ:aD)(σ:St)(H:Hp):Prop where
 len:ρ.length=σ.length
 rep:∀(i:Nat) (d:D),ρ[i]?=some (some d)->∃ v,σ[i]?=some (some v)/\Rep (aG X.K H) (nd X.K R (λ_=>False) τ H) [i] v d
 rt:∀ p,R p->τ p=none
 rh:∀ p,R p->H p≠none
 rf:∀ p,R p->F p\/X.H₀ p=none
 th:∀ p q,τ p=some q->H p≠none
 t0:∀ p q,τ p=some q->X.H₀ p=none
 same:ak X.H₀ H
variable {X:Cx}{ρ:aD}{σ:L2.St}
theorem SI.go(S:SI X F R τ ρ σ H)(e:ak H H'):SI X F R τ ρ σ H' :=
 ⟨S.len,λi d h=>let ⟨v,h1,h2⟩:=S.rep i d h;⟨v,h1,h2.imp (λ_ _ h=>aG.same e h) λ_ _ _ _ h=>nd.same e h⟩,S.rt,λp h=>ak.ne e (S.rh p h),S.rf,λp q h=>ak.ne e (S.th p q h),S.t0,S.same.trans e⟩
noncomputable def lM(G:Addr->Prop)(τ:Addr->Option aL)(fv:List Nat)(p:Addr):Prop:=G p/\∀ c i,τ p=some (c++[i])->i∈fv
variable {caps fv fv':List Nat}
theorem lM.mono{p:Addr}(h:lM G τ fv p)(hs:∀ i∈fv,i∈fv'):lM G τ fv' p:=⟨h.1,λc i e=>hs i (h.2 c i e)⟩
noncomputable def gP(X:Cx)(F:Addr->Prop)(p:Addr):Prop:=F p\/X.H₀ p=none
def bM(K:PySem.W.Frag)(G R:Addr->Prop)(τ:Addr->Option aL)(fv:List Nat)(H H':Hp)(v:V)(d:D):Prop :=
 ∃ τt:Addr->Option aL,(∀ p q,τt p=some q->H p=none)/\Rep (aG K H') (nd K R (lM G τ fv) τt H') [] v d
def bR(K:PySem.W.Frag)(G R:Addr->Prop)(τ:Addr->Option aL)(fv:List Nat)(H H':Hp)(vs:List V)(ds:List D):Prop :=
 ∃ τt:Addr->Option aL,(∀ p q,τt p=some q->H p=none)/\ah (aG K H') (nd K R (lM G τ fv) τt H') [] 0 vs ds
section
variable {K:PySem.W.Frag}{G R:Addr->Prop}{τ:Addr->Option aL}{fv fv':List Nat}{H H1 H2:Hp}{v:V}{d:D}{vs:List V}{ds:List D}
theorem bM.go(h:bM K G R τ fv H H1 v d)(e:ak H1 H2):bM K G R τ fv H H2 v d :=
 let ⟨τt,h1,h2⟩:=h;⟨τt,h1,h2.imp (λ_ _ h=>aG.same e h) λ_ _ _ _ h=>nd.same e h⟩
theorem nd.mono{A':Addr->Prop}{τ:Addr->Option aL}{q:aL}{p:Addr}{xs:Nd}{f:Fl}(h:nd K R A τ H q p xs f)(hR:R p->R' p)(hA:A p->A' p)(ht:τ p=some q->τ' p=some q'):nd K R' A' τ' H q' p xs f:=by
 cases f with
 | ow=>exact⟨h.1,ht h.2⟩
 | fz=>exact⟨h.1,hR h.2⟩
 | al=>exact⟨h.1,hA h.2⟩
 | sc=>exact h
theorem bM.mono(h:bM K G R τ fv H H1 v d)(hs:∀ i∈fv,i∈fv'):bM K G R τ fv' H H1 v d :=
 let ⟨τt,h1,h2⟩:=h;⟨τt,h1,h2.imp (λ_ _ h=>h) λ_ _ _ _ h=>h.mono id (λh=>h.mono hs) id⟩
theorem bR.mono(h:bR K G R τ fv H H1 vs ds)(hs:∀ i∈fv,i∈fv'):bR K G R τ fv' H H1 vs ds :=
 let ⟨τt,h1,h2⟩:=h;⟨τt,h1,h2.imp (λ_ _ h=>h) λ_ _ _ _ h=>h.mono id (λh=>h.mono hs) id⟩
theorem bM.old{H0:Hp}(h:bM K G R τ fv H H1 v d)(e:ak H0 H):bM K G R τ fv H0 H1 v d :=
 let ⟨τt,h1,h2⟩:=h;⟨τt,λp q z=>e.free (h1 p q z),h2⟩
theorem bM.int{i:Int}:bM K G R τ fv H H1 (.int i) (.int i):=⟨λ_=>none,λ_ _ h=>by simp at h,.int i⟩
theorem bM.bl{b:Bool}:bM K G R τ fv H H1 (.bl b) (.bl b):=⟨λ_=>none,λ_ _ h=>by simp at h,.bl b⟩
theorem bM.bh:bM K G R τ fv H H1 .bh .bh:=⟨λ_=>none,λ_ _ h=>by simp at h,.bh⟩
theorem bM.isInt{i:Int}(h:bM K G R τ fv H H1 v (.int i)):v=.int i:=by obtain⟨_,_,h⟩:=h;cases h;rfl
theorem bM.B4{i:Bool}(h:bM K G R τ fv H H1 v (.bl i)):v=.bl i:=by obtain⟨_,_,h⟩:=h;cases h;rfl
def uR:aL->aL
 | []=>[]
 | [n]=>[n+1]
 | a::b::r=>a::uR (b::r)
theorem wR(c:aL)(n:Nat):uR (c++[n])=c++[n+1]:=by
 induction c with
 | nil=>rfl
 | cons a c ih =>
  cases c with
  | nil=>rfl
  | cons b c=>show a::uR (b::c++[n])=_;rw[ih];rfl
theorem ah.shift{T:pH}{N N':ir}(hN:∀ c n p xs f,N (c++[n]) p xs f->N' (c++[n+1]) p xs f):∀ {n:Nat} {vs:List V} {ds:List D},ah T N [] n vs ds->ah T N' [] (n+1) vs ds
 | _,_,_,.nil=>.nil
 | n,_,_,.cons h t=>.cons (h.imp (q:=[n]) (q':=[n+1]) (λ_ _ h=>h) λc p xs f h=>hN c n p xs f h) (ah.shift hN t)
theorem bR.nil:bR K G R τ fv H H1 [] []:=⟨λ_=>none,λ_ _ h=>by simp at h,.nil⟩
open Classical in
theorem bR.cons(e1:ak H H1)(e2:ak H1 H2)(h:bM K G R τ fv H H1 v d)(t:bR K G R τ fv H1 H2 vs ds):bR K G R τ fv H H2 (v::vs) (d::ds):=by
 obtain⟨τ1,f1,h1⟩:=h;obtain⟨τ2,f2,h2⟩:=t;refine⟨λp=>if H1 p=none then(τ2 p).map uR else(τ1 p).map (· ++ [0]),λp q hq=>?_,.cons (h1.imp (q':=[0]) (λ_ _ h=>aG.same e2 h) λc p xs f h=>?_) (ah.shift (λc n p xs f h=>?_) h2)⟩
 ·by_cases hp:H1 p=none
  ·exact e1.free hp
  ·simp only[hp,if_false]at hq;cases q1:τ1 p with
   | none=>rw[q1]at hq;simp at hq
   | some k=>exact f1 p k q1
 ·have h':nd K R (lM G τ fv) τ1 H2 (c++[]) p xs f:=nd.same e2 h;cases f with
  | ow =>
   have hp:H1 p≠none:=h.1.ne;refine⟨h'.1,?_⟩;simp only[hp,if_false];rw[h.2];simp
  | fz=>exact h'
  | al=>exact h'
  | sc=>exact h'
 ·cases f with
  | ow =>
   have hp:H1 p=none:=f2 p _ h.2;refine⟨h.1,?_⟩;simp only[hp,if_true];rw[h.2];simp[wR]
  | fz=>exact h
  | al=>exact h
  | sc=>exact h
end
def tD(X:Cx)(F:Addr->Prop)(Φ:au)(c:CE):TE:=λσ H Q=>∃ R τ ρ d,SI X F R τ ρ σ H/\aK Φ c ρ=ok d/\∀ v H',ak H H'->bM X.K (gP X F) R τ (iB c) H H' v d->Q v H'
def yg(X:Cx)(F:Addr->Prop)(Φ:au)(cs:List CE):TA:=λσ H Q=>∃ R τ ρ ds,SI X F R τ ρ σ H/\bL Φ cs ρ=ok ds/\∀ vs H',ak H H'->bR X.K (gP X F) R τ (ck cs) H H' vs ds->Q vs H'
def iK(X:Cx)(F:Addr->Prop)(Φ:au)(c:CE):TT:=λσ H Q=>∃ R τ ρ b,SI X F R τ ρ σ H/\sG Φ c ρ=ok b/\∀ H',ak H H'->Q b H'
theorem PE.imp{e:Expr}{t t':TE}(h:PE X e t)(hi:∀ σ H Q,t' σ H Q->t σ H Q):PE X e t':=λpins s σ H Q I hw=>h pins s σ H Q I (hi σ H Q hw)
theorem PT.imp{e:Expr}{t t':TT}(h:PT X e t)(hi:∀ σ H Q,t' σ H Q->t σ H Q):PT X e t':=λpins s σ H Q I hw=>h pins s σ H Q I (hi σ H Q hw)
theorem PW.imp{e:Expr}{t t':TT}(h:PW X e t)(hi:∀ σ H Q,t' σ H Q->t σ H Q):PW X e t':=λwh pins s σ H Q I hw=>h wh pins s σ H Q I (hi σ H Q hw)
theorem PA.imp{es:List Expr}{t t':TA}(h:PA X es t)(hi:∀ σ H Q,t' σ H Q->t σ H Q):PA X es t':=λpos pins s σ H Q I hw=>h pos pins s σ H Q I (hi σ H Q hw)
variable {st:Stmt}
theorem PS.imp{t t':TS}(h:PS X st t)(hi:∀ D σ H,t' D σ H->t D σ H):PS X st t':=λpins s σ H D I hw=>h pins s σ H D I (hi D σ H hw)
theorem g9.imp{st:List Stmt}{t t':TS}(h:g9 X st t)(hi:∀ D σ H,t' D σ H->t D σ H):g9 X st t':=λpins s σ H D I hw=>h pins s σ H D I (hi D σ H hw)
theorem rH:∀(as bs:List D),cC as bs=true ↔ as.length=bs.length/\∀(j:Nat) (a b:D),as[j]?=some a->bs[j]?=some b->jH a b=true
 | [],[]=>by simp[cC]
 | [],b::bs=>by simp[cC]
 | a::as,[]=>by simp[cC]
 | a::as,b::bs=>by
  rw[cC,Bool.and_eq_true,rH as bs];constructor
  ·rintro ⟨h1,h2,h3⟩;refine⟨by simp[h2],λj x y hx hy=>?_⟩;cases j with
   | zero=>simp at hx hy;subst hx hy;exact h1
   | succ j=>exact h3 j x y (by simpa using hx) (by simpa using hy)
  ·rintro ⟨h2,h3⟩;exact⟨h3 0 a b rfl rfl,by simpa using h2,λj x y hx hy=>h3 (j+1) x y (by simpa using hx) (by simpa using hy)⟩
def S_(as bs:List D)(j:Nat):Bool:=match as[j]?,bs[j]? with
 | some a,some b=>jH a b
 | _,_=>false
theorem lH(as bs:List D):((List.range (min as.length bs.length)).all (S_ as bs)&&as.length==bs.length)=cC as bs:=by
 rw[Bool.eq_iff_iff,rH,Bool.and_eq_true,List.all_eq_true,beq_iff_eq];constructor
 ·rintro ⟨h1,h2⟩;refine⟨h2,λj a b ha hb=>?_⟩;have hj:j<as.length:=by
   by_cases h:j<as.length
   ·exact h
   ·rw[List.getElem?_eq_none (by left)]at ha;cases ha
  have:=h1 j (by rw[List.mem_range];left);unfold S_ at this;rw[ha,hb]at this;exact this
 ·rintro ⟨h2,h1⟩;refine⟨λj hj=>?_,h2⟩;rw[List.mem_range]at hj;unfold S_;have ha:as[j]?=some as[j]:=aay (by left);have hb:bs[j]?=some bs[j]:=aay (by left);rw[ha,hb];exact h1 j _ _ ha hb
section
variable {X:Cx}{pins:List (Addr×Obj)}{σ:St}{H:Hp}{s:Shared}{N N':ir}
theorem fq{n:Nat}(h:cQ n (.tup ds)=true):∃ m,n=m+1/\∀ d∈ds,cQ m d=true:=by
 cases n with
 | zero=>cases h
 | succ m=>exact⟨m,rfl,List.all_eq_true.mp h⟩
theorem fA{n:Nat}{f:Fl}(h:cQ n (.lst f ds)=true):∃ m,n=m+1/\∀ d∈ds,cQ m d=true:=by
 cases n with
 | zero=>cases h
 | succ m=>exact⟨m,rfl,List.all_eq_true.mp h⟩
theorem AA(I:Inv X pins σ H s){p:Addr}(h:cV X.K H p xs)(h':aG X.K H p ys):False:=by
 obtain⟨ao,_,pl,_⟩:=I.list h;obtain⟨its',_,pt,_⟩:=I.tuple h';exact SeqAt.ne_of_list_tuple pl.isList pt rfl
theorem DA(I:Inv X pins σ H s)(hN:∀ q p xs f,N q p (.l xs) f->cV X.K H p xs)(CP:∀ q p xs f,N' q p (.l xs) f->cV X.K H p xs):
  ∀(n:Nat) {k k':aL} {v:V} {d d':D},Rep (aG X.K H) N k v d->Rep (aG X.K H) N' k' v d'->cQ n d=true->cQ n d'=true->jH d d'=true:=by
 intro n;induction n with
 | zero =>
  intro k k' v d d' h h' ho gE;cases h with
  | bh=>cases h';rfl
  | bl b=>cases h';exact abK b
  | int i=>cases h';exact abK i
  | tup _ _=>obtain⟨m,hm,_⟩:=fq ho;left
  | lst _ _=>obtain⟨m,hm,_⟩:=fA ho;left
  | bY _ _=>simp[cQ]at ho
 | succ n ih =>
  have sub:∀ {q q':aL} {xs:List V} {ds ds':List D},ah (aG X.K H) N q 0 xs ds->ah (aG X.K H) N' q' 0 xs ds'->(∀ d∈ds,cQ n d=true)->(∀ d∈ds',cQ n d=true)->cC ds ds'=true:=by
   intro q q' xs ds ds' r r' ho gE;rw[rH];refine⟨by rw[<- r.length,<- r'.length],λj a b ha hb=>?_⟩;obtain⟨v1,h1,r1⟩:=r.get ha;obtain⟨v2,h2,r2⟩:=r'.get hb;rw[h1]at h2;cases h2;exact ih r1 r2 (ho a (aaB ha)) (gE b (aaB hb))
  intro k k' v d d' h h' ho gE;cases h with
  | bh=>cases h';rfl
  | bl b=>cases h';exact abK b
  | int i=>cases h';exact abK i
  | tup h r =>
   obtain⟨m,hm,ho⟩:=fq ho;obtain rfl:n=m:=by left
   cases h' with
   | tup h' r' =>
    obtain⟨m,hm,gE⟩:=fq gE;obtain rfl:n=m:=by left
    obtain rfl:=I.tP h h';exact sub r r' ho gE
   | lst h' r'=>exact(AA I (CP _ _ _ _ h') h).elim
   | bY _ _=>simp[cQ]at gE
  | lst h r =>
   obtain⟨m,hm,ho⟩:=fA ho;obtain rfl:n=m:=by left
   cases h' with
   | tup h' r'=>exact(AA I (hN _ _ _ _ h) h').elim
   | lst h' r' =>
    obtain⟨m,hm,gE⟩:=fA gE;obtain rfl:n=m:=by left
    obtain rfl:=I.mG (hN _ _ _ _ h) (CP _ _ _ _ h');exact sub r r' ho gE
   | bY _ _=>simp[cQ]at gE
  | bY _ _=>simp[cQ]at ho
structure Alike(A:Around)(s:Shared)(u u':Value)(b:Bool):Prop where
 eq:SeqAt.EqAt A s u u' b
 rc:SeqAt.RcAt A s u u' b
 ne:SeqAt.RcNeAt A s u u' (!b)
theorem alike(I:Inv X pins σ H s)(hN:∀ q p xs f,N q p (.l xs) f->cV X.K H p xs)(CP:∀ q p xs f,N' q p (.l xs) f->cV X.K H p xs):
  ∀(n:Nat) (A:Around) {k k':aL} {v v':V} {u u':Value} {d d':D},Rep (aG X.K H) N k v d->Rep (aG X.K H) N' k' v' d'->cQ n d=true->cQ n d'=true->RelV v u->RelV v' u'->A.units+n<cLine ->
   Alike A s u u' (jH d d'):=by
 intro n;induction n with
 | zero =>
  intro A k k' v v' u u' d d' h h' ho gE r r' hu;cases h with
  | tup _ _=>obtain⟨m,hm,_⟩:=fq ho;left
  | lst _ _=>obtain⟨m,hm,_⟩:=fA ho;left
  | bY _ _=>simp[cQ]at ho
  | bh =>
   cases r;cases h' with
   | tup _ _=>obtain⟨m,hm,_⟩:=fq gE;left
   | lst _ _=>obtain⟨m,hm,_⟩:=fA gE;left
   | bY _ _=>simp[cQ]at gE
   | bh=>cases r';exact⟨abf _,SeqAt.RcAt.none_none,SeqAt.RcNeAt.none_none⟩
   | bl b=>cases r';exact⟨abW b,SeqAt.RcAt.none_bool b,SeqAt.RcNeAt.none_bool b⟩
   | int b=>obtain⟨t,rfl⟩:=r';exact⟨ab5 b t,SeqAt.RcAt.none_int b t,SeqAt.RcNeAt.none_int b t⟩
  | bl a =>
   cases r;cases h' with
   | tup _ _=>obtain⟨m,hm,_⟩:=fq gE;left
   | lst _ _=>obtain⟨m,hm,_⟩:=fA gE;left
   | bY _ _=>simp[cQ]at gE
   | bh=>cases r';exact⟨abX a,SeqAt.RcAt.bool_none a,SeqAt.RcNeAt.bool_none a⟩
   | bl b=>cases r';exact⟨abY a b,SeqAt.RcAt.bool_bool a b,SeqAt.RcNeAt.bool_bool a b⟩
   | int b=>obtain⟨t,rfl⟩:=r';exact⟨ab6 a b t,SeqAt.RcAt.bool_int a b t,SeqAt.RcNeAt.bool_int a b t⟩
  | int a =>
   obtain⟨t',rfl⟩:=r;cases h' with
   | tup _ _=>obtain⟨m,hm,_⟩:=fq gE;left
   | lst _ _=>obtain⟨m,hm,_⟩:=fA gE;left
   | bY _ _=>simp[cQ]at gE
   | bh=>cases r';exact⟨ab7 a t',SeqAt.RcAt.int_none a t',SeqAt.RcNeAt.int_none a t'⟩
   | bl b=>cases r';exact⟨ab8 a t' b,SeqAt.RcAt.int_bool a t' b,SeqAt.RcNeAt.int_bool a t' b⟩
   | int b=>obtain⟨t,rfl⟩:=r';exact⟨abt a t' b t,SeqAt.RcAt.int_int a t' b t,SeqAt.RcNeAt.int_int a t' b t⟩
 | succ n ih =>
  intro A k k' v v' u u' d d' h h' ho gE r r' hu;have fK:A.units<cLine:=by left
  have WA:A.in1.units+n<cLine:=by show A.units+1+n<cLine;left
  have sub:∀ {q q':aL} {xs xs':List V} {ds ds':List D} {ao its':List Value},ah (aG X.K H) N q 0 xs ds->ah (aG X.K H) N' q' 0 xs' ds'->(∀ d∈ds,cQ n d=true)->(∀ d∈ds',cQ n d=true)->Vals xs ao->Vals xs' its' ->
    ∀(j:Nat) (h1:j<ao.toArray.size) (h2:j<its'.toArray.size),SeqAt.EqAt A.in1 s ao.toArray[j] its'.toArray[j] (S_ ds ds' j):=by
   intro q q' xs xs' ds ds' ao its' rs yJ hd Gx rv CK j h1 h2;have l1:ds.length=ao.length:=by rw[<- rs.length,rv.length]
   have l2:ds'.length=its'.length:=by rw[<- yJ.length,CK.length]
   simp only[List.size_toArray]at h1 h2;have ea:ds[j]?=some ds[j]:=aay (by left);have eb:ds'[j]?=some ds'[j]:=aay (by left);obtain⟨w1,g1,p1⟩:=rs.get ea;obtain⟨w2,g2,p2⟩:=yJ.get eb;obtain⟨u1,k1,z1⟩:=rv.get g1;obtain⟨u2,k2,z2⟩:=CK.get g2;have:=(ih A.in1 p1 p2 (hd _ (abL _)) (Gx _ (abL _)) z1 z2 WA).eq;unfold S_;rw[ea,eb];rw[List.getElem?_eq_getElem h1]at k1;rw[List.getElem?_eq_getElem h2]at k2;cases k1;cases k2;simpa using this
  cases h with
  | bh =>
   cases r;cases h' with
   | bY _ _=>simp[cQ]at gE
   | bh=>cases r';exact⟨abf _,SeqAt.RcAt.none_none,SeqAt.RcNeAt.none_none⟩
   | bl b=>cases r';exact⟨abW b,SeqAt.RcAt.none_bool b,SeqAt.RcNeAt.none_bool b⟩
   | int b=>obtain⟨t,rfl⟩:=r';exact⟨ab5 b t,SeqAt.RcAt.none_int b t,SeqAt.RcNeAt.none_int b t⟩
   | tup h' rr=>cases r';obtain⟨ao,_,pt,_⟩:=I.tuple h';exact⟨SeqAt.EqAt.none_tuple pt fK,SeqAt.RcAt.none_tuple pt fK,SeqAt.RcNeAt.none_tuple pt fK⟩
   | lst h' rr=>cases r';obtain⟨ao,_,pt,_⟩:=I.list (CP _ _ _ _ h');exact⟨SeqAt.EqAt.none_list pt.isList fK,SeqAt.RcAt.none_list pt.isList fK,SeqAt.RcNeAt.none_list pt.isList fK⟩
  | bl a =>
   cases r;cases h' with
   | bY _ _=>simp[cQ]at gE
   | bh=>cases r';exact⟨abX a,SeqAt.RcAt.bool_none a,SeqAt.RcNeAt.bool_none a⟩
   | bl b=>cases r';exact⟨abY a b,SeqAt.RcAt.bool_bool a b,SeqAt.RcNeAt.bool_bool a b⟩
   | int b=>obtain⟨t,rfl⟩:=r';exact⟨ab6 a b t,SeqAt.RcAt.bool_int a b t,SeqAt.RcNeAt.bool_int a b t⟩
   | tup h' rr=>cases r';obtain⟨ao,_,pt,_⟩:=I.tuple h';exact⟨SeqAt.EqAt.bool_tuple a pt fK,SeqAt.RcAt.bool_tuple a pt fK,SeqAt.RcNeAt.bool_tuple a pt fK⟩
   | lst h' rr=>cases r';obtain⟨ao,_,pt,_⟩:=I.list (CP _ _ _ _ h');exact⟨SeqAt.EqAt.bool_list a pt.isList fK,SeqAt.RcAt.bool_list a pt.isList fK,SeqAt.RcNeAt.bool_list a pt.isList fK⟩
  | int a =>
   obtain⟨t',rfl⟩:=r;cases h' with
   | bY _ _=>simp[cQ]at gE
   | bh=>cases r';exact⟨ab7 a t',SeqAt.RcAt.int_none a t',SeqAt.RcNeAt.int_none a t'⟩
   | bl b=>cases r';exact⟨ab8 a t' b,SeqAt.RcAt.int_bool a t' b,SeqAt.RcNeAt.int_bool a t' b⟩
   | int b=>obtain⟨t,rfl⟩:=r';exact⟨abt a t' b t,SeqAt.RcAt.int_int a t' b t,SeqAt.RcNeAt.int_int a t' b t⟩
   | tup h' rr=>cases r';obtain⟨ao,_,pt,_⟩:=I.tuple h';exact⟨SeqAt.EqAt.int_tuple a t' pt fK,SeqAt.RcAt.int_tuple a t' pt fK,SeqAt.RcNeAt.int_tuple a t' pt fK⟩
   | lst h' rr=>cases r';obtain⟨ao,_,pt,_⟩:=I.list (CP _ _ _ _ h');exact⟨SeqAt.EqAt.int_list a t' pt.isList fK,SeqAt.RcAt.int_list a t' pt.isList fK,SeqAt.RcNeAt.int_list a t' pt.isList fK⟩
  | @tup _ p xs ds h rs =>
   cases r;obtain⟨ao,rv,pt,_⟩:=I.tuple h;have pt:s.heap.IsTuple p ao.toArray:=pt;cases h' with
   | bY _ _=>simp[cQ]at gE
   | bh=>cases r';exact⟨SeqAt.EqAt.tuple_none pt fK,SeqAt.RcAt.tuple_none pt fK,SeqAt.RcNeAt.tuple_none pt fK⟩
   | bl b=>cases r';exact⟨SeqAt.EqAt.tuple_bool b pt fK,SeqAt.RcAt.tuple_bool b pt fK,SeqAt.RcNeAt.tuple_bool b pt fK⟩
   | int b=>obtain⟨t,rfl⟩:=r';exact⟨SeqAt.EqAt.tuple_int b t pt fK,SeqAt.RcAt.tuple_int b t pt fK,SeqAt.RcNeAt.tuple_int b t pt fK⟩
   | lst h' rr=>cases r';obtain⟨its',_,pl,_⟩:=I.list (CP _ _ _ _ h');exact⟨SeqAt.EqAt.tuple_list pt pl.isList fK,SeqAt.RcAt.tuple_list pt pl.isList fK,SeqAt.RcNeAt.tuple_list pt pl.isList fK⟩
   | @tup _ p' xs' ds' h' yJ =>
    cases r';obtain⟨m,hm,O0⟩:=fq ho;obtain rfl:n=m:=by left
    obtain⟨m,hm,yk⟩:=fq gE;obtain rfl:n=m:=by left
    obtain⟨its',CK,T7,_⟩:=I.tuple h';have T7:s.heap.IsTuple p' its'.toArray:=T7;have key:=sub rs yJ O0 yk rv CK;have l1:ds.length=ao.toArray.size:=by rw[List.size_toArray,<- rs.length,rv.length]
    have l2:ds'.length=its'.toArray.size:=by rw[List.size_toArray,<- yJ.length,CK.length]
    have rc:SeqAt.RcAt A s (.ref p) (.ref p') (jH (.tup ds) (.tup ds')):=by
     have:=SeqAt.RcAt.tuples pt T7 fK key;rw[<- l1,<- l2,lH]at this;exact this
    refine⟨?_,rc,?_⟩
    ·by_cases hp:p=p'
     ·subst hp;rw[DA I hN CP (n+1) (Rep.tup h rs) (Rep.tup h' yJ) ho gE];exact abf _
     ·exact SeqAt.EqAt.of_refs hp rc
    ·have:=SeqAt.RcNeAt.tuples pt T7 fK key;rw[<- l1,<- l2,lH]at this;exact this
  | @lst _ p xs f ds h rs =>
   cases r;obtain⟨ao,rv,pl,_⟩:=I.list (hN _ _ _ _ h);have pl:=pl.isList;cases h' with
   | bY _ _=>simp[cQ]at gE
   | bh=>cases r';exact⟨SeqAt.EqAt.list_none pl fK,SeqAt.RcAt.list_none pl fK,SeqAt.RcNeAt.list_none pl fK⟩
   | bl b=>cases r';exact⟨SeqAt.EqAt.list_bool b pl fK,SeqAt.RcAt.list_bool b pl fK,SeqAt.RcNeAt.list_bool b pl fK⟩
   | int b=>obtain⟨t,rfl⟩:=r';exact⟨SeqAt.EqAt.list_int b t pl fK,SeqAt.RcAt.list_int b t pl fK,SeqAt.RcNeAt.list_int b t pl fK⟩
   | tup h' rr=>cases r';obtain⟨its',_,pt,_⟩:=I.tuple h';exact⟨SeqAt.EqAt.list_tuple pl pt fK,SeqAt.RcAt.list_tuple pl pt fK,SeqAt.RcNeAt.list_tuple pl pt fK⟩
   | @lst _ p' xs' f' ds' h' yJ =>
    cases r';obtain⟨m,hm,O0⟩:=fA ho;obtain rfl:n=m:=by left
    obtain⟨m,hm,yk⟩:=fA gE;obtain rfl:n=m:=by left
    obtain⟨its',CK,JW,_⟩:=I.list (CP _ _ _ _ h');have JW:=JW.isList;have key:=sub rs yJ O0 yk rv CK;have l1:ds.length=ao.toArray.size:=by rw[List.size_toArray,<- rs.length,rv.length]
    have l2:ds'.length=its'.toArray.size:=by rw[List.size_toArray,<- yJ.length,CK.length]
    have two:SeqAt.RcAt A s (.ref p) (.ref p') (jH (.lst f ds) (.lst f' ds'))/\SeqAt.RcNeAt A s (.ref p) (.ref p') (!jH (.lst f ds) (.lst f' ds')):=by
     show SeqAt.RcAt A s (.ref p) (.ref p') (cC ds ds')/\SeqAt.RcNeAt A s (.ref p) (.ref p') (!cC ds ds');rw[<- lH];by_cases hl:ds.length=ds'.length
     ·have e1:(ds.length==ds'.length)=true:=by simp[hl]
      rw[e1,Bool.and_true,<- hl,Nat.min_self];have hz:ao.toArray.size=its'.toArray.size:=by rw[<- l1,<- l2,hl]
      refine⟨?_,?_⟩
      ·have:=SeqAt.RcAt.lists pl JW hz fK key;rw[<- l1]at this;exact this
      ·have:=SeqAt.RcNeAt.lists pl JW hz fK key;rw[<- l1]at this;exact this
     ·have e1:(ds.length==ds'.length)=false:=by simp[hl]
      rw[e1,Bool.and_false];have hz:(ao.toArray.size != its'.toArray.size)=true:=by rw[<- l1,<- l2];simp[hl]
      exact⟨SeqAt.RcAt.lists_lengths pl JW hz fK,SeqAt.RcNeAt.lists_lengths pl JW hz fK⟩
    refine⟨?_,two.1,two.2⟩;by_cases hp:p=p'
    ·subst hp;rw[DA I hN CP (n+1) (Rep.lst h rs) (Rep.lst h' yJ) ho gE];exact abf _
    ·exact SeqAt.EqAt.of_refs hp two.1
  | bY _ _=>simp[cQ]at ho
end
structure Px where
 pe:Nat->Scope->List Str->Expr->Option (List Expr)
 pi:Nat->Scope->List Str->Expr->Option (List Expr)
 pm:Nat->Scope->List Str->Stmt->Option (Expr×List Expr)
structure Sx where
 sc:Scope
 N:List Str
 fn:Nat->Option Str
 bl:List Str
 cs:List (Str×GK)
 px:Px
noncomputable def Q2:JD->Operator
 | .add=>.Add | .sub=>.Sub | .mul=>.Mult | .fdiv=>.FloorDiv | .mod=>.Mod | .pow=>.Pow | .shr=>.RShift | .band=>.BitAnd
noncomputable def VY:CV->CmpOp
 | .eq=>.Eq | .ne=>.NotEq | .lt=>.Lt | .le=>.LtE | .gt=>.Gt | .ge=>.GtE | .CM=>.In
noncomputable def tyName:Ty->String
 | .int=>"int" | .bool=>"bool" | .list=>"list" | .tuple=>"tuple"
noncomputable def vZ:Bf->String
 | .len=>"len" | .abs=>"abs" | .xr=>"int" | .list1=>"list" | .tuple1=>"tuple" | .fQ=>"sum" | .all1=>"all" | .iQ=>"sorted"
noncomputable def KN(sc:Scope)(x:Str):Bool:=decide (sc.names.lookup x=some .local)||decide (sc.names.lookup x=some .cell)||decide (sc.names.lookup x=some .free)
noncomputable def fV(sc:Scope)(x:Str):Bool:=decide (sc.names.lookup x=some .globalImplicit)
noncomputable def lB(x:Str):Bool:=!(x==("__debug__" : Str))&&!(x==("__classdict__" : Str))&&decide (x≠("__name__" : Str))
noncomputable def ff:Expr->Bool
 | .Set _ _ _=>false
 | _=>true
noncomputable def w8(sc outer:Scope):Scope :=
 { sc with names:=sc.names.map λ(n,k)=>if (k==.free&&outer.kind==.function&&outer.names.lookup n==some .cell)then(n,.cell)else(n,k) }
noncomputable def bD:Expr->List Str
 | .Name x _=>[x]
 | .Tuple es _ _=>es.filterMap λe=>match e with | .Name x _=>some x | _=>none
 | _=>[]
noncomputable def gX(S:Sx)(caps:List Nat):List Str:=caps.filterMap λi=>S.N[i]?
def Sx.inner(S:Sx)(target:Expr)(caps:List Nat)(sc:Scope):Sx:=⟨w8 sc S.sc,bD target++gX S caps,S.fn,S.bl,S.cs,S.px⟩
noncomputable def iX:Expr->Bool
 | .Tuple _ _ _=>true
 | _=>false
noncomputable def isNm:Expr->Bool
 | .Name _ _=>true
 | _=>false
noncomputable def VR:Expr->Bool
 | .Call ..=>true
 | .BinOp ..=>true
 | .Subscript ..=>true
 | .Compare ..=>true
 | .Dict ..=>true
 | _=>false
noncomputable def T_:Expr->Bool
 | .Call ..=>true
 | .Name ..=>true
 | _=>false
theorem aj{a b:Bool}(h:(a&&b)=true):a=true/\b=true:=by
 cases a<;>cases b<;>first | exact⟨rfl,rfl⟩ | cases h
noncomputable def aW{α:Type}(o:Option α)(f:α->Bool):Bool:=match o with
 | some a=>f a
 | none=>false
theorem aP{α:Type}{o:Option α}{f:α->Bool}(h:aW o f=true):∃ a,o=some a/\f a=true:=by
 cases o with
 | some a=>exact⟨a,rfl,h⟩
 | none=>cases h
noncomputable def vC:Expr->Option Const
 | .Constant c _ _=>some c
 | _=>none
theorem C7{e:Expr}{c:Const}(h:vC e=some c):∃ j p,e=.Constant c j p:=by
 cases e<;>first | (cases h;done) | (cases h;exact⟨_,_,rfl⟩)
noncomputable def EH:Const->Bool
 | .none=>true
 | _=>false
theorem B1{c:Const}(h:EH c=true):c=.none:=by cases c<;>first | rfl | cases h
noncomputable def J7(b:Bool):Const->Bool
 | .bool c=>decide (b=c)
 | _=>false
theorem EJ{b:Bool}{c:Const}(h:J7 b c=true):c=.bool b:=by cases c<;>first | (cases h;done) | rw[of_decide_eq_true h]
noncomputable def EI(b:Int):Const->Bool
 | .int c=>decide (b=c)
 | _=>false
theorem B2{b:Int}{c:Const}(h:EI b c=true):c=.int b:=by cases c<;>first | (cases h;done) | rw[of_decide_eq_true h]
noncomputable def MC(b:Str):Const->Bool
 | _=>false
theorem OQ{b:Str}{c:Const}(h:MC b c=true):c=.str b:=by cases c<;>first | (cases h;done) | rw[of_decide_eq_true h]
noncomputable def C5:Expr->Option Str
 | .Name x _=>some x
 | _=>none
theorem jL{e:Expr}{x:Str}(h:C5 e=some x):∃ p,e=.Name x p:=by
 cases e<;>first | (cases h;done) | (cases h;exact⟨_,rfl⟩)
noncomputable def PK:Expr->Option (Expr×Operator×Expr)
 | .BinOp l o r _=>some (l,o,r)
 | _=>none
theorem GY{e l r:Expr}{o:Operator}(h:PK e=some (l,o,r)):∃ p,e=.BinOp l o r p:=by
 cases e<;>first | (cases h;done) | (cases h;exact⟨_,rfl⟩)
noncomputable def U4:Expr->Option (UnaryOp×Expr)
 | .UnaryOp o e _=>some (o,e)
 | _=>none
theorem C4{e x:Expr}{o:UnaryOp}(h:U4 e=some (o,x)):∃ p,e=.UnaryOp o x p:=by
 cases e<;>first | (cases h;done) | (cases h;exact⟨_,rfl⟩)
noncomputable def vBool:Expr->Option (BoolOp×List Expr)
 | .BoolOp o vs _=>some (o,vs)
 | _=>none
theorem wA{e:Expr}{o:BoolOp}{vs:List Expr}(h:vBool e=some (o,vs)):∃ p,e=.BoolOp o vs p:=by
 cases e<;>first | (cases h;done) | (cases h;exact⟨_,rfl⟩)
noncomputable def YH:Expr->Option (Expr×Expr×Expr)
 | .IfExp t x y _=>some (t,x,y)
 | _=>none
theorem KQ{e t x y:Expr}(h:YH e=some (t,x,y)):∃ p,e=.IfExp t x y p:=by
 cases e<;>first | (cases h;done) | (cases h;exact⟨_,rfl⟩)
noncomputable def one{α:Type}:List α->Option α
 | []=>none
 | x::xs=>match xs with
  | []=>some x
  | _::_=>none
theorem b8{α:Type}{l:List α}{x:α}(h:one l=some x):l=[x]:=by
 cases l with
 | nil=>cases h
 | cons y ys=>cases ys with
  | nil=>cases h;rfl
  | cons _ _=>cases h
def two{α:Type}:List α->Option (α×α)
 | []=>none
 | x::xs=>(one xs).map λy=>(x,y)
theorem jM{α:Type}{l:List α}{x y:α}(h:two l=some (x,y)):l=[x,y]:=by
 cases l with
 | nil=>cases h
 | cons z zs=>cases zs with
  | nil=>cases h
  | cons w ws=>cases ws with
   | nil=>cases h;rfl
   | cons _ _=>cases h
noncomputable def U7{α:Type}:List α->Option (α×List α)
 | []=>none
 | x::xs=>some (x,xs)
theorem yv{α:Type}{l xs:List α}{x:α}(h:U7 l=some (x,xs)):l=x::xs:=by
 cases l with
 | nil=>cases h
 | cons y ys=>cases h;rfl
noncomputable def wz:Expr->Option (Expr×List CmpOp×List Expr)
 | .Compare l os rs _=>some (l,os,rs)
 | _=>none
theorem pI{e l:Expr}{os:List CmpOp}{rs:List Expr}(h:wz e=some (l,os,rs)):∃ p,e=.Compare l os rs p:=by
 cases e<;>first | (cases h;done) | (cases h;exact⟨_,rfl⟩)
noncomputable def yu:Expr->Option (Expr×List Expr×List Keyword)
 | .Call f as ks _=>some (f,as,ks)
 | _=>none
variable {args as elts:List Expr}
theorem Bt{e f:Expr}{ks:List Keyword}(h:yu e=some (f,as,ks)):∃ p,e=.Call f as ks p:=by
 cases e<;>first | (cases h;done) | (cases h;exact⟨_,rfl⟩)
def eH(e:Expr):Option (Str×List Expr):=match yu e with
 | some (f,as,ks)=>match ks with
  | []=>match C5 f with
   | some x=>some (x,as)
   | none=>none
  | _::_=>none
 | none=>none
theorem b_{e:Expr}{x:Str}(h:eH e=some (x,as)):∃ p pos,e=.Call (.Name x p) as [] pos:=by
 unfold eH at h;cases hv:yu e with
 | none=>rw[hv]at h;cases h
 | some z =>
  obtain⟨f,Ol,ks⟩:=z;rw[hv]at h;obtain⟨pos,rfl⟩:=Bt hv;cases ks with
  | cons _ _=>cases h
  | nil =>
   cases hn:C5 f with
   | none=>replace h:(match C5 f with | some x=>some (x,Ol) | none=>none)=some (x,as):=h;rw[hn]at h;cases h
   | some y =>
    replace h:(match C5 f with | some x=>some (x,Ol) | none=>none)=some (x,as):=h;rw[hn]at h;obtain⟨p,rfl⟩:=jL hn;cases h;exact⟨p,pos,rfl⟩
noncomputable def ny:Expr->Option (Expr×Expr)
 | .Subscript a b _=>some (a,b)
 | _=>none
theorem me{e a b:Expr}(h:ny e=some (a,b)):∃ p,e=.Subscript a b p:=by
 cases e<;>first | (cases h;done) | (cases h;exact⟨_,rfl⟩)
noncomputable def Bs:Expr->Option (List Expr)
 | .Tuple es _ _=>some es
 | _=>none
theorem md{e:Expr}{es:List Expr}(h:Bs e=some es):∃ n p,e=.Tuple es n p:=by
 cases e<;>first | (cases h;done) | (cases h;exact⟨_,_,rfl⟩)
noncomputable def PD:Expr->Option (List Expr)
 | .List es _=>some es
 | _=>none
theorem zN{e:Expr}{es:List Expr}(h:PD e=some es):∃ p,e=.List es p:=by
 cases e<;>first | (cases h;done) | (cases h;exact⟨_,rfl⟩)
noncomputable def JG:Expr->Option (Expr×List Comprehension×Scope)
 | .ListComp e gs sc _=>some (e,gs,sc)
 | _=>none
theorem C6{e x:Expr}{gs:List Comprehension}{sc:Scope}(h:JG e=some (x,gs,sc)):∃ p,e=.ListComp x gs sc p:=by
 cases e<;>first | (cases h;done) | (cases h;exact⟨_,rfl⟩)
theorem jV{a:Bool}(h:(!a)=true):a=false:=by cases a<;>first | rfl | cases h
def vU(S:Sx)(n:Nat)(t:Tg)(caps:List Nat)(target:Expr)(sc:Scope):Bool :=
 decide (sc.kind=.function)&&sc.names.all (λ(x,k)=>decide (k≠.cell)&&(decide (k≠.local)||decide (sc.names.lookup x=some .local))&&(decide (k≠.free)||decide (S.sc.names.lookup x=some .cell)||decide (S.sc.names.lookup x=some .free))) &&
 decide (n=(bD target).length)&&(bD target).all (λx=>decide (sc.names.lookup x=some .local))&&decide (bD target++gX S caps).Nodup &&
 caps.all (λi=>match S.N[i]? with | some x=>decide (sc.names.lookup x=some .free) | none=>false) &&
 (match t with
  | .nm i=>decide (i=0)&&isNm target
  | .tp is=>aW (Bs target) λes=>decide (is=List.range es.length)&&es.all isNm)
mutual
noncomputable def br(S:Sx):CE->Expr->Bool
 | .cw p es,e0=>VR e0&&aW (S.px.pe p S.sc S.bl e0) λxs=>bc S es xs
 | .bh,e0=>aW (vC e0) λc=>EH c
 | .bl b,e0=>aW (vC e0) λc=>J7 b c
 | .int i,e0=>aW (vC e0) λc=>EI i c
 | .v i,e0=>aW (C5 e0) λx=>decide (S.N[i]?=some x)&&KN S.sc x&&lB x
 | .glo x i,e0=>aW (C5 e0) λy=>decide (y=x)&&fV S.sc x&&decide ((x,GK.i i)∈S.cs)&&!(x==("__debug__" : Str))
 | .glt x zs,e0=>aW (C5 e0) λy=>decide (y=x)&&fV S.sc x&&decide ((x,GK.t zs)∈S.cs)&&!(x==("__debug__" : Str))
 | .bin op a b,e0=>aW (PK e0) λz=>decide (z.2.1=Q2 op)&&br S a z.1&&br S b z.2.2
 | .neg a,e0=>aW (U4 e0) λz=>decide (z.1=.USub)&&br S a z.2
 | .not a,e0=>aW (U4 e0) λz=>decide (z.1=.Not)&&br S a z.2
 | .and es,e0=>aW (vBool e0) λz=>decide (z.1=.And)&&bc S es z.2
 | .or es,e0=>aW (vBool e0) λz=>decide (z.1=.Or)&&bc S es z.2
 | .ite c a b,e0=>aW (YH e0) λz=>br S c z.1&&br S a z.2.1&&br S b z.2.2
 | .cmp op a b,e0=>aW (wz e0) λz=>decide (z.2.1=[VY op])&&br S a z.1&&aW (one z.2.2) λr=>br S b r&&ff r
 | .pd a t,e0=>aW (eH e0) λz=>decide (z.1=("isinstance" : Str))&&fV S.sc z.1&&decide (z.1∈S.bl)&&aW (two z.2) λy=>br S a y.1&&aW (C5 y.2) λx=>decide (x=(tyName t:Str))&&fV S.sc x&&decide (x∈S.bl)
 | .call f es,e0=>aW (eH e0) λz=>decide (S.fn f=some z.1)&&fV S.sc z.1&&lB z.1&&aW (U7 z.2) λy=>bc S es (y.1::y.2)
 | .bf f es,e0=>aW (eH e0) λz=>decide (z.1=(vZ f:Str))&&fV S.sc z.1&&decide (z.1∈S.bl)&&aW (U7 z.2) λy=>bc S es (y.1::y.2)
 | .mF a,e0=>aW (eH e0) λz=>decide (z.1=("len" : Str))&&fV S.sc z.1&&decide (z.1∈S.bl)&&aW (one z.2) λy=>aW (eH y) λw=>decide (w.1=("set" : Str))&&fV S.sc w.1&&decide (w.1∈S.bl)&&aW (one w.2) λu=>br S a u
 | .ix a b,e0=>aW (ny e0) λz=>br S a z.1&&br S b z.2
 | .tup es,e0=>aW (Bs e0) λxs=>bc S es xs&&decide (es.length<=1000)
 | .lst es,e0=>aW (PD e0) λxs=>bc S es xs&&decide (es.length<=1000)
 | .comp n t caps ik es ba elt,e0=>aW (JG e0) λz=>aW (one z.2.1) λg=>decide (g.is_async=0)&&vU S n t caps g.target z.2.2&&ff g.iter&&decide (ba.length<=1)&&bc (S.inner g.target caps z.2.2) ba g.ifs&&br (S.inner g.target caps z.2.2) elt z.1 &&
     (match ik with
      | .k9=>aW (eH g.iter) λw=>decide (w.1=("range" : Str))&&fV S.sc w.1&&decide (w.1∈S.bl)&&aW (one w.2) λy=>bc S es [y]
      | .seq=>bc S es [g.iter]
      | .cw p=>T_ g.iter&&(decide (1100<=p)||iX g.target)&&aW (S.px.pi p S.sc S.bl g.iter) λxs=>bc S es xs)
noncomputable def bc(S:Sx):List CE->List Expr->Bool
 | [],es=>match es with
  | []=>true
  | _::_=>false
 | c::cs,es=>match es with
  | []=>false
  | e::es=>br S c e&&bc S cs es
end
def Gq(K:PySem.W.Frag)(n:Nat)(m:List D->O D):Sp:=λvs H Q _=>∃(F:Addr->Prop) (ds:List D) (r:D),vs.length=n/\ah (aG K H) (nd K F (λ_=>False) (λ_=>none) H) [] 0 vs ds/\m ds=ok r /\
 ∀ v H',ak H H'->(∃ τt:Addr->Option aL,(∀ p q,τt p=some q->H p=none)/\Rep (aG K H') (nd K (λp=>F p\/H p=none) (λ_=>False) τt H') [] v r)->Q v H'
structure Oy(X:Cx)(k:Nat)(x:Str)(m:List D->O D):Prop where
 ex:∃(f:Addr) (fd:FuncData) (ps:List Str),eT X.prog X.w X.K X.mg X.base Bq k f fd ps (Gq X.K ps.length m)/\X.mg x=some (.ref f)/\PySem.W.keepIn X.K (.ref f)=true/\Binds X.K fd ps []/\∀ ds r,m ds=ok r->ds.length=ps.length
noncomputable def kinds:List String:=["NoneType","bool","int","str","list","tuple","dict"]
def RA:Ty->String->Bool
 | .int,s=>s == "int" || s == "bool"
 | t,s=>s==tyName t
theorem ak.upd{H:Hp}{p:Addr}{o:HO}(h:H p=none):ak H (upd H p o):=λb u e=>by
 rw[aA (by rintro rfl;rw[h]at e;cases e)];exact e
theorem Eo{i j:Int}(h:gw i j=true):IntMulOk i j:=by
 unfold gw at h;simp only[Bool.or_eq_true,Bool.and_eq_true,decide_eq_true_eq]at h;rcases h with (h | h) | ⟨h1,h2⟩
 ·exact .of_left (intBits_le h)
 ·exact .of_right (intBits_le h)
 ·have b1:Builtin.Int.intBits i<=9000:=intBits_le h1;have b2:Builtin.Int.intBits j<=9000:=intBits_le h2;unfold IntMulOk;have hb:Builtin.Int.intTooBig ((Builtin.Int.intBits i:Int)+(Builtin.Int.intBits j:Int))=false:=by
   unfold Builtin.Int.intTooBig;have:(bitsLine:Int)=134217728:=by decide
   exact aaX (by left)
  rw[hb];simp
section
variable {K:PySem.W.Frag}{R:Addr->Prop}{τ τt:Addr->Option aL}{fv:List Nat}{H H':Hp}
theorem nd.AS(k k':aL)(p:Addr)(xs:Nd)(f:Fl)(h:nd K R A (λ_=>none) H k p xs f):nd K R A (λ_=>none) H k' p xs f:=by
 cases f with
 | ow=>exact nomatch h.2
 | fz=>exact h
 | al=>exact h
 | sc=>exact h
theorem Q8(Si:SI X F R τ ρ σ H)(fr:∀ p q,τt p=some q->H p=none)(k k':aL)(p:Addr)(xs:Nd)(f:Fl)(h:nd K R (lM (gP X F) τ fv) τt H' k p xs f):
  nd K R (lM (gP X F) τ fv) (λ_=>none) H' k' p xs (aR f):=by
 cases f with
 | ow=>exact⟨h.1,.inr (Si.same.free (fr p _ h.2)),λc i e=>absurd (fr p _ h.2) (Si.th p _ e)⟩
 | fz=>exact h
 | al=>exact h
 | sc=>exact h
theorem ah.m8{k:aL}{n:Nat}(h:ah (aG K H') (nd K R (lM (gP X F) τ fv) τt H') k n xs ds)(Si:SI X F R τ ρ σ H)(fr:∀ p q,τt p=some q->H p=none){n':Nat}:
  ah (aG K H') (nd K R (lM (gP X F) τ fv) (λ_=>none) H') k' n' xs (ag aR ds):=ah.jX (λ_ _ h=>h) (Q8 Si fr) h _ _
theorem Rep.m8{k:aL}{v:V}{d:D}(h:Rep (aG K H') (nd K R (lM (gP X F) τ fv) τt H') k v d)(Si:SI X F R τ ρ σ H)(fr:∀ p q,τt p=some q->H p=none):
  Rep (aG K H') (nd K R (lM (gP X F) τ fv) (λ_=>none) H') k' v (aq aR d):=Rep.jX (λ_ _ h=>h) (Q8 Si fr) h _
theorem bM.BQ{p:Addr}(hp:H p=none)(e:ak H H')(hl:H' p=some (.lst xs))(r:ah (aG K H') (nd K R (lM G τ fv) (λ_=>none) H') [] 0 xs ds):bM K G R τ fv H H' (.ref p) (.lst .ow ds):=by
 refine⟨λq=>if q=p then some []else none,λq k hq=>?_,.lst ⟨hl,by simp⟩ (r.imp (λ_ _ h=>h) λc q xs f h=>?_)⟩
 ·by_cases ze:q=p
  ·subst ze;exact hp
  ·simp[ze]at hq
 ·cases f with
  | ow=>exact nomatch h.2
  | fz=>exact h
  | al=>exact h
  | sc=>exact h
end
theorem Ih(K:PySem.W.Frag):∀ t:Ty,∀ s∈kinds,PySem.W.kitOne K (.type s) (.type (tyName t))=some (RA t s):=by
 intro t s hs;simp only[kinds,List.mem_cons,List.not_mem_nil,or_false]at hs;cases t<;>rcases hs with rfl | rfl | rfl | rfl | rfl | rfl | rfl<;>rfl
structure PX(X:Cx)(sc:Scope)(bl:List Str)(k:Nat):Prop where
 sc:X.env.scope=sc
 calm:X.calm=true
 room:g5 k X.A
 bl:∀ x∈bl,X.mg x=none
theorem PX.gl{sc:Scope}{bl:List Str}{k:Nat}(L:PX X sc bl k){x:Str}(h:fV sc x=true):Gl X x:=by
 unfold Gl;show X.env.scope.names.lookup x=some .globalImplicit;rw[L.sc];exact aak h
def sH(X:Cx)(F:Addr->Prop)(Φ:au):List CE->List Expr->Prop
 | [],[]=>True
 | c::cs,a::as=>PE X a (tD X F Φ c)/\(∀ es,starEach (a::es) X.env=(false,eval a X.env)::starEach es X.env)/\qg a/\sH X F Φ cs as
 | _,_=>False
structure uF(K:PySem.W.Frag)(H2:Hp)(vs:List V)(xs:List D)(H':Hp):Prop where
 n0:∃ R0:Addr->Prop,ah (aG K H2) (nd K R0 (λ_=>False) (λ_=>none) H2) [] 0 vs (ag aC xs)/\∀ p o,R0 p->H2 p=some o->H' p=some o
 tp:∀ a ys,aG K H2 a ys->aG K H' a ys
structure Ph(K:PySem.W.Frag)(J:It)(H2:Hp)(vs:List V)(xs items:List D):Prop where
 go:∀ i H' R',uF K H2 vs xs H'->ah (aG K H') (nd K R' (λ_=>False) (λ_=>none) H') [] 0 vs (ag aC xs)->i<items.length->J.go i H'
 yf:∀ i H' R' x oD,uF K H2 vs xs H'->ah (aG K H') (nd K R' (λ_=>False) (λ_=>none) H') [] 0 vs (ag aC xs)->i<items.length->J.yf i H' x oD->ak H' oD/\∃ d,items[i]?=some d/\Rep (aG K oD) (nd K R' (λ_=>False) (λ_=>none) oD) [] x d
 stop:∀ i H' R',uF K H2 vs xs H'->ah (aG K H') (nd K R' (λ_=>False) (λ_=>none) H') [] 0 vs (ag aC xs)->items.length<=i->J.stop i H'
structure ng(px:Px)(Φ:au):Prop where
 e:∀(X:Cx) (sc:Scope) (bl:List Str) (k:Nat),PX X sc bl k->∀(p:Nat) (e:Expr) (args:List Expr),px.pe p sc bl e=some args->∀(F:Addr->Prop) (cs:List CE),sH X F Φ cs args->PE X e (tD X F Φ (.cw p cs))/\PT X e (iK X F Φ (.cw p cs))
 i:∀(X:Cx) (sc:Scope) (bl:List Str) (k:Nat),PX X sc bl k->∀(p:Nat) (e:Expr) (args:List Expr),px.pi p sc bl e=some args->∀(F:Addr->Prop) (cs:List CE) (tg:Expr),(decide (1100<=p)||iX tg)=true->sH X F Φ cs args ->
  ∀(pins:List (Addr×Obj)) (s:Shared) (σ:St) (H:Hp) (R:Addr->Prop) (τ:Addr->Option aL) (ρ:aD) (xs:List D) (d:D) (items:List D),Inv X pins σ H s->SI X F R τ ρ σ H->bL Φ cs ρ=ok xs->Φ p xs=ok d->nF d=ok items->∀ Rr:It->Hp->Prop,
   (∀ J H2 vs,ak H H2->bR X.K (gP X F) R τ (ck cs) H H2 vs xs->Ph X.K J H2 vs xs items->Rr J H2) ->
   wpAny (model X.prog X.w) X.A (eval e X.env) (λv s1=>wpAny (model X.prog X.w) X.A (pyIter v) (Gk X pins σ tg Rr) X.xe s1) X.xe s
def wo(K:PySem.W.Frag):GK->Value->Prop
 | .i i,u=>RelV (.int i) u
 | .t zs,u=>∃(a:Addr) (o:Obj) (ao:Array Value) (n:Nat),u=.ref a/\K.lookup a=some o/\o.cls=.type "tuple" /\ o.data=.seq ao n/\ao.size<=sizeLine/\Vals (zs.map V.int) ao.toList
structure Lk(X:Cx)(S:Sx)(k:Nat)(Φ:au):Prop where
 sc:X.env.scope=S.sc
 N:X.N=S.N
 nd:X.N.Nodup
 calm:X.calm=true
 room:g5 k X.A
 bl:∀ x∈S.bl,X.mg x=none
 fn:∀ f x,S.fn f=some x->Oy X k x (Φ f)
 cs:∀ x i,(x,i)∈S.cs->∃ u,X.mg x=some u/\wo X.K i u
 pr:ng S.px Φ
variable {S:Sx}{Φ:au}
theorem Lk.pX{k:Nat}(L:Lk X S k Φ):PX X S.sc S.bl k:=⟨L.sc,L.calm,L.room,L.bl⟩
variable {Q:VK}{p' pos pos':Pos}
section
variable {X:Cx}{S:Sx}{k:Nat}{F:Addr->Prop}{Φ:au}
theorem Lk.gl(L:Lk X S k Φ){x:Str}(h:fV S.sc x=true):Gl X x:=by
 unfold Gl;show X.env.scope.names.lookup x=some .globalImplicit;rw[L.sc];exact aak h
theorem Lk.TH(L:Lk X S k Φ){x:Str}(h:KN S.sc x=true):Jz X.env.scope x:=by
 unfold Jz;rw[L.sc];unfold KN at h;rw[Bool.or_eq_true,Bool.or_eq_true]at h;rcases h with (h | h) | h
 ·exact .inl (aak h)
 ·exact .inr (.inl (aak h))
 ·exact .inr (.inr (aak h))
theorem tD.intro{c:CE}{d:D}(Si:SI X F R τ ρ σ H)(e:aK Φ c ρ=ok d)(h:∀ v H',ak H H'->bM X.K (gP X F) R τ (iB c) H H' v d->Q v H'):tD X F Φ c σ H Q:=⟨R,τ,ρ,d,Si,e,h⟩
theorem Vz(L:Lk X S k Φ){i:Nat}{x:Str}(h:br S (.v i) (.Name x pos)=true):PE X (.Name x pos) (tD X F Φ (.v i)):=by
 replace h:=aj h;replace h:=And.intro (aj h.1) h.2;obtain⟨⟨h1,h2⟩,h3⟩:=h;unfold lB at h3;simp only[Bool.and_eq_true,Bool.not_eq_true']at h3;refine PE.imp (lu (i:=i) (by rw[L.N];exact aak h1) (L.TH h2) h3.1.1 h3.1.2) λσ H Q hq=>?_;obtain⟨R,τ,ρ,d,Si,ev,hq⟩:=hq;obtain⟨d',hd,rfl⟩:=Dx ev
 ·obtain⟨v,hv,hr⟩:=Si.rep i d' hd;refine⟨v,hv,hq v H (ak.refl H) ⟨λ_=>none,λ_ _ h=>by simp at h,?_⟩⟩;refine Rep.map (q:=[i]) (q':=[]) (λ_ _ h=>h) (λc p xs f h=>?_) hr [] rfl;cases f with
  | ow =>
   refine⟨h.1,.inr (Si.t0 p _ h.2),λc' j e=>?_⟩;rw[h.2]at e;have e':=aaA e;have:=aaS List.getLast? e';simp at this;show _∈[i];simp[this]
  | fz=>exact h
  | al=>exact h.2.elim
  | sc=>exact h
theorem kF{op:JD}{x y d:D}(RT:op≠.add/\op≠.mul)(h:cq op x y=ok d):∃ i j,x=.int i/\y=.int j:=by
 cases x with
 | int i=>cases y with
  | int j=>exact⟨i,j,rfl,rfl⟩
  | _=>cases op<;>first | exact nk h | (simp at RT;done)
 | _=>cases op<;>first | exact nk h | (simp at RT;done)
theorem Ll(L:Lk X S k Φ){op:JD}{a b:CE}{l r:Expr}(ha:PE X l (tD X F Φ a))(hb:PE X r (tD X F Φ b)):PE X (.BinOp l (Q2 op) r pos) (tD X F Φ (.bin op a b)):=by
 have two:∀ {σ:St} {H:Hp} {Q:VK} {r2:R2},(∃ R τ ρ d,SI X F R τ ρ σ H/\aK Φ (.bin op a b) ρ=ok d/\(∀ v H',ak H H'->bM X.K (gP X F) R τ (iB (.bin op a b)) H H' v d->Q v H') /\
   ∀ x y v u H',cq op x y=ok d->ak H H'->bM X.K (gP X F) R τ (iB (.bin op a b)) H H' v x->bM X.K (gP X F) R τ (iB (.bin op a b)) H H' u y->r2 v u H' Q)->Gp r2 (tD X F Φ a) (tD X F Φ b) σ H Q:=by
  rintro σ H Q r2 ⟨R,τ,ρ,d,Si,ev,hq,hr⟩;obtain⟨x,ex,ev⟩:=af ev;obtain⟨y,ey,ev⟩:=af ev;refine tD.intro Si ex λv H1 e1 r1=>tD.intro (Si.go e1) ey λu H2 e2 r2=>?_;exact hr x y v u H2 ev (e1.trans e2) ((r1.go e2).mono λi hi=>aaG _ hi) ((r2.old e1).mono λi hi=>aav _ hi)
 have za:∀ {C:Int->Int->Prop} {g:Int->Int->Int},lh X (binaryOp (Q2 op)) (rI C λi j=>.int (g i j))->(∀ x y d,cq op x y=ok d->∃ i j,x=.int i/\y=.int j/\C i j/\d=.int (g i j)) ->
   PE X (.BinOp l (Q2 op) r pos) (tD X F Φ (.bin op a b)):=by
  intro C g ho hd;refine PE.imp (JX ho ha hb) λσ H Q hq=>?_;obtain⟨R,τ,ρ,d,Si,ev,hq⟩:=hq;refine two ⟨R,τ,ρ,d,Si,ev,hq,λx y v u H' eb e rv ru=>?_⟩;obtain⟨i,j,rfl,rfl,c,rfl⟩:=hd x y d eb;exact⟨i,j,rv.isInt,ru.isInt,c,hq _ H' e .int⟩
 cases op with
 | sub =>
  refine za (C:=λ_ _=>True) (g:=λi j=>i - j) (L5 λ_ _ _ _ _ _ _ _ q=>sub_int q) λx y d h=>?_;obtain⟨i,j,rfl,rfl⟩:=kF (by simp) h;cases h;exact⟨_,_,rfl,rfl,trivial,rfl⟩
 | mod =>
  refine za (C:=λ_ j=>j≠0) (g:=λi j=>i.fmod j) HQ λx y d h=>?_;obtain⟨i,j,rfl,rfl⟩:=kF (by simp) h;obtain⟨h1,h⟩:=wq h;subst h;exact⟨_,_,rfl,rfl,h1,rfl⟩
 | fdiv =>
  refine za (C:=λ_ j=>uu j=true) (g:=λi j=>i.fdiv j) (L5 λi j _ _ _ _ _ hc q=>?_) λx y d h=>?_
  ·unfold uu at hc;rw[Bool.and_eq_true]at hc;have h1:j≠0:=aak hc.1;have h2:j.natAbs<big:=aak hc.2;exact floordiv_int h1 q (.inl (PyProof.noPylong_of_log2 ((Nat.log2_lt (by left)).mpr h2)))
  ·obtain⟨i,j,rfl,rfl⟩:=kF (by simp) h;obtain⟨h1,h⟩:=wq h;subst h;exact⟨_,_,rfl,rfl,h1,rfl⟩
 | pow =>
  refine za (C:=λi j=>Ah i j=true) (g:=λi j=>i ^ j.toNat) (L5 λi j _ _ _ _ _ hc q=>?_) λx y d h=>?_
  ·unfold Ah at hc;simp only[Bool.and_eq_true,decide_eq_true_eq]at hc;exact pow_int_small hc.1.1 hc.1.2 hc.2 q
  ·obtain⟨i,j,rfl,rfl⟩:=kF (by simp) h;obtain⟨h1,h⟩:=wq h;subst h;exact⟨_,_,rfl,rfl,h1,rfl⟩
 | shr =>
  refine za (C:=λ_ j=>0<=j) (g:=λi j=>i / 2 ^ j.toNat) LZ λx y d h=>?_;obtain⟨i,j,rfl,rfl⟩:=kF (by simp) h;obtain⟨h1,h⟩:=wq h;subst h;exact⟨_,_,rfl,rfl,h1,rfl⟩
 | band =>
  refine za (C:=λ_ j=>j=1) (g:=λi _=>i % 2) (L5 λi j _ _ _ _ _ hc q=>by subst hc;exact and_int (by rw[bitAnd_m1];exact q)) λx y d h=>?_;obtain⟨i,j,rfl,rfl⟩:=kF (by simp) h;obtain⟨h1,h⟩:=wq h;subst h;exact⟨_,_,rfl,rfl,h1,rfl⟩
 | mul =>
  have hi:lh X (binaryOp .Mult) (rI (λi j=>gw i j=true) λi j=>.int (i*j)):=L5 λi j _ _ _ _ _ hc q=>mul_int q (Eo hc);exact za (C:=λi j=>gw i j=true) (g:=λi j=>i*j) hi λx y d h=>by
   obtain⟨i,j,rfl,rfl⟩:∃ i j,x=.int i/\y=.int j:=by cases x<;>first | (cases h;done) | (cases y<;>first | exact⟨_,_,rfl,rfl⟩ | (cases h;done))
   obtain⟨h1,h⟩:=wq h;subst h;exact⟨_,_,rfl,rfl,h1,rfl⟩
 | add =>
  refine PE.imp (JX L4 ha hb) λσ H Q hq=>?_;obtain⟨R,τ,ρ,d,Si,ev,hq⟩:=hq;refine two ⟨R,τ,ρ,d,Si,ev,hq,λx y v u H' eb e rv ru=>?_⟩;obtain⟨i,j,rfl,rfl⟩:∃ i j,x=.int i/\y=.int j:=by cases x<;>first | (cases eb;done) | (cases y<;>first | exact⟨_,_,rfl,rfl⟩ | (cases eb;done))
  cases eb;exact⟨i,j,rv.isInt,ru.isInt,hq _ H' e .int⟩
end
section
variable {T T':pH}{N N':ir}{P:Fl->Bool}
theorem Rep.without(hT:∀ p xs,T p xs->T' p xs)(hN:∀ k k' p xs f,P f=false->N k p xs f->N' k' p xs f){k:aL}{v:V}{d:D}(h:Rep T N k v d)(e:aI P d=false)(k':aL):Rep T' N' k' v d:=by
 have:=Rep.gen (g:=id) (P:=P) (N':=N') (C:=λ_ _=>True) (I:=λ_ _=>True) hT trivial (λ_ _ e=>e) (λ_ _ _ _ e _=>e) (λk k' p xs f _ e h=>hN k k' p xs f e h) h (k':=k') trivial e;rw[fB]at this;exact this
theorem ah.without(hT:∀ p xs,T p xs->T' p xs)(hN:∀ k k' p xs f,P f=false->N k p xs f->N' k' p xs f){k:aL}{n:Nat}(h:ah T N k n vs ds)(e:av P ds=false)(k':aL)(n':Nat):ah T' N' k' n' vs ds:=by
 have:=ah.gen (g:=id) (P:=P) (N':=N') (C:=λ_ _=>True) (I:=λ_ _=>True) hT trivial (λ_ _ e=>e) (λ_ _ _ _ e _=>e) (λk k' p xs f _ e h=>hN k k' p xs f e h) h (k':=k') (n':=n') trivial trivial e;rw[cX]at this;exact this
theorem Rep.l_(hT:∀ p xs,T p xs->T' p xs)(hN:∀ k p xs f,P f=false->N k p xs f->N' k p xs f){k:aL}{v:V}{d:D}(h:Rep T N k v d)(e:aI P d=false):Rep T' N' k v d:=by
 have:=Rep.gen (g:=id) (P:=P) (N':=N') (C:=λa b=>a=b) (I:=λa b=>a=b) hT rfl (λ_ _ e=>by rw[e]) (λ_ _ _ _ a b=>by rw[a,b]) (λk k' p xs f c e h=>by subst c;exact hN k p xs f e h) h rfl e;rw[fB]at this;exact this
theorem ah.l_(hT:∀ p xs,T p xs->T' p xs)(hN:∀ k p xs f,P f=false->N k p xs f->N' k p xs f){k:aL}{n:Nat}(h:ah T N k n vs ds)(e:av P ds=false):ah T' N' k n vs ds:=by
 have:=ah.gen (g:=id) (P:=P) (N':=N') (C:=λa b=>a=b) (I:=λa b=>a=b) hT rfl (λ_ _ e=>by rw[e]) (λ_ _ _ _ a b=>by rw[a,b]) (λk k' p xs f c e h=>by subst c;exact hN k p xs f e h) h rfl rfl e;rw[cX]at this;exact this
end
theorem Rep.vd{k:aL}{v:V}{d:D}(h:Rep (aG K H) (nd K R (λ_=>False) (λ_=>none) H) k v d):Rep (aG K H) (nd K R (λ_=>False) (λ_=>none) H) k' v d:=by
 have:=Rep.jX (g:=id) (λ_ _ h=>h) nd.AS h k';rw[fB]at this;exact this
def jK(X:Cx)(R:Addr->Prop)(τ:Addr->Option aL)(H:Hp)(v:V)(d:D):Prop :=
 ∃ τt:Addr->Option aL,(∀ p q,τt p=some q->τ p=none/\¬ R p/\X.H₀ p=none/\H p≠none)/\Rep (aG X.K H) (nd X.K R (λ_=>False) τt H) [] v d
section
variable {X:Cx}{F R:Addr->Prop}{τ:Addr->Option aL}{ρ:aD}{σ:St}{H H':Hp}
theorem SI.set{i:Nat}{v:V}{d:D}(Si:SI X F R τ ρ σ H)(r:jK X R τ H v d)(hi:i<ρ.length):∃ τ',SI X F R τ' (ρ.set i (some d)) (σ.set i (some v)) H:=by
 obtain⟨τt,ht,rp⟩:=r;refine⟨λp=>match τt p with | some q=>some (q++[i]) | none=>τ p,⟨by simp[Si.len],λj d' hj=>?_,λp hp=>?_,Si.rh,Si.rf,λp q hq=>?_,λp q hq=>?_,Si.same⟩⟩
 ·by_cases la:j=i
  ·subst la;rw[List.getElem?_set_self hi]at hj;cases hj;refine⟨v,List.getElem?_set_self (by rw[<- Si.len];exact hi),rp.imp (q':=[j]) (λ_ _ h=>h) λc p xs f h=>?_⟩;cases f with
   | ow=>rw[List.append_nil]at h;exact⟨h.1,by simp only[h.2]⟩
   | fz=>exact h
   | al=>exact h
   | sc=>exact h
  ·rw[List.getElem?_set_ne (Ne.symm la)]at hj;obtain⟨w,hw,mB⟩:=Si.rep j d' hj;refine⟨w,by rw[List.getElem?_set_ne (Ne.symm la)];exact hw,mB.imp (λ_ _ h=>h) λc p xs f h=>?_⟩;cases f with
   | ow =>
    refine⟨h.1,?_⟩;cases q:τt p with
    | none=>simp only[q];exact h.2
    | some k=>have:=(ht p k q).1;rw[h.2]at this;cases this
   | fz=>exact h
   | al=>exact h
   | sc=>exact h
 ·cases q:τt p with
  | none=>simp only[q];exact Si.rt p hp
  | some k=>exact absurd hp (ht p k q).2.1
 ·cases z:τt p with
  | none=>simp only[z]at hq;exact Si.th p q hq
  | some k=>exact(ht p k z).2.2.2
 ·cases z:τt p with
  | none=>simp only[z]at hq;exact Si.t0 p q hq
  | some k=>exact(ht p k z).2.2.1
theorem B_{k:aL}{v:V}{d:D}(h:Rep (aG X.K H) (nd X.K R (λ_=>False) τ H) k v d)(ho:aI cL d=false):jK X R τ H v d :=
 ⟨λ_=>none,λ_ _ h=>by simp at h,Rep.without (P:=cL) (λ_ _ h=>h) (λk k' p xs f hf h=>by
  cases f with
  | ow=>cases hf
  | fz=>exact h
  | al=>exact h.2.elim
  | sc=>exact h) h ho _⟩
open Classical in
theorem SI.move{i:Nat}{d:D}(Si:SI X F R τ ρ σ H)(hd:ρ[i]?=some (some d)):∃ v τ',σ[i]?=some (some v)/\SI X F R τ' (ρ.set i none) σ H/\jK X R τ' H v d:=by
 obtain⟨v,hv,rp⟩:=Si.rep i d hd;refine⟨v,λp=>match τ p with | some q=>if q.getLast?=some i then none else some q | none=>none,hv,⟨by simp[Si.len],λj d' hj=>?_,λp hp=>?_,Si.rh,Si.rf,λp q hq=>?_,λp q hq=>?_,Si.same⟩,
  λp=>match τ p with | some q=>if q.getLast?=some i then(if H p=none then none else some q.dropLast)else none | none=>none,λp q hq=>?_,rp.imp (q:=[i]) (q':=[]) (λ_ _ h=>h) λc p xs f h=>?_⟩
 ·by_cases la:j=i
  ·subst la;rw[List.getElem?_set]at hj;simp at hj
  ·rw[List.getElem?_set_ne (Ne.symm la)]at hj;obtain⟨w,hw,mB⟩:=Si.rep j d' hj;refine⟨w,hw,mB.imp (q:=[j]) (q':=[j]) (λ_ _ h=>h) λc p xs f h=>?_⟩;cases f with
   | ow =>
    refine⟨h.1,?_⟩;simp only[h.2];rw[if_neg (by simp;exact la)]
   | fz=>exact h
   | al=>exact h
   | sc=>exact h
 ·simp only[Si.rt p hp]
 ·cases z:τ p with
  | none=>simp only[z]at hq;cases hq
  | some k=>exact Si.th p k z
 ·cases z:τ p with
  | none=>simp only[z]at hq;cases hq
  | some k=>exact Si.t0 p k z
 ·cases z:τ p with
  | none=>simp only[z]at hq;cases hq
  | some k =>
   simp only[z]at hq ⊢;by_cases hl:k.getLast?=some i
   ·rw[if_pos hl];exact⟨rfl,(λhR=>by have:=Si.rt p hR;rw[z]at this;cases this),Si.t0 p k z,Si.th p k z⟩
   ·rw[if_neg hl]at hq;cases hq
 ·cases f with
  | ow =>
   refine⟨h.1,?_⟩;have hn:H p≠none:=h.1.ne;simp only[h.2];rw[if_pos (by simp),if_neg hn];simp
  | fz=>exact h
  | al=>exact h.2.elim
  | sc=>exact h
theorem AO(is:List Nat)(ρ:aD)(j:Nat)(d:D)(h:(iC is ρ)[j]?=some (some d)):∃ d',ρ[j]?=some (some d')/\d=(if j∈is then aq aC d' else d'):=by
 unfold iC at h;rw[List.getElem?_mapIdx]at h;cases q:ρ[j]? with
 | none=>rw[q]at h;exact nk h
 | some o =>
  rw[q]at h;cases o with
  | none=>simp at h
  | some d' =>
   refine⟨d',rfl,?_⟩;by_cases hj:j∈is
   ·simp[hj]at h ⊢;exact h.symm
   ·simp[hj]at h ⊢;exact h.symm
open Classical in
theorem AQ(Si:SI X F R τ ρ σ H)(es:ak H H'):
  ∃ R' τ',(∀ p,R p->R' p)/\SI X F R' τ' (iC fv ρ) σ H'/\∀ τt:Addr->Option aL,(∀ p q,τt p=some q->H p=none)->∀(k k':aL) (p:Addr) (xs:Nd) (f:Fl),nd X.K R (lM (gP X F) τ fv) τt H' k p xs f->nd X.K R' (λ_=>False) (λ_=>none) H' k' p xs (aC f):=by
 have fG:=Si.go es;have fresh:∀ p,H p=none->lM (gP X F) τ fv p:=λp hp=>⟨.inr (Si.same.free hp),λc i e=>absurd hp (Si.th p _ e)⟩
 refine⟨λp=>R p\/(H' p≠none/\lM (gP X F) τ fv p),λp=>if lM (gP X F) τ fv p then none else τ p,λp h=>.inl h,⟨by simp[iC,Si.len],λj d' hj=>?_,λp hp=>?_,λp hp=>?_,λp hp=>?_,λp q hq=>?_,λp q hq=>?_,fG.same⟩,λτt fr k k' p xs f h=>?_⟩
 ·obtain⟨d0,h0,e0⟩:=AO _ _ _ _ hj;obtain⟨w,hw,mB⟩:=fG.rep j d0 h0;refine⟨w,hw,?_⟩;by_cases Uv:j∈fv
  ·rw[if_pos Uv]at e0;subst e0;refine Rep.map (q:=[j]) (q':=[j]) (λ_ _ h=>h) (λc p xs f h=>?_) mB [] rfl;cases f with
   | ow =>
    refine⟨h.1,.inr ⟨h.1.ne,.inr (Si.t0 p _ h.2),λc' i' e'=>?_⟩⟩;rw[h.2]at e';have:=aaS List.getLast? (aaA e');simp at this;subst this;exact Uv
   | fz=>exact⟨h.1,.inl h.2⟩
   | al=>exact h.2.elim
   | sc=>exact h
  ·rw[if_neg Uv]at e0;subst e0;refine mB.imp (q:=[j]) (q':=[j]) (λ_ _ h=>h) λc p xs f h=>?_;cases f with
   | ow =>
    refine⟨h.1,?_⟩;show(if lM (gP X F) τ fv p then none else τ p)=some (c++[j]);rw[if_neg (λz=>Uv (z.2 c j h.2))];exact h.2
   | fz=>exact⟨h.1,.inl h.2⟩
   | al=>exact h.2.elim
   | sc=>exact h
 ·rcases hp with hp | hp
  ·simp only[Si.rt p hp];split<;>rfl
  ·rw[if_pos hp.2]
 ·rcases hp with hp | hp
  ·exact fG.rh p hp
  ·exact hp.1
 ·rcases hp with hp | hp
  ·exact Si.rf p hp
  ·exact hp.2.1
 ·split at hq
  ·cases hq
  ·exact fG.th p q hq
 ·split at hq
  ·cases hq
  ·exact Si.t0 p q hq
 ·cases f with
  | ow=>exact⟨h.1,.inr ⟨h.1.ne,fresh p (fr p _ h.2)⟩⟩
  | fz=>exact⟨h.1,.inl h.2⟩
  | al=>exact⟨h.1,.inr ⟨h.1.ne,h.2⟩⟩
  | sc=>exact h
theorem vA{v:V}{d:D}(Si:SI X F R τ ρ σ H)(es:ak H H')(r:bM X.K (gP X F) R τ fv H H' v d):
  ∃ R' τ',(∀ p,R p->R' p)/\SI X F R' τ' (iC fv ρ) σ H'/\Rep (aG X.K H') (nd X.K R' (λ_=>False) (λ_=>none) H') [] v (aq aC d):=by
 obtain⟨τt,fr,rp⟩:=r;obtain⟨R',τ',h1,h2,h3⟩:=AQ (fv:=fv) Si es;exact⟨R',τ',h1,h2,Rep.jX (λ_ _ h=>h) (h3 τt fr) rp _⟩
theorem rz(Si:SI X F R τ ρ σ H)(es:ak H H')(r:bR X.K (gP X F) R τ fv H H' vs ds):
  ∃ R' τ',(∀ p,R p->R' p)/\SI X F R' τ' (iC fv ρ) σ H'/\ah (aG X.K H') (nd X.K R' (λ_=>False) (λ_=>none) H') [] 0 vs (ag aC ds):=by
 obtain⟨τt,fr,rp⟩:=r;obtain⟨R',τ',h1,h2,h3⟩:=AQ (fv:=fv) Si es;exact⟨R',τ',h1,h2,ah.jX (λ_ _ h=>h) (h3 τt fr) rp _ _⟩
theorem pQ{v:V}{d:D}(h:Rep (aG X.K H) (nd X.K R (λ_=>False) (λ_=>none) H) [] v d):jK X R τ' H v d:=⟨λ_=>none,λ_ _ h=>by simp at h,h⟩
open Classical in
theorem J5{e:CE}{v:V}{d:D}(Si:SI X F R τ ρ σ H)(es:ak H H')(r:bM X.K (gP X F) R τ (iB e) H H' v d):
  ∃ R' τ',(∀ p,R p->R' p)/\SI X F R' τ' (keep e d ρ).2 σ H'/\jK X R' τ' H' v (keep e d ρ).1:=by
 unfold keep;by_cases ha:aI bE d=true
 ·rw[if_pos ha];obtain⟨R',τ',h1,h2,h3⟩:=vA Si es r;exact⟨R',τ',h1,h2,pQ h3⟩
 ·obtain⟨τt,fr,rp⟩:=r;rw[if_neg ha];refine⟨R,τ,λ_ h=>h,Si.go es,λp=>if H' p=none then none else τt p,λp q hq=>?_,?_⟩
  ·dsimp only at hq;split at hq
   ·cases hq
   ·rename_i hn;have hf:=fr p q hq;refine⟨?_,λhR=>Si.rh p hR hf,Si.same.free hf,hn⟩;cases z:τ p with
    | none=>rfl
    | some k=>exact absurd hf (Si.th p k z)
  ·have Uz:aI bE d=false:=by simpa using ha
   have st:∀ {k:aL} {v:V} {d:D},Rep (aG X.K H') (nd X.K R (lM (gP X F) τ (iB e)) τt H') k v d->aI bE d=false->Rep (aG X.K H') (nd X.K R (λ_=>False) (λp=>if H' p=none then none else τt p) H') k v d:=by
    intro k v d h ha;exact Rep.l_ (P:=bE) (λ_ _ h=>h) (λk p xs f hf h=>by
     cases f with
     | ow=>exact⟨h.1,by show(if H' p=none then none else τt p)=_;rw[if_neg (h.1.ne)];exact h.2⟩
     | fz=>exact h
     | al=>cases hf
     | sc=>exact h) h ha
   exact st rp Uz
open Classical in
def tK(X:Cx)(F:Addr->Prop)(Φ:au)(c:CE):TE:=λσ H Q=>∃ R τ ρ r,SI X F R τ ρ σ H/\lb Φ c ρ=ok r/\∀ v H' R' τ',ak H H'->(∀ p,R p->R' p)->SI X F R' τ' r.2 σ H'->jK X R' τ' H' v r.1->Q v H'
end
section
variable {T T':pH}{N N':ir}
theorem ah.child{q:aL}(hT:∀ p xs,T p xs->T' p xs)(hN:∀ c m p xs f,N (c++(m::q)) p xs f->N' (c++(m::q)) p xs f):∀ {n:Nat} {vs:List V} {ds:List D},ah T N q n vs ds->ah T' N' q n vs ds
 | _,_,_,.nil=>.nil
 | n,_,_,.cons h t=>.cons (Rep.imp (q:=n::q) (q':=n::q) hT (λc p xs f h=>hN c n p xs f h) h) (ah.child hT hN t)
theorem ah.JO{q:aL}{v:V}{d:D}:∀ {n:Nat} {vs:List V} {ds:List D},ah T N q n vs ds->Rep T N ((n+ds.length)::q) v d->ah T N q n (vs++[v]) (ds++[d])
 | n,_,_,.nil,h=>.cons (by simpa using h) .nil
 | n,_,_,.cons (ds:=ds) h t,h'=>.cons h (ah.JO t (by
   have e:n+(ds.length+1)=n+1+ds.length:=by left
   rw[List.length_cons,e]at h';exact h'))
theorem ah.setAt{q:aL}{v:V}{d:D}:∀ {n j:Nat} {vs:List V} {ds:List D},ah T N q n vs ds->Rep T N ((n+j)::q) v d->ah T N q n (vs.set j v) (ds.set j d)
 | _,_,_,_,.nil,_=>by simp;exact .nil
 | _,0,_,_,.cons _ t,h'=>.cons (by simpa using h') t
 | n,j+1,_,_,.cons h t,h'=>.cons h (ah.setAt (j:=j) t (by
   have e:n+(j+1)=n+1+j:=by left
   rw[e]at h';exact h'))
end
variable {d0 d1:D}
section
variable {X:Cx}{F R:Addr->Prop}{τ:Addr->Option aL}{ρ:aD}{σ:St}{H:Hp}
theorem SI.own{i:Nat}(Si:SI X F R τ ρ σ H)(hi:ρ[i]?=some (some (.lst .ow ds))):∃ p xs,σ[i]?=some (some (.ref p))/\H p=some (.lst xs)/\xs.length=ds.length/\τ p=some [i]/\ah (aG X.K H) (nd X.K R (λ_=>False) τ H) [i] 0 xs ds:=by
 obtain⟨v,hv,rp⟩:=Si.rep i _ hi;cases rp with
 | lst h r=>exact⟨_,_,hv,h.1,r.length,h.2,r⟩
theorem Dq{H:Hp}{p:Addr}{n:Nd}{o:HO}(hp:dZ H p n){a:Addr}(h:aG K H a ys):aG K (upd H p o) a ys:=by
 obtain⟨o0,OZ,RR,OY⟩:=dZ.some hp;have nO:∀ a u,H a=some u->u≠o0->a≠p:=λa u e h z=>by subst z;rw[OZ]at e;cases e;exact h rfl
 rcases h with (h | ⟨o',h⟩) | h
 ·exact .inl (.inl (by rw[aA (nO a _ h λz=>RR _ z.symm)];exact h))
 ·exact .inl (.inr ⟨o',by rw[aA (nO a _ h λz=>OY _ _ z.symm)];exact h⟩)
 ·exact .inr h
theorem SI.QM{i m:Nat}{v:V}{d:D}{p:Addr}{xs':List V}{n n':Nd}{o:HO}(Si:SI X F R τ ρ σ H)(hi:ρ[i]?=some (some d0))(hv:σ[i]?=some (some (.ref p)))(hp:dZ H p n)(ht:τ p=some [i])
  (rs:ah (aG X.K H) (nd X.K R (λ_=>False) τ H) [i] 0 xs ds) (rk:jK X R τ H v d) (AJ:dZ (upd H p o) p n')
  (mk:∀ {N:ir},N [i] p n' .ow->ah (aG X.K (upd H p o)) N [i] 0 xs' ds'->Rep (aG X.K (upd H p o)) N [i] (.ref p) d1)
  (hb:∀ {N:ir},ah (aG X.K (upd H p o)) N [i] 0 xs ds->Rep (aG X.K (upd H p o)) N (m::[i]) v d->ah (aG X.K (upd H p o)) N [i] 0 xs' ds') :
  ∃ τ',SI X F R τ' (ρ.set i (some d1)) σ (upd H p o):=by
 obtain⟨τt,hτ,rp⟩:=rk;have Uw:i<ρ.length:=by
  by_cases z:i<ρ.length
  ·exact z
  ·rw[List.getElem?_eq_none (by left)]at hi;cases hi
 obtain⟨o0,OZ,RR,OY⟩:=dZ.some hp;have nR:∀ a,R a->a≠p:=λa ha e=>by subst e;rw[Si.rt _ ha]at ht;cases ht
 have nT:∀ a q,τt a=some q->a≠p:=λa q e z=>by subst z;rw[(hτ _ q e).1]at ht;cases ht
 have nO:∀ a u,H a=some u->u≠o0->a≠p:=λa u e h z=>by subst z;rw[OZ]at e;cases e;exact h rfl
 have keep:∀ a,a≠p->(upd H p o) a=H a:=λa h=>aA h;have M6:∀ a ys,aG X.K H a ys->aG X.K (upd H p o) a ys:=λa ys h=>by
  rcases h with (h | ⟨o',h⟩) | h
  ·exact .inl (.inl (by rw[keep a (nO a _ h λz=>RR _ z.symm)];exact h))
  ·exact .inl (.inr ⟨o',by rw[keep a (nO a _ h λz=>OY _ _ z.symm)];exact h⟩)
  ·exact .inr h
 have UB:∀ a (z:Nd),a≠p->dZ H a z->dZ (upd H p o) a z:=λa z ne h=>h.at λu e=>by rw[keep a ne];exact e
 have ZQ:∀ {τ1:Addr->Option aL} q q' a (z:Nd),nd X.K R (λ_=>False) τ1 H q a z .sc->∀ τ2,nd X.K R (λ_=>False) τ2 (upd H p o) q' a z .sc:=λq q' a z h τ2=>by
  obtain⟨ys,rfl,h⟩:=h.DD;exact h.elim (λ⟨o',w⟩=>.inl ⟨o',by rw[keep a (nO a _ w λz=>OY _ _ z.symm)];exact w⟩) .inr
 have ZR:∀ q a ys f,q≠[i]->nd X.K R (λ_=>False) τ H q a ys f->nd X.K R (λ_=>False) (λa=>match τt a with | some q=>some (q++[m,i]) | none=>τ a) (upd H p o) q a ys f:=λq a ys f hq h=>by
  cases f with
  | ow =>
   have ne:a≠p:=λz=>by
    subst z;have:=h.2.symm.trans ht;exact hq (aaA this)
   refine⟨UB a ys ne h.1,?_⟩;cases z:τt a with
   | none=>simp only[z];exact h.2
   | some k=>have:=(hτ a k z).1;rw[h.2]at this;cases this
  | fz=>exact⟨UB a ys (nR a h.2) h.1,h.2⟩
  | al=>exact h.2.elim
  | sc=>exact ZQ q q a ys h _
 refine⟨λa=>match τt a with | some q=>some (q++[m,i]) | none=>τ a,⟨by simp[Si.len],λj d' hj=>?_,λa ha=>?_,λa ha=>?_,Si.rf,λa q hq=>?_,λa q hq=>?_,?_⟩⟩
 ·by_cases la:j=i
  ·subst la;rw[List.getElem?_set_self Uw]at hj;cases hj;refine⟨.ref p,hv,mk ⟨AJ,?_⟩ (hb (ah.child M6 (λc n a ys f h=>ZR _ a ys f (λz=>by
    have:=aaS List.length z;simp at this) h) rs) (rp.imp (q:=[]) (q':=[m,j]) M6 λc a ys f h=>?_))⟩
   ·cases z:τt p with
    | none=>simp only[z];exact ht
    | some k=>exact absurd rfl (nT p k z)
   ·cases f with
    | ow =>
     rw[List.append_nil]at h;exact⟨UB a ys (nT a _ h.2) h.1,by simp only[h.2]⟩
    | fz=>exact⟨UB a ys (nR a h.2) h.1,h.2⟩
    | al=>exact h.2.elim
    | sc=>exact ZQ _ _ a ys h _
  ·rw[List.getElem?_set_ne (Ne.symm la)]at hj;obtain⟨u,hu,ru⟩:=Si.rep j d' hj;refine⟨u,hu,ru.imp (q:=[j]) (q':=[j]) M6 λc a ys f h=>ZR _ a ys f (λz=>?_) h⟩;have:=aaS List.getLast? z;simp at this;exact la this
 ·cases z:τt a with
  | none=>simp only[z];exact Si.rt a ha
  | some k=>exact absurd ha (hτ a k z).2.1
 ·rw[keep a (nR a ha)];exact Si.rh a ha
 ·by_cases ZP:a=p
  ·subst ZP;rw[aH];simp
  ·rw[keep a ZP];cases z:τt a with
   | none=>simp only[z]at hq;exact Si.th a q hq
   | some k=>exact(hτ a k z).2.2.2
 ·cases z:τt a with
  | none=>simp only[z]at hq;exact Si.t0 a q hq
  | some k=>exact(hτ a k z).2.2.1
 ·intro a u e;have ne:a≠p:=λz=>by subst z;rw[Si.t0 _ _ ht]at e;cases e
  rw[keep a ne];exact Si.same a u e
theorem SI.put{i m:Nat}{v:V}{d:D}{g:List V->List V}{p:Addr}(Si:SI X F R τ ρ σ H)(hi:ρ[i]?=some (some (.lst .ow ds)))(hv:σ[i]?=some (some (.ref p)))(hp:H p=some (.lst xs))(ht:τ p=some [i])
  (rs:ah (aG X.K H) (nd X.K R (λ_=>False) τ H) [i] 0 xs ds) (rk:jK X R τ H v d)
  (hb:∀ {N:ir},ah (aG X.K (upd H p (.lst (g xs)))) N [i] 0 xs ds->Rep (aG X.K (upd H p (.lst (g xs)))) N (m::[i]) v d->ah (aG X.K (upd H p (.lst (g xs)))) N [i] 0 (g xs) ds') :
  ∃ τ',SI X F R τ' (ρ.set i (some (.lst .ow ds'))) σ (upd H p (.lst (g xs))) :=
 Si.QM (n:=.l xs) (n':=.l (g xs)) hi hv hp ht rs rk aH (λh r=>.lst h r) hb
end
theorem lK{env:Env}:∀(names:List (Str×NameKind)) (acc:List (Str×Addr)),(∀ x,(x,NameKind.free)∈names->∃ c,env.cells.lookup x=some c) ->
  ∃ cl,(forIn names acc (λ(y:Str×NameKind) (cs:List (Str×Addr))=>do
    let (name,kind):=y
    let mut cs:=cs
    if kind==.free then cs:=(name,<- cellOf env name)::cs
    pure (ForInStep.yield cs)):Sem (List (Str×Addr)))=pure cl /\
   (∀ x c,cl.lookup x=some c->acc.lookup x=some c\/(env.cells.lookup x=some c/\(x,NameKind.free)∈names))/\(∀ x,((x,NameKind.free)∈names\/(∃ c,acc.lookup x=some c))->∃ c,cl.lookup x=some c)
 | [],acc,_=>⟨acc,rfl,λx c h=>.inl h,λx h=>h.elim (λh=>nomatch h) id⟩
 | (n,kd)::names,acc,h=>by
  by_cases hk:kd=.free
  ·subst hk;obtain⟨c,hc⟩:=h n aao;obtain⟨cl,e,h1,h2⟩:=lK names ((n,c)::acc) (λx hx=>h x (aam _ hx));refine⟨cl,?_,λx c' hx=>?_,λx hx=>?_⟩
   ·rw[List.forIn_cons];have e0:cellOf env n=pure c:=by unfold cellOf;rw[hc]
    simp only[beq_self_eq_true,if_true,e0,pure_bind];exact e
   ·rcases h1 x c' hx with z | z
    ·by_cases RG:x=n
     ·subst RG;simp at z;subst z;exact .inr ⟨hc,aao⟩
     ·rw[List.lookup_cons]at z;have:(x==n)=false:=by simpa using RG
      rw[this]at z;exact .inl z
    ·exact .inr ⟨z.1,aam _ z.2⟩
   ·refine h2 x ?_;rcases hx with hx | ⟨c',hx⟩
    ·rcases List.mem_cons.mp hx with z | z
     ·cases z;exact .inr ⟨c,by simp⟩
     ·exact .inl z
    ·by_cases RG:x=n
     ·subst RG;exact .inr ⟨c,by simp⟩
     ·refine .inr ⟨c',?_⟩;rw[List.lookup_cons];have:(x==n)=false:=by simpa using RG
      rw[this];exact hx
  ·obtain⟨cl,e,h1,h2⟩:=lK names acc (λx hx=>h x (aam _ hx));have hb:(kd==NameKind.free)=false:=by simpa using hk
   refine⟨cl,?_,λx c' hx=>(h1 x c' hx).imp id λz=>⟨z.1,aam _ z.2⟩,λx hx=>h2 x ?_⟩
   ·rw[List.forIn_cons];simp only[hb,Bool.false_eq_true,if_false,pure_bind];exact e
   ·rcases hx with hx | hx
    ·rcases List.mem_cons.mp hx with z | z
     ·cases z;exact absurd rfl hk
     ·exact .inl z
    ·exact .inr hx
variable {env:Env}
theorem zp{sc:Scope}(h:∀ x,(x,NameKind.free)∈sc.names->∃ c,env.cells.lookup x=some c):
  ∃ cl,closureFor sc env=pure cl/\(∀ x c,cl.lookup x=some c->env.cells.lookup x=some c)/\(∀ x,(x,NameKind.free)∈sc.names->∃ c,cl.lookup x=some c):=by
 obtain⟨cl,e,h1,h2⟩:=lK (env:=env) sc.names [] h;refine⟨cl,?_,λx c hx=>(h1 x c hx).elim (λz=>by simp at z) (·.1),λx hx=>h2 x (.inl hx)⟩;unfold closureFor;simp only[bind_pure];exact e
variable {P prog:Program}{e1 e2 kW iter o target tg:Expr}{w:World}
theorem vH{A:Around}{R:Result->Shared->Prop}{s:Shared}{elt:Expr}{ifs:List Expr}{scope:Scope}{it acc:Value}(I:Nat->Shared->Prop)
  (turn:∀ n s,I n s->wpAny (model prog w) A (pyNext it) (λr s₁=>match r with
   | none=>R (.ok .next) s₁
   | some v=>wpAny (model prog w) A (letOwnedTupleGo target it v) (λ_ s₁=>wpAny (model prog w) A (assign target env v) (λ_ s₂ =>
     wpAny (model prog w) A (forIn ifs true λc r=>if r=true then do let ok <- isTrue c env (eval c env);pure (ForInStep.yield ok)else pure (ForInStep.yield r)) (λok s₃ =>
      if ok=true then wpAny (model prog w) A (eval elt env) (λx s₄ =>
       wpAny (model prog w) A (call (.builtin "list.append") [acc,x]) (λ_ s₅=>∃ m,m<n/\I m s₅) (λ_ _=>False) s₄) (λ_ _=>False) s₃
      else ∃ m,m<n/\I m s₃) (λ_ _=>False) s₂) (λ_ _=>False) s₁) (λ_ _=>False) s₁) (λ_ _=>False) s)
  (n:Nat) (h:I n s) :
  codeAny (model prog w) A (.compLoop (.ListComp elt [⟨target,iter,ifs,0⟩] scope pos) 0 it acc env) R s:=by
 refine codeAny_loop rfl I (λn s hI=>?_) n h;show wpAny _ A ((compTurn (.ListComp elt [⟨target,iter,ifs,0⟩] scope pos) 0 it acc env).onRaise (λx=>do noteFrame x env;theTreesLotGoes x)) _ _ s;refine wpAny_noted ?_;rw[compTurn_list];refine aah (ace (aah (aaC (turn n s hI) (λr s₁ h₁=>?_) λ_ _ h'=>h'.elim)));cases r with
 | none=>exact aaq h₁
 | some v =>
  refine aah (aaC h₁ (λ_ s₂ h₂=>?_) λ_ _ h'=>h'.elim);refine aah (aaC h₂ (λ_ s₂ h₂=>aah (aaC h₂ (λok s₃ h₃=>?_) λ_ _ h'=>h'.elim)) λ_ _ h'=>h'.elim);cases ok with
  | false=>exact aaq ⟨rfl,h₃⟩
  | true =>
   exact aah (aah (aaC h₃ (λx s₄ h₄=>aah (aaC h₄ (λ_ s₅ h₅=>aaq (aaq ⟨rfl,h₅⟩)) λ_ _ h'=>h'.elim)) λ_ _ h'=>h'.elim))
noncomputable def dU(X:Cx)(N':List Str)(scope:Scope)(cl:List (Str×Addr))(C:Addr)(s₀:Shared)(H₀:Hp)(fp:List Addr):Cx :=
 { X with N:=N',s₀:=s₀,H₀:=H₀,env:=compEnvC scope cl C X.env,outer:=X.stack,stack:=X.stack,ex:=fp,fn:=λ_=>false,pn:=[],xe:=λ_ _=>False }
theorem fT{env:Env}:∀ {names:List (Str×NameKind)} {x:Str} {kd:NameKind},(names.map λ(n,k)=>if (k==NameKind.free&&env.scope.kind==.function&&env.kindOf n==some .cell)then(n,NameKind.cell)else(n,k)).lookup x=some kd ->
  names.lookup x=some kd\/(kd=.cell/\names.lookup x=some .free)
 | [],_,_,h=>by simp at h
 | (n,k)::r,x,kd,h=>by
  rw[List.map_cons]at h;cases hx:x==n with
  | true =>
   by_cases hc:(k==NameKind.free&&env.scope.kind==.function&&env.kindOf n==some .cell)=true
   ·simp only[hc,if_true,List.lookup_cons,hx]at h;cases h;simp only[Bool.and_eq_true,beq_iff_eq]at hc;refine .inr ⟨rfl,?_⟩;rw[List.lookup_cons,hx,hc.1.1]
   ·have EZ:(k==NameKind.free&&env.scope.kind==.function&&env.kindOf n==some .cell)=false:=by simpa using hc
    simp only[EZ,Bool.false_eq_true,if_false,List.lookup_cons,hx]at h;cases h;exact .inl (by rw[List.lookup_cons,hx])
  | false =>
   have:List.lookup x (r.map λ(n,k)=>if (k==NameKind.free&&env.scope.kind==.function&&env.kindOf n==some .cell)then(n,NameKind.cell)else(n,k))=some kd:=by
    by_cases hc:(k==NameKind.free&&env.scope.kind==.function&&env.kindOf n==some .cell)=true
    ·simp only[hc,if_true,List.lookup_cons,hx]at h;exact h
    ·have EZ:(k==NameKind.free&&env.scope.kind==.function&&env.kindOf n==some .cell)=false:=by simpa using hc
     simp only[EZ,Bool.false_eq_true,if_false,List.lookup_cons,hx]at h;exact h
   rw[List.lookup_cons,hx];exact fT this
theorem cR{env:Env}:∀ {names:List (Str×NameKind)} {x:Str},names.lookup x=some .free ->
  (names.map λ(n,k)=>if (k==NameKind.free&&env.scope.kind==.function&&env.kindOf n==some .cell)then(n,NameKind.cell)else(n,k)).lookup x=some .free \/
  (names.map λ(n,k)=>if (k==NameKind.free&&env.scope.kind==.function&&env.kindOf n==some .cell)then(n,NameKind.cell)else(n,k)).lookup x=some .cell
 | [],_,h=>by simp at h
 | (n,k)::r,x,h=>by
  rw[List.map_cons];cases hx:x==n with
  | true =>
   rw[List.lookup_cons,hx]at h;cases h;by_cases hc:(NameKind.free==NameKind.free&&env.scope.kind==.function&&env.kindOf n==some .cell)=true
   ·simp only[hc,if_true,List.lookup_cons,hx];exact .inr trivial
   ·have EZ:(NameKind.free==NameKind.free&&env.scope.kind==.function&&env.kindOf n==some .cell)=false:=by simpa using hc
    simp only[EZ,Bool.false_eq_true,if_false,List.lookup_cons,hx];exact .inl trivial
  | false =>
   rw[List.lookup_cons,hx]at h;by_cases hc:(k==NameKind.free&&env.scope.kind==.function&&env.kindOf n==some .cell)=true
   ·simp only[hc,if_true,List.lookup_cons,hx];exact cR h
   ·have EZ:(k==NameKind.free&&env.scope.kind==.function&&env.kindOf n==some .cell)=false:=by simpa using hc
    simp only[EZ,Bool.false_eq_true,if_false,List.lookup_cons,hx];exact cR h
theorem dw{names:List (Str×NameKind)}{x:Str}{kd:NameKind}(h:names.lookup x=some kd):(x,kd)∈names:=aa2 h
structure l7(S:Sx)(n:Nat)(t:Tg)(caps:List Nat)(target:Expr)(sc:Scope):Prop where
 kind:sc.kind=.function
 Ej:∀ y∈sc.names,y.2≠.cell
 loc:∀ y∈sc.names,y.2=.local->sc.names.lookup y.1=some .local
 free:∀ x,(x,NameKind.free)∈sc.names->S.sc.names.lookup x=some .cell\/S.sc.names.lookup x=some .free
 n:n=(bD target).length
 tl:∀ x∈bD target,sc.names.lookup x=some .local
 nd:(bD target++gX S caps).Nodup
 iL:∀ i∈caps,∃ x,S.N[i]?=some x/\sc.names.lookup x=some .free
 tg:(∃ x p,t=.nm 0/\target=.Name x p)\/(∃ es k p,t=.tp (List.range es.length)/\target=.Tuple es k p/\es.all isNm=true)
theorem uw{n:Nat}{t:Tg}{sc:Scope}(h:vU S n t caps target sc=true):l7 S n t caps target sc:=by
 unfold vU at h;simp only[Bool.and_eq_true,decide_eq_true_eq,List.all_eq_true,Bool.or_eq_true]at h;obtain⟨⟨⟨⟨⟨⟨h1,h2⟩,h3⟩,h4⟩,h5⟩,h6⟩,h7⟩:=h;refine⟨h1,λy hy=>(h2 y hy).1.1,λy hy hk=>?_,λx hx=>?_,h3,h4,h5,λi hi=>?_,?_⟩
 ·rcases(h2 y hy).1.2 with z | z
  ·exact absurd hk z
  ·exact z
 ·rcases(h2 _ hx).2 with (z | z) | z
  ·exact absurd rfl z
  ·exact .inl z
  ·exact .inr z
 ·have:=h6 i hi;split at this
  ·rename_i x e;exact⟨x,e,aak this⟩
  ·cases this
 ·cases t with
  | nm i =>
   obtain⟨g1,g2⟩:=aj h7;obtain rfl:i=0:=aak g1;cases target<;>first | (cases g2;done) | exact .inl ⟨_,_,rfl,rfl⟩
  | tp is =>
   obtain⟨es,hv,g⟩:=aP h7;obtain⟨k,p,rfl⟩:=md hv;obtain⟨g1,g2⟩:=aj g;obtain rfl:is=_:=aak g1;exact .inr ⟨es,k,p,rfl,rfl,g2⟩
theorem x_{S:Sx}:∀ {caps:List Nat},(∀ i∈caps,∃ x,S.N[i]?=some x)->(gX S caps).length=caps.length/\∀(j i:Nat),caps[j]?=some i->(gX S caps)[j]?=S.N[i]?
 | [],_=>⟨rfl,λj i h=>by simp at h⟩
 | i::caps,h=>by
  obtain⟨x,hx⟩:=h i aao;obtain⟨h1,h2⟩:=x_ (caps:=caps) λj hj=>h j (aam _ hj);have e:gX S (i::caps)=x::gX S caps:=by unfold gX;rw[List.filterMap_cons,hx]
  rw[e];refine⟨by simp[h1],λj k hj=>?_⟩;cases j with
  | zero=>simp at hj;subst hj;simp[hx]
  | succ j=>simp at hj ⊢;exact h2 j k hj
variable {base h' h₁:Heap}{ch fp:List Addr}
section
variable {X:Cx}{S:Sx}{k:Nat}{Φ:au}{pins:List (Addr×Obj)}{σ:St}{H2:Hp}{s₂:Shared}
noncomputable def sR(n:Nat)(caps:List Nat)(σ:St):St:=List.replicate n none++caps.map λi=>σ[i]?.getD none
noncomputable def eM(ao:List Value)(n:Nat):Obj:={ cls:=.type "list",data:=.seq ao.toArray n }
theorem Jk{n:Nat}{t:Tg}{sc:Scope}{cl:List (Str×Addr)}(L:Lk X S k Φ)(co:l7 S n t caps target sc)(I2:Inv X pins σ H2 s₂)
  (ph:∀ x c,cl.lookup x=some c->X.env.cells.lookup x=some c) (zf:∀ x,(x,NameKind.free)∈sc.names->∃ c,cl.lookup x=some c) (Iy:∀ b∈fp,sv X pins H2 b) (MU:∀ b∈fp,b<s₂.heap.objs.size) :
  (dU X (bD target++gX S caps) sc cl (s₂.heap.objs.size+1) s₂ H2 fp).Ok:=by
 have WC:=I2.ll;refine⟨I2.ok.mod,co.kind,I2.ok.glob,I2.ok.blt,abE _,λx y c h1 h2=>I2.ok.inj x y c (ph x c h1) (ph y c h2),λx hx=>?_,(λ_ _ z=>by cases z),I2.ok.hd,I2.ok.frames,.inl rfl,λb hb=>⟨?_,λx c e=>(Iy b hb).2.2.2.2.1 x c (ph x c e)⟩,I2.bs,aaI I2.ok.Ga I2.sz,λb o e hb=>?_,λb hb z=>?_,I2.stack,I2.mj⟩
 ·have CN:(relabel sc X.env).names.lookup x=some .cell\/(relabel sc X.env).names.lookup x=some .free:=hx;rcases CN with CN | CN
  ·rcases fT CN with z | z
   ·exact absurd rfl (co.Ej _ (dw z))
   ·exact zf x (dw z.2)
  ·rcases fT CN with z | z
   ·exact zf x (dw z)
   ·cases z.1
 ·exact aat (aaM (MU b hb))
 ·rcases(Iy b hb).2.2.2.1 with z | z
  ·exact I2.ok.xk b o e z
  ·exact absurd (aan (aap e) (aaI I2.ok.Ga z)) (aaF _)
 ·rcases List.mem_cons.mp (WC b z)with w | w
  ·exact(Iy b hb).2.1 w
  ·exact(Iy b hb).2.2.1 w
theorem EL{n:Nat}{t:Tg}{sc:Scope}{cl:List (Str×Addr)}{tk:Nat}(L:Lk X S k Φ)(co:l7 S n t caps target sc)(I2:Inv X pins σ H2 s₂)
  (ph:∀ x c,cl.lookup x=some c->X.env.cells.lookup x=some c) (zf:∀ x,(x,NameKind.free)∈sc.names->∃ c,cl.lookup x=some c) (Iy:∀ b∈fp,sv X pins H2 b) (MU:∀ b∈fp,b<s₂.heap.objs.size)
  (CO:h₁.Ns (s₂.heap.objs.size+1) λ_=>none) (old:∀ b o,s₂.heap.get? b=some o->h₁.get? b=some o) (gU:h₁.get? s₂.heap.objs.size=some (eM [] 0)) :
  Inv (dU X (bD target++gX S caps) sc cl (s₂.heap.objs.size+1) s₂ H2 fp) [(s₂.heap.objs.size,eM [] 0)] (sR n caps σ) H2 { s₂ with heap:=h₁,toks:=tk }:=by
 have xD:∀ i∈caps,∃ x,S.N[i]?=some x:=λi hi=>let ⟨x,e,_⟩:=co.iL i hi;⟨x,e⟩;obtain⟨cl1,cl2⟩:=x_ xD;refine⟨Jk L co I2 ph zf Iy MU,rfl,I2.bare,Un.kept old,⟨_,CO,λi x v e1 e2 e3=>?_⟩,λx c e=>?_,I2.bQ.fresh (abE _),λx c e=>I2.fW x c (ph x c e),λp hp=>?_,I2.bQ.kept old,?_⟩
 ·unfold sR at e2;have hi:n<=i:=by
   by_cases hi:i<n
   ·rw[List.getElem?_append_left (by simpa using hi),List.getElem?_replicate,if_pos hi]at e2;cases e2
   ·left
  have Pc:(bD target++gX S caps)[i]?=some x:=e1;rw[List.getElem?_append_right (by rw[<- co.n];exact hi),<- co.n]at Pc;rw[List.getElem?_append_right (by simpa using hi),List.length_replicate,List.getElem?_map]at e2;cases hc:caps[i - n]? with
  | none=>rw[hc]at e2;cases e2
  | some ci =>
   rw[hc]at e2;rw[cl2 _ _ hc]at Pc;obtain⟨x',SU,O2⟩:=co.iL ci (aaB hc);rw[SU]at Pc;cases Pc;have e2':σ[ci]?=some (some v):=by
    have Ta:σ[ci]?.getD none=some v:=aaA e2;cases q:σ[ci]? with
    | none=>rw[q]at Ta;cases Ta
    | some o=>rw[q]at Ta;simp at Ta;rw[Ta]
   have Wy:Jz X.env.scope x:=by
    unfold Jz;rw[L.sc];rcases co.free x (dw O2)with z | z
    ·exact .inr (.inl z)
    ·exact .inr (.inr z)
   obtain⟨m,hn,hl⟩:=I2.loc;obtain⟨u,r,lk⟩:=hl ci x v (by rw[L.N];exact SU) e2' Wy;refine⟨u,r,.inr ⟨?_,?_⟩⟩
   ·rcases cR (env:=X.env) O2 with z | z
    ·exact .inr z
    ·exact .inl z
   ·have hcx:∃ c,X.env.cells.lookup x=some c/\s₂.heap.IsCell c (some u):=by
     rcases lk with ⟨z,_⟩ | ⟨_,z⟩
     ·have z':X.env.scope.names.lookup x=some .local:=z;rw[L.sc]at z';rcases co.free x (dw O2)with w | w<;>(rw[w]at z';cases z')
     ·exact z
    obtain⟨c,ec,o,ho,hd⟩:=hcx;obtain⟨c',Z2⟩:=zf x (dw O2);have:=ph x c' Z2;rw[ec]at this;cases this;exact⟨c,Z2,o,old _ _ ho,hd⟩
 ·obtain⟨v,o,ho,hd⟩:=I2.cell x c (ph x c e);exact⟨v,o,old _ _ ho,hd⟩
 ·have MO:p=(s₂.heap.objs.size,eM [] 0):=by simpa [dU]using hp
  subst MO;refine⟨gU,I2.bQ.fresh (aas _),aat (abb _),λz=>?_,λv z=>by cases z⟩;rcases List.mem_cons.mp (I2.ll _ z)with w | w
  ·exact absurd w (aaD I2.lt)
  ·exact I2.L9 (aas _) w
 ·show(sR n caps σ).length=(bD target++gX S caps).length;unfold sR;rw[List.length_append,List.length_append,List.length_replicate,List.length_map,cl1,co.n]
end
theorem ah.snoc{T:pH}{N:ir}{k:aL}:∀ {n:Nat} {vs:List V} {ds:List D} {v:V} {d:D},ah T N k n vs ds->Rep T N ((n+ds.length)::k) v d->ah T N k n (vs++[v]) (ds++[d])
 | n,_,_,_,_,.nil,h=>.cons h .nil
 | n,_,_,_,_,.cons (ds:=ds) h t,r=>.cons h (ah.snoc t (by
  have e:n+(ds.length+1)=n+1+ds.length:=by left
  rw[List.length_cons,e]at r;exact r))
open Classical in
theorem bR.snoc{K:PySem.W.Frag}{G R:Addr->Prop}{τ:Addr->Option aL}{fv:List Nat}{H H1 H2:Hp}{v:V}{d:D}{vs:List V}{ds:List D}(e1:ak H H1)(e2:ak H1 H2)(h:bR K G R τ fv H H1 vs ds)(t:bM K G R τ fv H1 H2 v d):
  bR K G R τ fv H H2 (vs++[v]) (ds++[d]):=by
 obtain⟨τ1,f1,h1⟩:=h;obtain⟨τ2,f2,h2⟩:=t;refine⟨λp=>if H1 p=none then(τ2 p).map (· ++ [ds.length])else τ1 p,λp q hq=>?_,ah.snoc (h1.imp (q:=[]) (q':=[]) (λ_ _ h=>aG.same e2 h) λc p xs f h=>?_) ((Nat.zero_add ds.length).symm▸h2.imp (q:=[]) (q':=[ds.length]) (λ_ _ h=>h) λc p xs f h=>?_)⟩
 ·dsimp only at hq;by_cases hp:H1 p=none
  ·exact e1.free hp
  ·rw[if_neg hp]at hq;exact f1 p q hq
 ·have h':=nd.same e2 h;cases f with
  | ow =>
   refine⟨h'.1,?_⟩;show(if H1 p=none then(τ2 p).map (· ++ [ds.length])else τ1 p)=_;rw[if_neg (h.1.ne)];exact h.2
  | fz=>exact h'
  | al=>exact h'
  | sc=>exact h'
 ·cases f with
  | ow =>
   refine⟨h.1,?_⟩;show(if H1 p=none then(τ2 p).map (· ++ [ds.length])else τ1 p)=_;rw[if_pos (f2 p _ h.2),h.2];simp
  | fz=>exact h
  | al=>exact h
  | sc=>exact h
structure Yl(K:PySem.W.Frag)(J:It)(R:Addr->Prop)(H1:Hp)(items:List D):Prop where
 go:∀ i H',ak H1 H'->i<items.length->J.go i H'
 yf:∀ i H' x oD,ak H1 H'->i<items.length->J.yf i H' x oD->ak H' oD/\∃ d,items[i]?=some d/\Rep (aG K oD) (nd K R (λ_=>False) (λ_=>none) oD) [] x d
 stop:∀ i H',ak H1 H'->items.length<=i->J.stop i H'
variable {C i1 i2 l1 l2:Addr}{s₂:Shared}
section
variable {X:Cx}{S:Sx}{k:Nat}{F:Addr->Prop}{Φ:au}
def nG(X:Cx)(F:Addr->Prop)(τ:Addr->Option aL)(fv:List Nat)(H2:Hp)(p:Addr):Prop:=H2 p≠none/\lM (gP X F) τ fv p
theorem yH{τt:Addr->Option aL}(Si:SI X F R τ ρ σ H)(fr:∀ p q,τt p=some q->H p=none)(hs:∀ i∈fv,i∈fv')(kp kq:aL)(p:Addr)(xs:Nd)(f:Fl)
  (h:nd X.K R (lM (gP X F) τ fv) τt H2 kp p xs f):nd X.K (nG X F τ fv' H2) (λ_=>False) (λ_=>none) H2 kq p xs (aC f):=by
 cases f with
 | ow=>exact⟨h.1,h.1.ne,.inr (Si.same.free (fr p _ h.2)),λc i e=>absurd (fr p _ h.2) (Si.th p _ e)⟩
 | fz=>exact⟨h.1,h.1.ne,Si.rf p h.2,λc i e=>by rw[Si.rt p h.2]at e;cases e⟩
 | al=>exact⟨h.1,h.1.ne,h.2.mono hs⟩
 | sc=>exact h
theorem GP{a:Addr}{q:aL}(hl:cV X.K H1 a xs)(rs:ah (aG X.K H1) (nd X.K R (λ_=>False) (λ_=>none) H1) q 0 xs items):Yl X.K (Pl X.K a) R H1 items where
 go:=λi H' e hi=>⟨xs,xs[i]'(by rw[rs.length];exact hi),e.seq hl,aay _⟩
 yf:=λi H' x oD e hi y=>by
  obtain⟨rfl,y⟩:=y;obtain⟨d,hd,rd⟩:=rs.zh (y xs (e.seq hl));refine⟨ak.refl _,d,hd,?_⟩;have:=Rep.jX (g:=id) (λ_ _ h=>h) nd.AS rd [];rw[fB]at this;exact this.imp (λ_ _ h=>aG.same e h) λ_ _ _ _ h=>nd.same e h
 stop:=λi H' e hi=>⟨xs,e.seq hl,by rw[rs.length];exact hi⟩
theorem Kz{a:Addr}{q:aL}(hl:aG X.K H1 a xs)(rs:ah (aG X.K H1) (nd X.K R (λ_=>False) (λ_=>none) H1) q 0 xs items):Yl X.K (Pk X.K a) R H1 items where
 go:=λi H' e hi=>⟨xs,xs[i]'(by rw[rs.length];exact hi),aG.same e hl,aay _⟩
 yf:=λi H' x oD e hi y=>by
  obtain⟨rfl,y⟩:=y;obtain⟨d,hd,rd⟩:=rs.zh (y xs (aG.same e hl));refine⟨ak.refl _,d,hd,?_⟩;have:=Rep.jX (g:=id) (λ_ _ h=>h) nd.AS rd [];rw[fB]at this;exact this.imp (λ_ _ h=>aG.same e h) λ_ _ _ _ h=>nd.same e h
 stop:=λi H' e hi=>⟨xs,aG.same e hl,by rw[rs.length];exact hi⟩
theorem KA{lo:Int}{n:Nat}:Yl X.K (CG lo n) R H1 ((List.range n).map λ(k:Nat)=>D.int (lo+(k:Int))) where
 go:=λi H' e hi=>by simpa [CG]using hi
 yf:=λi H' x oD e hi y=>by
  obtain⟨rfl,rfl⟩:=y;have mM:i<n:=by simpa using hi
  exact⟨ak.refl _,.int (lo+i),by rw[List.getElem?_map,List.getElem?_range mM];rfl,.int _⟩
 stop:=λi H' e hi=>by simpa [CG]using hi
theorem Dy{n:Nat}{t:Tg}{sc:Scope}{cl:List (Str×Addr)}(Si:SI X F R τ ρ σ H2)(hs:∀ i∈caps,i∈fv):
  SI (dU X (bD target++gX S caps) sc cl C s₂ H2 fp) (lM (gP X F) τ fv) (nG X F τ fv H2) (λ_=>none) (aM n caps ρ) (sR n caps σ) H2:=by
 refine⟨by simp[aM,sR],λi d hi=>?_,λ_ _=>rfl,λp h=>h.1,λp h=>.inl h.2,λ_ _ h=>by simp at h,λ_ _ h=>by simp at h,ak.refl _⟩;unfold aM at hi;have hn:n<=i:=by
  by_cases hn:i<n
  ·rw[List.getElem?_append_left (by simpa using hn),List.getElem?_replicate,if_pos hn]at hi;cases hi
  ·left
 rw[List.getElem?_append_right (by simpa using hn),List.length_replicate,List.getElem?_map]at hi;cases hc:caps[i - n]? with
 | none=>rw[hc]at hi;exact nk hi
 | some ci =>
  rw[hc]at hi;have mM:(ρ[ci]?.getD none).map (aq aC)=some d:=aaA hi;have hr:∃ d0,ρ[ci]?=some (some d0)/\aq aC d0=d:=by
   cases q:ρ[ci]? with
   | none=>rw[q]at mM;cases mM
   | some o =>
    cases o with
    | none=>rw[q]at mM;cases mM
    | some d0=>rw[q]at mM;exact⟨d0,rfl,aaA mM⟩
  obtain⟨d0,h0,rfl⟩:=hr;obtain⟨v,hv,rv⟩:=Si.rep ci d0 h0;refine⟨v,?_,Rep.jX (λ_ _ h=>h) (λkp kq p xs f h=>?_) ((rv.imp (q:=[ci]) (q':=[ci]) (N':=λq p xs f=>nd X.K R (λ_=>False) τ H2 q p xs f/\(f=.ow->∃ c,q=c++[ci])) (λ_ _ h=>h) λc p xs f h=>⟨h,λ_=>⟨c,rfl⟩⟩)) [i]⟩
  ·unfold sR;rw[List.getElem?_append_right (by simpa using hn),List.length_replicate,List.getElem?_map,hc];simp[hv]
  ·obtain⟨h,hq⟩:=h;cases f with
   | ow =>
    obtain⟨c,rfl⟩:=hq rfl;refine⟨h.1,h.1.ne,.inr (Si.t0 p _ h.2),λc' i' e=>?_⟩;rw[h.2]at e;have:=aaS List.getLast? (aaA e);simp at this;subst this;exact hs _ (aaB hc)
   | fz=>exact⟨h.1,h.1.ne,Si.rf p h.2,λc i e=>by rw[Si.rt p h.2]at e;cases e⟩
   | al=>exact h.2.elim
   | sc=>exact h
theorem Ek:∀ {es:List Expr},es.all isNm=true->∃ xs:List (Str×Pos),es=xs.map λx=>Expr.Name x.1 x.2
 | [],_=>⟨[],rfl⟩
 | e::es,h=>by
  rw[List.all_cons,Bool.and_eq_true]at h;obtain⟨xs,rfl⟩:=Ek h.2;cases e<;>simp[isNm]at h;exact⟨(_,_)::xs,rfl⟩
theorem yA(xs:List (Str×Pos)):(xs.map λx=>Expr.Name x.1 x.2).filterMap (λe=>match e with | .Name x _=>some x | _=>none)=xs.map (·.1):=by
 induction xs with
 | nil=>rfl
 | cons x xs ih=>simp[ih]
def Fw(i:Nat):Nat->JA
 | 0=>Nj
 | n+1=>Fx (rn i) (Fw (i+1) n)
theorem Am{X:Cx}(hN:X.N.Nodup):∀(xs:List (Str×Pos)) (i:Nat),(∀(j:Nat) x,xs[j]?=some x->X.N[i+j]?=some x.1/\X.env.scope.names.lookup x.1=some .local) ->
  Pj X (xs.map λx=>Expr.Name x.1 x.2) (Fw i xs.length)/\(assignEach (xs.map λx=>Expr.Name x.1 x.2) X.env).length=xs.length/\(assignEach (xs.map λx=>Expr.Name x.1 x.2) X.env).findIdx? (·.1)=none
 | [],_,_=>⟨Al,rfl,rfl⟩
 | x::xs,i,h=>by
  obtain⟨h1,h2,h3⟩:=Am hN xs (i+1) λj y hy=>by
   have:=h (j+1) y (by simpa using hy)
   rwa [show i+(j+1)=i+1+j by left]at this
  obtain⟨g1,g2⟩:=h 0 x rfl;refine⟨xf (uV hN g1 (.inl g2) (.inr g2)) h1 rfl,?_,?_⟩
  ·show(_::assignEach _ X.env).length=_;rw[List.length_cons,h2];rfl
  ·show(((false,assign (.Name x.1 x.2) X.env)::assignEach (xs.map λx=>Expr.Name x.1 x.2) X.env)).findIdx? (·.1)=none;rw[List.findIdx?_cons];simp[h3]
end
section
variable {X:Cx}{F R:Addr->Prop}{τ:Addr->Option aL}{ρ:aD}{σ σ':St}{H:Hp}
theorem SI.Qu{i:Nat}{v:V}{d:D}(Si:SI X F R τ ρ σ H)(rp:Rep (aG X.K H) (nd X.K R (λ_=>False) (λ_=>none) H) [] v d)(hi:i<ρ.length):SI X F R τ (ρ.set i (some d)) (σ.set i (some v)) H:=by
 refine⟨by simp[Si.len],λj d' hj=>?_,Si.rt,Si.rh,Si.rf,Si.th,Si.t0,Si.same⟩;by_cases la:j=i
 ·subst la;rw[List.getElem?_set_self hi]at hj;cases hj;refine⟨v,List.getElem?_set_self (by rw[<- Si.len];exact hi),rp.imp (q':=[j]) (λ_ _ h=>h) λc p xs f h=>?_⟩;cases f with
  | ow=>exact nomatch h.2
  | fz=>exact h
  | al=>exact h
  | sc=>exact h
 ·rw[List.getElem?_set_ne (Ne.symm la)]at hj;obtain⟨w,hw,mB⟩:=Si.rep j d' hj;exact⟨w,by rw[List.getElem?_set_ne (Ne.symm la)];exact hw,mB⟩
theorem SI.sig(Si:SI X F R τ ρ σ H)(hl:σ'.length=σ.length)(h:∀(i:Nat) d,ρ[i]?=some (some d)->σ'[i]?=σ[i]?):SI X F R τ ρ σ' H :=
 ⟨by rw[hl];exact Si.len,λi d hi=>let ⟨v,hv,r⟩:=Si.rep i d hi;⟨v,by rw[h i d hi];exact hv,r⟩,Si.rt,Si.rh,Si.rf,Si.th,Si.t0,Si.same⟩
theorem qw{Q:St->Hp->Prop}(σ0:St)(hi:Nat):∀ {m i:Nat} {vs:List V} {ds:List D} {kp:aL} {q:Nat} {σ:St} {ρ ρ':aD},i+m=hi->ah (aG X.K H) (nd X.K R (λ_=>False) (λ_=>none) H) kp q vs ds->SI X F R τ ρ σ H->jy (List.range' i m) ds ρ=ok ρ' ->
  σ.length=σ0.length->(∀ j,hi<=j->σ[j]?=σ0[j]?)->(∀ σ',σ'.length=σ0.length->(∀ j,hi<=j->σ'[j]?=σ0[j]?)->SI X F R τ ρ' σ' H->Q σ' H)->Fw i m vs σ H Q
 | 0,_,_,_,_,_,σ,_,_,_,.nil,Si,e,h1,h2,hq=>by
  cases e;exact⟨rfl,hq σ h1 h2 Si⟩
 | 0,_,_,_,_,_,_,_,_,_,.cons _ _,_,e,_,_,_=>by cases e
 | m+1,_,_,_,_,_,_,_,_,_,.nil,_,e,_,_,_=>by cases e
 | m+1,i,_,_,_,_,σ,ρ,_,him,.cons (v:=v) (d:=d) h t,Si,e,h1,h2,hq=>by
  change (if _ then _ else _)=_ at e;split at e
  ·rename_i mM;have fG:=Si.Qu (i:=i) (Rep.vd h) mM;refine⟨_,_,rfl,qw σ0 hi (by left) t fG e (by simpa using h1) (λj hj=>?_) hq⟩;rw[List.getElem?_set_ne (by left)];exact h2 j hj
  ·cases e
end
section
variable {X:Cx}{S:Sx}{k:Nat}{F:Addr->Prop}{Φ:au}
theorem KU{n:Nat}{t:Tg}{sc:Scope}{cl:List (Str×Addr)}(Sn:X.calm=true)(co:l7 S n t caps target sc):
  ∃ g,PG (dU X (bD target++gX S caps) sc cl C s₂ H2 fp) target g/\∀(F' R':Addr->Prop) (x:V) (d:D) (σ':St) (oD:Hp) (Q:St->Hp->Prop) (ρb ρ1:aD),
   SI (dU X (bD target++gX S caps) sc cl C s₂ H2 fp) F' R' (λ_=>none) ρb σ' oD->Rep (aG X.K oD) (nd X.K R' (λ_=>False) (λ_=>none) oD) [] x d->aI cL d=false->bT t d ρb=ok ρ1 ->
   (∀ σ2,σ2.length=σ'.length->(∀ j,n<=j->σ2[j]?=σ'[j]?)->SI (dU X (bD target++gX S caps) sc cl C s₂ H2 fp) F' R' (λ_=>none) ρ1 σ2 oD->Q σ2 oD)->g x σ' oD Q:=by
 have MT:∀ x∈bD target,(relabel sc X.env).names.lookup x=some .local:=λx hx=>lookup_relabel_local (co.tl x hx);rcases co.tg with ⟨x,p,rfl,rfl⟩ | ⟨es,kk,p,rfl,rfl,B9⟩
 ·have hn:n=1:=co.n;subst hn;refine⟨rn 0,uV co.nd rfl (.inl (MT x (List.mem_singleton.mpr rfl:x∈[x]))) (.inr (MT x (List.mem_singleton.mpr rfl:x∈[x]))),λF' R' v d σ' oD Q ρb ρ1 Si rp _ e hq=>?_⟩;simp only[bT]at e;split at e
  ·rename_i hi;cases e;refine hq _ (by simp) (λj hj=>?_) (Si.Qu rp hi);rw[List.getElem?_set_ne (by left)]
  ·cases e
 ·obtain⟨xs,rfl⟩:=Ek B9;have hN:bD (.Tuple (xs.map λx=>Expr.Name x.1 x.2) kk p)=xs.map (·.1):=yA xs;have hn:n=xs.length:=by rw[co.n,hN,List.length_map]
  have:=Am (X:=dU X (bD (.Tuple (xs.map λx=>Expr.Name x.1 x.2) kk p)++gX S caps) sc cl C s₂ H2 fp) co.nd xs 0 (λj y hy=>by
   refine⟨?_,MT y.1 (by rw[hN];exact List.mem_map.mpr ⟨y,aaB hy,rfl⟩)⟩;show(bD (.Tuple (xs.map λx=>Expr.Name x.1 x.2) kk p)++gX S caps)[0+j]?=_;have hj:j<xs.length:=by
    by_cases hj:j<xs.length
    ·exact hj
    ·rw[List.getElem?_eq_none (by left)]at hy;cases hy
   rw[hN,Nat.zero_add,List.getElem?_append_left (by simpa using hj),List.getElem?_map,hy];rfl)
  obtain⟨h1,h2,h3⟩:=this;refine⟨_,D0 Sn h1 h2 h3,λF' R' v d σ' oD Q ρb ρ1 Si rp ho e hq=>?_⟩;cases d<;>try (simp[bT]at e;done)
  rename_i ds;simp only[bT]at e;split at e
  ·cases e
  ·cases rp with
   | @tup _ a ys _ hp rs =>
    rw[List.length_map]at e;have e':jy (List.range' 0 xs.length) ds ρb=ok ρ1:=by rw[<- List.range_eq_range'];exact e
    refine⟨a,ys,rfl,hp,?_,qw (X:=dU X (bD (.Tuple (xs.map λx=>Expr.Name x.1 x.2) kk p)++gX S caps) sc cl C s₂ H2 fp) σ' n (by left) rs Si e' rfl (λ_ _=>rfl) hq⟩;rw[rs.length];have:∀(is:List Nat) (ds:List D) (ρ ρ':aD),jy is ds ρ=ok ρ'->ds.length=is.length:=by
     intro is;induction is with
     | nil=>intro ds ρ ρ' e;cases ds with | nil=>rfl | cons _ _=>cases e
     | cons i is ih=>intro ds ρ ρ' e;cases ds with
      | nil=>cases e
      | cons d ds =>
       change (if _ then _ else _)=_ at e;split at e
       ·simp[ih ds _ _ e]
       ·cases e
    rw[this _ _ _ _ e',List.length_range']
theorem Y0:∀ f:Fl,cL (aC f)=false:=by intro f;cases f<;>rfl
mutual
theorem HU:∀ d:D,aI cL (aq aC d)=false
 | .bh=>by simp[aq,aI]
 | .bl _=>by simp[aq,aI]
 | .int _=>by simp[aq,aI]
 | .tup ds=>by simp[aq,aI,iy ds]
 | .lst f ds=>by simp[aq,aI,iy ds,Y0]
 | .bY f ks vs=>by simp[aq,aI,iy vs,Y0]
theorem iy:∀ ds:List D,av cL (ag aC ds)=false
 | []=>by simp[ag,av]
 | d::ds=>by simp[ag,av,HU d,iy ds]
end
theorem AH{h:Heap}{a:Addr}{o:HO}(x:kT P w H h)(hn:H a=none)(new:b7 P w (upd H a o) h a o):kT P w (upd H a o) h:=λb u e=>by
 by_cases hb:b=a
 ·subst hb;rw[aH]at e;cases e;exact new
 ·rw[aA hb]at e;exact(x b u e).jO (λc v _ q=>q) (λc q=>by rw[aA (bz q hn)];exact q) λc xs q=>by rw[aA (bz q hn)];exact q
structure CAt(X X':Cx)(F' R':Addr->Prop)(n:Nat)(base:aD)(σ0:St)(fp:List Addr)(tn:Nat->Heap->Prop)(H2:Hp)(D:Addr)(items:List DI.D)(bind:DI.D->O aD)(test:aD->O Bool)(el:aD->O DI.D)(all:List DI.D)(m:Nat)(s':Shared):Prop where
 ex:∃(i:Nat) (vs:List V) (ao:List Value) (nn:Nat) (σ':St) (H':Hp) (dn rest:List DI.D),m=items.length - i/\i<=items.length/\Inv X' [(D,eM ao nn)] σ' H' s'/\tn i s'.heap/\(∀ b∈fp,H' b=none)/\Vals vs ao/\ak H2 H' /\
  SI X' F' R' (λ_=>none) base σ' H'/\bR X.K (gP X' F') R' (λ_=>none) [] H2 H' vs dn/\iF bind test el (items.drop i)=ok rest/\dn++rest=all
end
theorem bR.go(h:bR K G R τ fv H H1 vs ds)(e:ak H1 H2):bR K G R τ fv H H2 vs ds :=
 let ⟨τt,h1,h2⟩:=h;⟨τt,h1,h2.imp (λ_ _ h=>aG.same e h) λ_ _ _ _ h=>nd.same e h⟩
theorem qJ:∀ {ds:List D} {d:D},av cL ds=false->d∈ds->aI cL d=false
 | [],_,_,h=>nomatch h
 | e::ds,d,h,hm=>by
  rw[av,Bool.or_eq_false_iff]at h;rcases List.mem_cons.mp hm with rfl | z
  ·exact h.1
  ·exact qJ h.2 z
theorem BC{d:D}(h:nF d=ok items):∀ d∈items,aI cL d=false:=by
 unfold nF at h;split at h
 ·cases h;exact λd hd=>qJ (iy _) hd
 ·cases h
theorem yX{ik:IK}{xs:List D}(h:cS Φ ik xs=ok items):∀ d∈items,aI cL d=false:=by
 cases ik with
 | cw p=>obtain⟨d,_,h⟩:=af h;exact BC h
 | k9 =>
  cases xs with
  | nil=>cases h
  | cons x t=>cases x<;>first | (cases h;done) | (cases t with
   | cons _ _=>cases h
   | nil =>
    obtain⟨_,h⟩:=wq h;subst h;intro d hd;obtain⟨k,_,rfl⟩:=List.mem_map.mp hd;rfl)
 | seq =>
  cases xs with
  | nil=>cases h
  | cons x t=>cases x<;>first | (cases h;done) | (cases t with
   | cons _ _=>cases h
   | nil=>cases h;exact λd hd=>qJ (iy _) hd)
theorem zc{n:Nat}{i:Nat}{d:D}(h:(aM n caps ρ)[i]?=some (some d)):n<=i:=by
 unfold aM at h;by_cases hn:i<n
 ·rw[List.getElem?_append_left (by simpa using hn),List.getElem?_replicate,if_pos hn]at h;cases h
 ·left
variable {c' elt:CE}{ba cs es:List CE}
section
variable {X:Cx}{S:Sx}{k:Nat}{F:Addr->Prop}{Φ:au}
theorem Ex{n:Nat}{t:Tg}{sc:Scope}{cl:List (Str×Addr)}(L:Lk X S k Φ)(co:l7 S n t caps target sc):
  Lk (dU X (bD target++gX S caps) sc cl C s₂ H2 fp) (S.inner target caps sc) k Φ:=by
 refine⟨?_,rfl,co.nd,L.calm,L.room,L.bl,λf x h=>⟨(L.fn f x h).ex⟩,L.cs,L.pr⟩;show relabel sc X.env=w8 sc S.sc;rw[<- L.sc];rfl
theorem xT(L:Lk X S k Φ){n:Nat}{t:Tg}{ik:IK}{ifs:List Expr}{sc:Scope}(co:l7 S n t caps target sc)(CO:ff iter=true)
    (hE:∀(X':Cx) (F':Addr->Prop),Lk X' (S.inner target caps sc) k Φ->PE X' kW (tD X' F' Φ elt))
    (hC:(ba=[]/\ifs=[])\/∃ c e,ba=[c]/\ifs=[e]/\∀(X':Cx) (F':Addr->Prop),Lk X' (S.inner target caps sc) k Φ->PT X' e (iK X' F' Φ c))
    (hI:∀(pins:List (Addr×Obj)) (s:Shared) (σ:St) (H:Hp) (R:Addr->Prop) (τ:Addr->Option aL) (ρ:aD) (xs items:List D),Inv X pins σ H s->SI X F R τ ρ σ H->bL Φ es ρ=ok xs->cS Φ ik xs=ok items->∀ Rr:It->Hp->Prop,
      (∀ J H2,ak H H2->Yl X.K J (nG X F τ (caps++ck es) H2) H2 items->Rr J H2)->wpAny (model X.prog X.w) X.A (eval iter X.env) (λv s1=>wpAny (model X.prog X.w) X.A (pyIter v) (Gk X pins σ target Rr) X.xe s1) X.xe s)
    {use:Option (Value->Sem Unit)} {Post:Value->Shared->Prop} {pins:List (Addr×Obj)} {s:Shared} {d:D} {XI:Pos} (I:Inv X pins σ H s) (Si:SI X F R τ ρ σ H) (ev:aK Φ (.comp n t caps ik es ba elt) ρ=ok d)
    (RS:∀(acc C:Addr) (H1:Hp) (s1:Shared) (m:Str->Option Value),s1.heap.Ns C m->(C≠X.env.locals/\X.s₀.heap.objs.size<=C/\(∀ x c,X.env.cells.lookup x=some c->c≠C)/\(∀ p∈X.pn++pins,p.1≠C)/\H1 C=none)->(∀ h',Heap.SameBut C s1.heap h'->Inv X pins σ H1 { s1 with heap:=h' })->ak H H1 ->
      bM X.K (gP X F) R τ (iB (.comp n t caps ik es ba elt)) H H1 (.ref acc) d->compPost (model X.prog X.w) X.A X.xe use Post (.ref acc) C (.ok .next) s1) :
    wpAny (model X.prog X.w) X.A (comprehension (.ListComp kW [⟨target,iter,ifs,0⟩] sc pos) sc X.env XI (newList []) false (eval iter X.env) use) Post X.xe s:=by
  obtain⟨xs,bV,ev⟩:=af ev;obtain⟨items,zl,ev⟩:=af ev;obtain⟨ds,NS,ev⟩:=af ev;simp only[J8]at ev;obtain⟨xD,rfl⟩:=ev;have R4:=yX zl;obtain⟨cl,Sl,ph,zf⟩:=zp (env:=X.env) (sc:=sc) (λx hx=>I.ok.has x (by
    show X.env.scope.names.lookup x=some .cell\/X.env.scope.names.lookup x=some .free;rw[L.sc];exact co.free x hx))
  have q_:∀ x,foldedSetIterable iter X.env x=pure x:=by intro x;cases iter<;>first | rfl | (cases CO;done)
  refine wpAny_comprehension_free (use:=use) rfl q_ Sl co.kind co.loc (aaC (hI pins s σ H R τ ρ xs items I Si bV zl (λJ H2=>ak H H2/\Yl X.K J (nG X F τ (caps++ck es) H2) H2 items) (λJ H2 e y=>⟨e,y⟩)) (λxv s₁ h₁=>aaC h₁ (λWi s₂ h₂=>?_) λ_ _ e=>e) λ_ _ e=>e);obtain⟨it,fp,tn,J,H2,rfl,I2,T,Qm,f2,e2,yl⟩:=h₂;have Gg:=Si.go e2;have MU:∀ b∈fp,b<s₂.heap.objs.size:=λb hb=>let ⟨o,ho,_⟩:=T.obj 0 _ Qm b hb;aap ho;refine abj (wpAny_newFunctionEnv co.Ej (by intro y hy;simp at hy) (λh₁ vo qZ=>?_) co.kind);dsimp only at vo qZ ⊢;generalize Xc:s₂.heap.push { cls:=.type "list",dict:=none,data:=.seq ([]:List Value).toArray }=G2 at vo qZ ⊢;have ZT:G2.objs.size=s₂.heap.objs.size+1:=by rw[<- Xc,Heap.size_push]
  have UA:s₂.heap.objs.size≠s₂.heap.objs.size+1:=aat (abb _);rw[ZT]at vo qZ;have old:∀ b o,s₂.heap.get? b=some o->h₁.get? b=some o:=λb o e=>qZ.extBut b o (aat (aaM (aap e))) (aar _ (Xc▸aar _ e));have gU:h₁.get? s₂.heap.objs.size=some (eM [] 0):=qZ.extBut _ _ UA (aar _ (Xc▸aaw _ rfl))
  let X':=dU X (bD target++gX S caps) sc cl (s₂.heap.objs.size+1) s₂ H2 fp
  let F':=lM (gP X F) τ (caps++ck es)
  let R':=nG X F τ (caps++ck es) H2
  have L':Lk X' (S.inner target caps sc) k Φ:=Ex L co;have I4:=λtk=>EL (h₁:=h₁) (tk:=tk) L co I2 ph zf f2 MU (by simpa using vo) old gU;have S4:SI X' F' R' (λ_=>none) (aM n caps ρ) (sR n caps σ) H2:=Dy (t:=t) Gg (λi hi=>by simp[hi]);obtain⟨g,hg,B8⟩:=KU (X:=X) (S:=S) (cl:=cl) (fp:=fp) (s₂:=s₂) (H2:=H2) (C:=s₂.heap.objs.size+1) L.calm co;have Xd:s₂.heap.objs.size∉X'.fs:=λz=>by
    rcases List.mem_cons.mp (I2.ll _ z)with w | w
    · exact absurd w (aaD I2.lt)
    · exact I2.L9 (aas _) w
  have MV:∀ x c,cl.lookup x=some c->c≠s₂.heap.objs.size:=λx c e=>by
    obtain⟨v,q⟩:=I2.cell x c (ph x c e);exact aat q.lt
  have Iw:∀ b∈fp,b≠X'.env.locals/\b∉X'.fs/\(b∈X'.ex\/X'.s₀.heap.objs.size<=b)/\(∀ x c,X'.env.cells.lookup x=some c->c≠b):=λb hb =>
    ⟨aat (aaM (MU b hb)),λz=>by
      rcases List.mem_cons.mp (I2.ll b z)with w | w
      · exact(f2 b hb).2.1 w
      · exact(f2 b hb).2.2.1 w,.inl hb,λx c e=>(f2 b hb).2.2.2.2.1 x c (ph x c e)⟩
  have Sb:∀ b∈fp,b≠s₂.heap.objs.size:=λb hb=>aat (MU b hb);have fin:∀(vs:List V) (ao:List Value) (nn:Nat) (σ':St) (H':Hp) (s1:Shared),Inv X' [(s₂.heap.objs.size,eM ao nn)] σ' H' s1->Vals vs ao->ak H2 H'->bR X.K (gP X' F') R' (λ_=>none) [] H2 H' vs ds ->
      compPost (model X.prog X.w) X.A X.xe use Post (.ref s₂.heap.objs.size) (s₂.heap.objs.size+1) (.ok .next) s1:=by
    intro vs ao nn σ' H' s1 I1 rv sm Hz;obtain⟨m,hn,_⟩:=I1.loc;obtain⟨pD,nD,_,_,_⟩:=I1.pin (s₂.heap.objs.size,eM ao nn) (aav _ aao);have bs:=I1.base;have J2:∀ b o,s₂.heap.get? b=some o->b≠s₂.heap.objs.size+1:=λb o e=>aat (aaM (aap e));have neD:∀ b o,s₂.heap.get? b=some o->b≠s₂.heap.objs.size:=λb o e=>aat (aap e);have U6:∀ b u,H' b=some u->upd H' s₂.heap.objs.size (.lst vs) b=some u:=λb u e=>by rw[aA (bz e nD)];exact e
    have hlen:vs.length<=sizeLine:=by
      obtain⟨_,_,rr⟩:=Hz;have hz:sizeLine=16777216:=abi;have hc:iL=1000000:=rfl;rw[rr.length];left
    have IX:∀ h',Heap.SameBut (s₂.heap.objs.size+1) s1.heap h'->Inv X pins σ (upd H' s₂.heap.objs.size (.lst vs)) { s1 with heap:=h' }:=λh' EN=>by
      have un:Un (nP X.stack) fp H2 (upd H' s₂.heap.objs.size (.lst vs)) s₂.heap h' :=
        ⟨λb o e n hb hx=>EN.extBut b o (J2 b o e) (bs.keep b o e n hb hx),
         λb o e n hb hx=>let ⟨sl,q⟩:=bs.slot b o e n hb hx;⟨sl,EN.extBut b _ (J2 b o e) q⟩,
         λb o e n hx=>by rw[aA (neD b o e)];exact bs.free b o e n hx,
         λb o e hx=>let ⟨o',q⟩:=bs.there b o e hx;⟨o',EN.extBut b _ (J2 b o e) q⟩,
         λb xs e=>U6 b _ (bs.o5 b xs e),λb o u e=>U6 b _ (bs.nN b o u e),λb ps e=>let ⟨more,q⟩:=bs.o6 b ps e;⟨more,U6 b _ q⟩⟩
      have WL:kT X.prog X.w H' h':=λa o e=>(I1.bQ a o e).jO (λb u hb q=>EN.extBut b u (by
        rintro rfl;have hf:H' (s₂.heap.objs.size+1)=none:=I1.free;rcases hb with z | z
        · rw[<- z,hf]at e;cases e
        · rw[hf]at z;cases z) q) (λ_ q=>q) λ_ _ q=>q
      have WK:kT X.prog X.w (upd H' s₂.heap.objs.size (.lst vs)) h':=AH WL nD ⟨hlen,ao,nn,rv,EN.extBut _ _ UA pD⟩;exact I2.Ba (ch:=fp) I1.os un WK I1.bare λb hb=>⟨(f2 b hb).2.2.2.1,(f2 b hb).2.1,(f2 b hb).2.2.2.2.1,(f2 b hb).2.2.2.2.2⟩
    have eS:ak H' (upd H' s₂.heap.objs.size (.lst vs)):=ak.upd nD;obtain⟨τt,fr,rs⟩:=Hz;have V4:s₂.heap.objs.size+1≠s₂.heap.objs.size:=Nat.succ_ne_self _;refine RS s₂.heap.objs.size (s₂.heap.objs.size+1) _ s1 m hn ⟨aaD (aaM I2.lt),aci I2.sz,λx c e=>?_,λp hp=>?_,?_⟩ IX ((e2.trans sm).trans eS) ⟨λq=>if q=s₂.heap.objs.size then some []else τt q,λq z hz=>?_,.lst ⟨aH,by simp⟩ (ah.map (q:=[]) (q':=[]) (λ_ _ h=>aG.same eS h) (λc p ys f h=>?_) rs [] rfl)⟩
    · obtain⟨v,z⟩:=I2.cell x c e
      exact aat (aaM z.lt)
    · exact aat (aaM (aap (I2.pin p hp).1))
    · rw[aA V4];exact I1.free
    · by_cases ze:q=s₂.heap.objs.size
      · rw[ze];exact e2.free (sm.free nD)
      · simp only[ze,if_false]at hz;exact e2.free (fr q z hz)
    · have h':=nd.same eS h
      have Yo:∀ p,gP X' F' p->lM (gP X F) τ (caps++ck es) p:=λp hp=>hp.elim id λz=>⟨.inr (Gg.same.free z),λc i e=>absurd z (Gg.th p _ e)⟩
      cases f with
      | ow =>
        have ze:p≠s₂.heap.objs.size:=by
          intro z;subst z;exact h.1.ne nD
        refine⟨h'.1,?_⟩;show(if p=s₂.heap.objs.size then some []else τt p)=_;rw[if_neg ze];exact h'.2
      | fz=>exact⟨h'.1,h'.2.2⟩
      | al=>exact⟨h'.1,Yo p h'.2.1⟩
      | sc=>exact h'
  have tst:∀(P:List (Addr×Obj)) (ρ1:aD) (b:Bool) (σ2:St) (H5:Hp) (s6:Shared),jG Φ ba ρ1=ok b->Inv X' P σ2 H5 s6->SI X' F' R' (λ_=>none) ρ1 σ2 H5 ->
      wpAny (model X.prog X.w) X.A (forIn ifs true λc r=>if r=true then do let ok <- isTrue c X'.env (eval c X'.env);pure (ForInStep.yield ok)else pure (ForInStep.yield r)) (λVZ s7=>VZ=b/\∃ H7,Inv X' P σ2 H7 s7/\ak H5 H7) (λ_ _=>False) s6:=by
    intro P ρ1 b σ2 H5 s6 eb I6 S6;rcases hC with ⟨rfl,rfl⟩ | ⟨c,e,rfl,rfl,hPT⟩
    · rw[jG]at eb;cases eb
      exact wpAny_tests_nil ⟨rfl,H5,I6,ak.refl _⟩
    · rw[jG]at eb
      obtain⟨b',eb',eb⟩:=af eb;have hb:b'=b:=by
        cases b' with
        | true=>rw[if_pos rfl,jG]at eb;cases eb;rfl
        | false=>rw[if_neg (by simp)]at eb;cases eb;rfl
      subst hb;refine wpAny_tests_one (aaC (hPT X' F' L' P s6 σ2 H5 (λb'' H7=>b''=b'/\ak H5 H7) I6 ⟨R',_,ρ1,b',S6,eb',λH7 e7=>⟨rfl,e7⟩⟩) (λb'' s7 ⟨H7,I7,hb,e7⟩=>⟨hb,H7,I7,e7⟩) λ_ _ e=>e)
  have loop:∀ tk,codeAny (model X.prog X.w) X.A (.compLoop (.ListComp kW [⟨target,iter,ifs,0⟩] sc pos) 0 (.ref it) (.ref s₂.heap.objs.size) X'.env)
      (compPost (model X.prog X.w) X.A X.xe use Post (.ref s₂.heap.objs.size) (s₂.heap.objs.size+1)) { s₂ with heap:=h₁,toks:=tk }:=by
    intro tk;refine vH (CAt X X' F' R' n (aM n caps ρ) (sR n caps σ) fp tn H2 s₂.heap.objs.size items (λd=>bT t d (aM n caps ρ)) (λρ'=>jG Φ ba ρ') (λρ'=>aK Φ elt ρ') ds) ?_ items.length
      ⟨0,[],[],0,sR n caps σ,H2,[],ds,rfl,aaP _,I4 tk,T.keep _ _ _ Qm (λb _ o e=>old b o e),λb hb=>(f2 b hb).1,.nil,ak.refl _,S4,.nil,by rw[List.drop_zero];exact NS,rfl⟩
    rintro m s' ⟨i,vs,ao,nn,σ',H',dn,rest,hm,hi,I',o8,fr',rv,sm,fG,Hz,fX,eall⟩;have Nm:∀ b∈fp,sv X' [(s₂.heap.objs.size,eM ao nn)] H' b:=λb hb=>⟨fr' b hb,(Iw b hb).1,(Iw b hb).2.1,(Iw b hb).2.2.1,(Iw b hb).2.2.2,λp hp=>by
      have MO:p=(s₂.heap.objs.size,eM ao nn):=by simpa [X',dU]using hp
      rw[MO];exact(Sb b hb).symm⟩
    by_cases jI:i<items.length
    · refine aaC (T.item X' rfl rfl rfl L.calm i _ s' σ' H' (λ_ _=>False) I' Nm o8 (yl.go i H' sm jI)) (λr s1 h4=>?_) λ_ _ e=>e
      obtain⟨u,hr,h4⟩:=h4;subst hr;refine aaC h4 (λ_ s5 h5=>?_) λ_ _ e=>e;obtain⟨x,H5,I5,r5,y5,K7,XH⟩:=h5;obtain⟨e5,dd,hd,rd⟩:=yl.yf i H' x H5 sm jI y5;have Yz:=I5.pinned (fp:=fp) (λb hb=>⟨XH b hb,(Nm b hb).2⟩) (T.obj _ _ K7);have xy:items.drop i=dd::items.drop (i+1):=by
        rw[List.drop_eq_getElem_cons jI];rw[List.getElem?_eq_getElem jI]at hd;cases hd;rfl
      rw[xy,iF]at fX;obtain⟨ρ1,eb,fX⟩:=af fX;obtain⟨bb,et,fX⟩:=af fX;refine aaC (hg _ s5 σ' H5 x u (λσ2 H6=>H6=H5/\σ2.length=σ'.length/\(∀ j,n<=j->σ2[j]?=σ'[j]?)/\SI X' F' R' (λ_=>none) ρ1 σ2 H5) Yz r5
        (B8 F' R' x dd σ' H5 _ (aM n caps ρ) ρ1 (fG.go e5) rd (R4 dd (aaB hd)) eb λσ2 g1 g2 g3=>⟨rfl,g1,g2,g3⟩)) (λ_ s6 h6=>?_) λ_ _ e=>e
      obtain⟨σ2,H6,I6,rfl,g1,g2,S6⟩:=h6;refine aaC (tst _ ρ1 bb σ2 H6 s6 et I6 S6) (λVZ s7 h7=>?_) λ_ _ e=>e;obtain⟨rfl,H7,I7,e7⟩:=h7;have U9:∀ {P:List (Addr×Obj)} {σ3:St} {H8:Hp} {s8:Shared},Inv X' (P++jU fp s5.heap) σ3 H8 s8->tn (i+1) s8.heap/\∀ b∈fp,H8 b=none:=λ{P σ3 H8 s8} I8 =>
        ⟨T.keep _ _ _ K7 λb hb o e=>(I8.pin (b,o) (aav _ (aav _ (iW hb e)))).1,λb hb=>by
          obtain⟨o,e,_⟩:=T.obj _ _ K7 b hb;exact(I8.pin (b,o) (aav _ (aav _ (iW hb e)))).2.1⟩
      have Kq:∀ {H8:Hp},ak H7 H8->SI X' F' R' (λ_=>none) (aM n caps ρ) σ2 H8:=λ{H8} e8=>(fG.go ((e5.trans e7).trans e8)).sig g1 λj d hj=>g2 j (zc hj);cases VZ with
      | false =>
        rw[if_neg (by simp)]at fX ⊢;exact⟨items.length - (i+1),by left,i+1,vs,ao,nn,σ2,H7,dn,rest,rfl,jI,I7.mf,(U9 I7).1,(U9 I7).2,rv,(sm.trans e5).trans e7,Kq (ak.refl _),Hz.go (e5.trans e7),fX,eall⟩
      | true =>
        rw[if_pos rfl]at fX ⊢;obtain⟨y,ey,fX⟩:=af fX;obtain⟨ys,rE,fX⟩:=af fX;cases fX;refine aaC (hE X' F' L' _ s7 σ2 H7 (λv H8=>ak H7 H8/\bM X.K (gP X' F') R' (λ_=>none) [] H7 H8 v y) I7 ⟨R',_,ρ1,y,S6.go e7,ey,λv H8 e8 r8=>⟨e8,?_⟩⟩) (λu8 s8 h8=>?_) λ_ _ e=>e
        · obtain⟨τt,fr,rr⟩:=r8
          exact⟨τt,fr,rr.imp (q:=[]) (q':=[]) (λ_ _ h=>h) λc p ys f h=>h.mono id (λh=>⟨h.1,λ_ _ e=>by cases e⟩) id⟩
        · obtain⟨v8,H8,I8,rv8,e8,r8⟩:=h8
          obtain⟨pD,nD,_,_,_⟩:=I8.pin (s₂.heap.objs.size,eM ao nn) (aav _ (aaG _ aao));have hlen:ao.length<=1000000:=by
            obtain⟨_,_,rr⟩:=Hz;have h1:dn.length<=ds.length:=by rw[<- eall,List.length_append];left
            have hc:iL=1000000:=rfl;rw[<- rv.length,rr.length];left
          have hz:sizeLine=16777216:=abi;refine abw PySem.F.slot_list_append ⟨_,pD,rfl⟩ PySem.F.entry_list_append (PySem.F.args_list_append_2 _ _) (PySem.list_append s₂.heap.objs.size ao.toArray nn u8 (by rw[List.size_toArray];left)) ⟨pD,?_⟩;have q:=PySem.IsL.update pD (λx=>x.push u8);have RQ:ao.toArray.push u8=(ao++[u8]).toArray:=by simp
          rw[RQ]at q;obtain⟨Uk,q'⟩:∃ Uk,(s8.heap.update s₂.heap.objs.size (Obj.mapSeq λx=>x.push u8)).get? s₂.heap.objs.size=some (eM (ao++[u8]) Uk):=⟨_,q⟩
          have I8d:Inv X' (jU fp s5.heap) σ2 H8 s8:=I8.kD λp hp=>I8.pin p (aav _ (aav _ hp));have I8t:Inv X' (jU fp s5.heap) σ2 H8 { s8 with heap:=s8.heap.update s₂.heap.objs.size (Obj.mapSeq λx=>x.push u8),toks:=s8.toks } :=
            I8d.turned (it:=s₂.heap.objs.size) (λb o hb e=>(aaQ s8.heap (Obj.mapSeq λx=>x.push u8) (abv hb)).trans e) nD UA (.inr (aas _)) MV λp hp=>by
              have MO:p∈jU fp s5.heap:=by simpa [X',dU]using hp
              exact Sb p.1 (uc MO).1
          have kp:=U9 (P:=[]) (by rw[List.nil_append];exact I8t);refine⟨items.length - (i+1),by left,i+1,vs++[v8],ao++[u8],Uk,σ2,H8,dn++[y],ys,rfl,jI,I8t.kD (λp hp=>?_),kp.1,kp.2,rv.append (.cons rv8 .nil),((sm.trans e5).trans e7).trans e8,Kq e8,bR.snoc ((sm.trans e5).trans e7) e8 (Hz.go (e5.trans e7)) r8,rE,by rw[List.append_assoc];exact eall⟩;have MO:p=(s₂.heap.objs.size,eM (ao++[u8]) Uk):=by simpa using hp
          rw[MO];exact⟨q',nD,UA,Xd,λv z=>by cases z⟩
    · refine aaC (T.done X' rfl rfl rfl L.calm i _ s' σ' H' (λ_ _=>False) I' Nm o8 (yl.stop i H' sm (by left))) (λr s1 h1=>?_) λ_ _ e=>e
      obtain⟨hr,I1⟩:=h1;subst hr;have WR:items.drop i=[]:=List.drop_eq_nil_of_le (by left);rw[WR,iF]at fX;cases fX;rw[List.append_nil]at eall;subst eall;exact fin vs ao nn σ' H' s1 I1 rv sm Hz
  have key:=λtk=>codeAny_compStart_list (loop tk) (T.self X.A 0 _ _ _ (T.keep _ _ _ Qm λb _ o e=>old b o e) (loop tk));rw[ZT];exact key _
theorem Ho(L:Lk X S k Φ){n:Nat}{t:Tg}{ik:IK}{ifs:List Expr}{sc:Scope}(co:l7 S n t caps target sc)(CO:ff iter=true)
  (hE:∀(X':Cx) (F':Addr->Prop),Lk X' (S.inner target caps sc) k Φ->PE X' kW (tD X' F' Φ elt))
  (hC:(ba=[]/\ifs=[])\/∃ c e,ba=[c]/\ifs=[e]/\∀(X':Cx) (F':Addr->Prop),Lk X' (S.inner target caps sc) k Φ->PT X' e (iK X' F' Φ c))
  (hI:∀(pins:List (Addr×Obj)) (s:Shared) (σ:St) (H:Hp) (R:Addr->Prop) (τ:Addr->Option aL) (ρ:aD) (xs items:List D),Inv X pins σ H s->SI X F R τ ρ σ H->bL Φ es ρ=ok xs->cS Φ ik xs=ok items->∀ Rr:It->Hp->Prop,
   (∀ J H2,ak H H2->Yl X.K J (nG X F τ (caps++ck es) H2) H2 items->Rr J H2)->wpAny (model X.prog X.w) X.A (eval iter X.env) (λv s1=>wpAny (model X.prog X.w) X.A (pyIter v) (Gk X pins σ target Rr) X.xe s1) X.xe s) :
  PE X (.ListComp kW [⟨target,iter,ifs,0⟩] sc pos) (tD X F Φ (.comp n t caps ik es ba elt)):=by
 intro pins s σ H Q I hq;obtain⟨R,τ,ρ,d,Si,ev,hq⟩:=hq;rw[eval_ListComp];refine xT L co CO hE hC hI (use:=none) (Post:=EP X pins σ Q) I Si ev λacc C H1 s1 m hn _ IX sm rt=>?_;exact⟨m,hn,λh' EN=>⟨.ref acc,H1,IX h' EN,rfl,hq _ _ sm rt⟩⟩
end
section
variable {X:Cx}{pins:List (Addr×Obj)}{s:Shared}{σ:L2.St}{H:Hp}
theorem xq{A:Around}{E:Value->Shared->Prop}{l:Addr}{items:Array Value}{Q:Value->Shared->Prop}{s:Shared}(hl:s.heap.IsList l items)
  (h:∀ s₂:Shared,s₂={ s with heap:=s.heap.push { cls:=.type "list_iterator",data:=.fields #[.ref l,.int 0 0] } }->s₂.heap.IsListIter s.heap.objs.size l 0/\s₂.heap.IsList l items->(∀ b∈[s.heap.objs.size,l],b<s₂.heap.objs.size)->l≠s.heap.objs.size->Q (.ref s.heap.objs.size) s₂) :
  wpAny (model prog w) A (pyIter (.ref l)) Q E s:=by
 have jI:l<s.heap.objs.size:=by obtain⟨_,e,_⟩:=hl;exact aap e
 refine wpAny_pyIter_list hl (h _ rfl ⟨⟨_,aaw _ rfl,rfl,rfl⟩,hl.push _⟩ (λb hb=>?_) (aat jI));have hz:(s.heap.push { cls:=.type "list_iterator",data:=.fields #[.ref l,.int 0 0] }).objs.size=s.heap.objs.size+1:=Heap.size_push ..;have xG:b=s.heap.objs.size\/b=l:=by simpa using hb
 show b<_;rw[hz];rcases xG with e | e
 ·rw[e];exact abb _
 ·rw[e];exact aaM jI
theorem xp{o₀:Obj}{s:Shared}(hk:∀ b o,b∉[s.heap.objs.size]->(s.heap.push o₀).get? b=some o->h'.get? b=some o):∀ b o,s.heap.get? b=some o->h'.get? b=some o:=λb o e =>
 hk b o (λhm=>absurd ((by simpa using hm:b=s.heap.objs.size)▸aap e) (aaF _)) (aar _ e)
theorem d_{h:Heap}{a:Addr}{ao:Array Value}(p:PlainL h a ao):h.IsList a ao:=let ⟨o,n,h1,h2,_,h4⟩:=p;⟨o,h1,h2,n,h4⟩
theorem oS(val:Nat->Int)(ns:List Int)(hv:∀ i,val i=ns.getD i 0):∀ k,k<=ns.length->preSum val k=(ns.take k).sum
 | 0,_=>by simp[preSum]
 | k+1,h=>by
  have hk:k<ns.length:=by left
  rw[preSum,oS val ns hv k (by left),hv k,List.take_add_one,List.sum_append];simp[List.getD,hk]
theorem Cz(hc:X.calm=true):gj X (.builtin "sum") (λxs H Q=>∃(p:Addr) (ns:List Int),xs=[.ref p]/\cV X.K H p (ns.map V.int)/\Q (.int ns.sum) H):=by
 intro pins s σ H xs us Q I r h;obtain⟨p,ns,rfl,hq,q⟩:=h;obtain⟨u,rfl,ru⟩:=r.one;cases ru;obtain⟨ao,rv,pl,hz⟩:=I.list hq;have hlen:ao.length=ns.length:=by have:=rv.length;simpa using this.symm
 refine call_sum_walkG (xq (d_ pl) λs₂ e st Iy WW=>?_);subst e;refine⟨_,_,_,_,_,_,λi=>ns.getD i 0,rfl,Walks.list (A:=X.A.in1) (I.ok.hd hc) _ p WW ao.toArray,st,Iy,λi v hP=>?_,λh' tk t' hk=>?_⟩
 ·have hv:ao[i]?=some v:=by simpa using hP
  have hi:i<ao.length:=by
   by_cases z:i<ao.length
   ·exact z
   ·rw[List.getElem?_eq_none (by left)]at hv;cases hv
  have hn:(ns.map V.int)[i]?=some (.int (ns.getD i 0)):=by
   rw[List.getElem?_map,List.getElem?_eq_getElem (by left)];simp[List.getD,show i<ns.length by left]
  obtain⟨u,hu,ru⟩:=rv.get hn;rw[hv]at hu;cases hu;exact ru
 ·refine⟨.int ns.sum,H,I.kept (t':=tk) (xp hk),⟨t',?_⟩,q⟩;have hz:preSum (λi=>ns.getD i 0) ao.toArray.size=ns.sum:=by
   rw[List.size_toArray,hlen,oS _ ns (λ_=>rfl) _ (Nat.le_refl _),List.take_length]
  rw[hz]
theorem range_all{α:Type}(l:List α)(f:α->Bool)(tr:Nat->Bool)(h:∀ i a,l[i]?=some a->tr i=f a):(List.range l.length).all tr=l.all f:=by
 rw[Bool.eq_iff_iff,List.all_eq_true,List.all_eq_true];constructor
 ·intro z a ha;obtain⟨i,hi,e⟩:=List.mem_iff_getElem.mp ha;have:=z i (List.mem_range.mpr hi);rw[h i a (by rw[List.getElem?_eq_getElem hi,e])]at this;exact this
 ·intro z i hi;have hi:=List.mem_range.mp hi;rw[h i l[i] (List.getElem?_eq_getElem hi)];exact z _ (abL hi)
theorem CB(hc:X.calm=true):gj X (.builtin "all") (λxs H Q=>∃(p:Addr) (bs:List Bool),xs=[.ref p]/\cV X.K H p (bs.map V.bl)/\Q (.bl (bs.all id)) H):=by
 intro pins s σ H xs us Q I r h;obtain⟨p,bs,rfl,hq,q⟩:=h;obtain⟨u,rfl,ru⟩:=r.one;cases ru;obtain⟨ao,rv,pl,hz⟩:=I.list hq;have hlen:ao.length=bs.length:=by have:=rv.length;simpa using this.symm
 refine call_all_walk (xq (d_ pl) λs₂ e st Iy WW=>?_);subst e;refine⟨_,_,_,_,_,_,λi=>bs.getD i false,rfl,Walks.list (A:=X.A.in1) (I.ok.hd hc) _ p WW ao.toArray,st,λi v s' Q' E' hP hQ=>?_,λh' tk hk=>?_⟩
 ·have hv:ao[i]?=some v:=by simpa using hP
  have hi:i<ao.length:=by
   by_cases z:i<ao.length
   ·exact z
   ·rw[List.getElem?_eq_none (by left)]at hv;cases hv
  have hn:(bs.map V.bl)[i]?=some (.bl (bs.getD i false)):=by
   rw[List.getElem?_map,List.getElem?_eq_getElem (by left)];simp[List.getD,show i<bs.length by left]
  obtain⟨u,hu,ru⟩:=rv.get hn;rw[hv]at hu;cases hu;cases ru;exact aaZ hQ
 ·refine⟨.bl (bs.all id),H,I.kept (t':=tk) (xp hk),?_,q⟩;show Value.bool _=Value.bool _;rw[List.size_toArray,hlen,range_all bs id _ λi a e=>by simp[List.getD,e]]
end
variable {ns:List Int}
section
variable {prog:Program}{w:World}{A:Around}{E:Value->Shared->Prop}{s:Shared}
theorem rN{l:Addr}{vs:List Value}{Q:List Value->Shared->Prop}{o:Obj}{n:Nat}(ho:s.heap.get? l=some o)(hc:o.cls=.type "tuple")(hd:o.data=.seq vs.toArray n)
  (h:Q vs { s with heap:=(s.heap.push (seqObj "list" #[] 0)).update s.heap.objs.size (Obj.mapSeq (· ++ vs.toArray)) }) (hsz:vs.length<=sizeLine):wpAny (model prog w) A (collect (.ref l)) Q E s:=by
 unfold collect;refine aah (wpAny_runValue (abg entry_proto_collect' ?_));show wpAny _ _ (newList [] >>= λz=>again (.builtin "list.__iadd__" ⟨[z,.ref l],[]⟩)) _ _ s;refine aah (acf (aaq ⟨aca _ (by decide +kernel),abg entry_list_iadd' ?_⟩));have z1:(s.heap.push (seqObj "list" #[] 0)).get? l=some o:=aar _ ho;have z2:(s.heap.push (seqObj "list" #[] 0)).get? s.heap.objs.size=some (seqObj "list" #[] 0):=aaw _ rfl;show wpAny _ _ (Builtin.List.listExtendWith (.ref s.heap.objs.size) (.ref l) (.ref s.heap.objs.size)) _ _ ({ s with heap:=s.heap.push (seqObj "list" #[] 0) }:Shared);unfold Builtin.List.listExtendWith;refine aah (wpAny_typeOf (T:="tuple") ⟨o,z1,hc⟩ ?_);rw[aa3 (by rw[show(Value.type "tuple" == Value.type "tuple")=true from rfl,Bool.or_true])];refine aah (listItems_at z1 hd (aah (listItems_at z2 rfl ?_)));rw[if_neg (by simp)];refine aah (listUpdate_at z2 rfl ?_ (aaP _) (by
  show(#[]++vs.toArray).size<=sizeLine+1;rw[Array.size_append,List.size_toArray];exact aci (by simpa using hsz)))
 refine aaq ?_;show wpAny (model prog w) A (load s.heap.objs.size >>= λo=>match o.data with
   | .seq xs _=>pure xs.toList
   | _=>unsupported "internal:collect") Q E ({ s with heap:=(s.heap.push (seqObj "list" #[] 0)).update s.heap.objs.size (Obj.mapSeq (· ++ vs.toArray)) }:Shared)
 refine aah (wpAny_load (get?_update_seq z2 _) ?_);show wpAny _ _ (pure ((#[]:Array Value)++vs.toArray).toList) Q E _;rw[show((#[]:Array Value)++vs.toArray).toList=vs by simp];exact aaq h
theorem sP{l:Addr}{vs:List Value}{Q:Value->Shared->Prop}{o:Obj}{n:Nat}(ho:s.heap.get? l=some o)(hc:o.cls=.type "tuple")(hd:o.data=.seq vs.toArray n)(hI:IntsAre vs ns)(wt:vs.length<64)
  (h:∀(out:Array Value) (nq:List Int),IntsAre out.toList nq->nq.Perm ns->nq.Pairwise (· <= ·)->Q (.ref (s.heap.objs.size+1)) { s with heap:=sortedAll s.heap vs out }):wpAny (model prog w) A (call (.builtin "sorted") [.ref l]) Q E s:=by
 refine Calls.call_function_entry kind_sorted plain_sorted entry_sorted (args_sorted1 _) ?_;unfold Builtin.«sorted»;have hz:vs.length<=sizeLine:=by rw[sizeLine_eq];left
 refine aah (m:=checkCount "sorted" 1 1 _) (aaq (aah (rN ho hc hd (aah (acf ?_)) hz)));have e1:((s.heap.push (seqObj "list" #[] 0)).update s.heap.objs.size (Obj.mapSeq (· ++ vs.toArray))).objs.size=s.heap.objs.size+1:=by rw[Heap.size_update,size_push']
 have e2:(((s.heap.push (seqObj "list" #[] 0)).update s.heap.objs.size (Obj.mapSeq (· ++ vs.toArray))).push (seqObj "list" vs.toArray 0)).get? (s.heap.objs.size+1)=some (seqObj "list" vs.toArray 0):=by
  rw[<- e1];exact aaw _ rfl
 show wpAny _ _ _ _ _ ({ s with heap:=((s.heap.push (seqObj "list" #[] 0)).update s.heap.objs.size (Obj.mapSeq (· ++ vs.toArray))).push (seqObj "list" vs.toArray 0) }:Shared);rw[e1];refine aah (aaO (aa5 slot_list_sort ⟨_,e2,rfl⟩ entry_list_sort (list_sort_tree e2 hI wt λout nq a1 a2 a3=>⟨_,rfl,aaq ⟨_,rfl,h out nq a1 a2 a3⟩⟩) (args_list_sort _)))
end
theorem sortI_perm(ns:List Int):(sortI ns).Perm ns:=aa4 ..
theorem Dv(ns:List Int):(sortI ns).Pairwise (· <= ·):=by
 have:=List.pairwise_mergeSort (le:=λa b:Int=>decide (a<=b)) (by intro a b c;simp;left) (by intro a b;simp;left) ns;unfold sortI;simpa using this
theorem dF:∀ {vs:List Value} {ns:List Int},Vals (ns.map V.int) vs->IntsAre vs ns
 | _,[],h=>by cases h;exact .nil
 | _,n::ns,h=>by
  cases h with
  | cons r t=>obtain⟨tk,rfl⟩:=r;exact .cons n tk (dF t)
theorem vW:gj X (.builtin "sorted") (λxs H Q=>∃(p:Addr) (ns:List Int),xs=[.ref p]/\(cV X.K H p (ns.map V.int)\/aG X.K H p (ns.map V.int))/\ns.length<64/\∀ l,H l=none->Q (.ref l) (upd H l (.lst ((sortI ns).map V.int)))):=by
 intro pins s σ H xs us Q I r h;obtain⟨p,ns,rfl,hq,wt,q⟩:=h;obtain⟨u,rfl,ru⟩:=r.one;cases ru;have fin:∀(vs:List Value) (out:Array Value) (nq:List Int),IntsAre out.toList nq->nq.Perm ns->nq.Pairwise (· <= ·)->EP X pins σ Q (.ref (s.heap.objs.size+1)) { s with heap:=sortedAll s.heap vs out }:=by
  intro vs out nq h1 h2 h3;obtain rfl:nq=sortI ns:=PySem.W.ksm_same (h2.trans (sortI_perm ns).symm) h3 (Dv ns);obtain⟨e,he⟩:=sortedAll_at s.heap vs out;have hn:H (s.heap.objs.size+1)=none:=I.bQ.fresh (abE _);refine⟨.ref (s.heap.objs.size+1),upd H (s.heap.objs.size+1) (.lst ((sortI ns).map V.int)),I.laid (t':=s.toks) (λb u z=>sortedAll_old z) (abE _) ⟨?_,out.toList,e,nv h1,by simpa using he⟩,rfl,q _ hn⟩;rw[List.length_map,(sortI_perm ns).length_eq,sizeLine_eq];left
 rcases hq with hq | hq
 ·obtain⟨ao,rv,pl,hz⟩:=I.list hq;have hl:ao.length<64:=by rw[<- rv.length];simpa using wt
  exact sorted_ints (d_ pl) (dF rv) hl λout nq h1 h2 h3=>fin ao out nq h1 h2 h3
 ·obtain⟨ao,rv,⟨o,ho,hc,n,hd⟩,hz⟩:=I.tuple hq;have hl:ao.length<64:=by rw[<- rv.length];simpa using wt
  exact sP ho hc hd (dF rv) hl λout nq h1 h2 h3=>fin ao out nq h1 h2 h3
theorem C_:isSubtype (.type "tuple") (.type "set")=pure false:=by rw[isSubtype_type];kernel_rfl
theorem wD:isSubtype (.type "tuple") (.type "frozenset")=pure false:=by rw[isSubtype_type];kernel_rfl
noncomputable abbrev o9(led:Bool):Obj:={ cls:=.type "set",dict:=none,data:=.set #[] 0 (.fresh 0 0 led) }
noncomputable abbrev dist(ns:List Int):List Int:=firstMet (λi=>ns.getD i 0) ns.length
section
variable {prog:Program}{w:World}{A:Around}{E:Value->Shared->Prop}{s:Shared}
theorem yG{l:Addr}{ao:List Value}{Q:Value->Shared->Prop}(hh:A.handled=none)(hl:s.heap.IsTuple l ao.toArray)(hi:IntsAre ao ns)(hb:ao.length+1<scanBound)
  (h:∀(h':Heap) (tk:Nat),h'.SetOf (intKind prog w) s.heap.objs.size (λk=>(dist ns).any (· == k)) (dist ns).length->(∀ b o,b<s.heap.objs.size->s.heap.get? b=some o->h'.get? b=some o)->Q (.ref s.heap.objs.size) { s with heap:=h',toks:=tk }) :
  wpAny (model prog w) A (call (.type "set") [.ref l]) Q E s:=by
 have hnl:ao.length=ns.length:=hi.length;obtain⟨c,tl,k1⟩:=F.called_set.mro;have k2:=F.called_set.made;have k3:=F.called_set.sub;have k4:=F.called_set.notType;have k5:=F.called_set.canCreate;have k6:=F.typeCall_set_1 (.ref l);refine wpAny_call (codeAny_of_tree (show wpAny _ _ (callAny (.type "set") _) _ _ _ from aaq ⟨aca _ (by decide +kernel),abg F.entry_type_call ?_⟩));rw[Around.under_plain (weight_type_call_type "set" [.ref l] []) rfl]
 repeat (any_goals (first | assumption | wp_step))
 refine abV (code_set_new_1 (.ref l) (E:=E) (Q₁:=λz s₁=>∃ led:Bool,z=.ref s.heap.objs.size/\s₁={ s with heap:=s.heap.push (o9 led) }) λled=>⟨led,rfl,rfl⟩) λr s₁ hr=>?_;cases r with
 | error e=>exact hr
 | ok fl =>
  cases fl with
  | next=>exact hr.elim
  | brk=>exact hr.elim
  | cont=>exact hr.elim
  | ret z =>
   obtain⟨led,rfl,rfl⟩:=hr;have g1:(s.heap.push (o9 led)).get? s.heap.objs.size=some (o9 led):=aaw _ rfl;have g2:Shared.TypeIs { s with heap:=s.heap.push (o9 led) } (.ref s.heap.objs.size) "set":=⟨_,g1,rfl⟩
   have g3:=F.called_set.init.lookup;have g4:=F.called_set.init.bind (.ref s.heap.objs.size)
   repeat (any_goals (first | assumption | wp_step))
   refine abV (ab1 (R:=wants (λr s₂=>r=.none/\∃ h' tk,s₂={ s with heap:=h',toks:=tk }/\h'.SetOf (intKind prog w) s.heap.objs.size (λk=>(dist ns).any (· == k)) (dist ns).length/\∀ b o,b<s.heap.objs.size->s.heap.get? b=some o->h'.get? b=some o) E) F.called_set.init.plain F.entry_set_init (check_set_init_1 g2 ?_)) λr₂ s₂ xw=>?_
   ·obtain⟨ot,Zy,ZL,nt,ZH⟩:=hl;obtain⟨oc,od,odt,Ea⟩:=ot;simp only at ZL ZH;subst ZL;subst ZH;have u1:(s.heap.push (o9 led)).get? l=some { cls:=.type "tuple",dict:=od,data:=.seq ao.toArray nt,slots:=Ea }:=aar _ Zy;have u2:=C_;have u3:=wD;have u4:(Value.type "tuple" == Value.type "dict")=false:=by decide
    have u5:(s.heap.push (o9 led)).IsTuple l ao.toArray:=⟨_,u1,rfl,nt,rfl⟩
    unfold Builtin.«set.__init__» noKeywords Builtin.Frozenset.updateFrom;generalize hPI:pyIter=PI
    wp_walk
    subst hPI;refine wpAny_pyIter_tuple u5 (aah (wpAny_runValue ?_));have u6:l<s.heap.objs.size:=aap Zy;have u7:A.in1.in1.in1.handled=none:=by simp[hh]
    have hz:(s.heap.push (o9 led)).objs.size=s.heap.objs.size+1:=Heap.size_push ..;have u8:l≠(s.heap.push (o9 led)).objs.size:=by rw[hz];exact aat (aaM u6)
    have u9:s.heap.objs.size∉[(s.heap.push (o9 led)).objs.size,l]:=by
     rw[hz];intro m;simp at m;exact absurd m (aaD u6)
    have v1:∀(i:Nat) (v:Value),ao.toArray[i]?=some v->∃ t,v=.int ((λi=>ns.getD i 0) i) t:=λi v hv=>hi.int_at i v (by simpa using hv);refine codeAny_set_update_loopS ((Walks.tuple u7 _ l u8 ao.toArray).toS) s.heap.objs.size u9 (λi=>ns.getD i 0) v1 (by rw[List.size_toArray];exact hb) (ao.toArray.size - 0) 0 _ (by left) (aaP _) ⟨⟨_,aaw _ rfl,rfl,rfl⟩,u5.push _⟩ ?hS0 ?hR
    case hS0 =>
     have y1:((s.heap.push (o9 led)).push { cls:=.type "tuple_iterator",data:=.fields #[.ref l,.int 0 0] }).get? s.heap.objs.size=some (o9 led):=aar _ g1;exact SetOf_congr ((setObjOf_fresh (knd:=intKind prog w) led).setOf y1 (by unfold scanBound;left)) (λ_=>rfl) rfl
    case hR =>
     intro s' hm Cc;obtain⟨h',g',d',tk',VT⟩:=s';cases (show g'=s.gens from hm.gens);cases (show d'=s.drawn from hm.drawn);cases (show VT=s.os from hm.os);have Cc:h'.SetOf (intKind prog w) s.heap.objs.size (λk=>(dist ns).any (· == k)) (dist ns).length:=by
      have e:ao.toArray.size=ns.length:=by rw[List.size_toArray,hnl]
      rw[e]at Cc;exact Cc
     refine aaq (show wpAny _ _ (ret Value.none) _ _ _ from aaq ⟨rfl,h',tk',rfl,Cc,λb o hb e=>hm.heap b o (λm=>?_) (aar _ (aar _ e))⟩);rcases List.mem_cons.mp m with m | m
     ·exact aat hb m
     ·have m:b=(s.heap.push (o9 led)).objs.size:=by simpa using m
      rw[hz]at m;exact aat (aaM hb) m
   ·cases r₂ with
    | error e=>exact xw
    | ok SN =>
     cases SN with
     | ret r =>
      obtain⟨rfl,h',tk,rfl,Cc,ZD⟩:=xw
      repeat (any_goals (first | assumption | wp_step))
      exact h _ _ Cc ZD
     | next=>exact xw.elim
     | brk=>exact xw.elim
     | cont=>exact xw.elim
end
theorem FV(ns:List Int):dist ns=vG ns:=by
 unfold dist firstMet vG;have e:(List.range ns.length).map (λi=>ns.getD i 0)=ns:=by
  refine abM (by simp) λi h1 h2=>?_;simp at h1;simp[h1]
 rw[e];rfl
def rLs(K:PySem.W.Frag):List V->Hp->VK->Prop:=λxs H Q=>∃(p:Addr) (ns:List Int),xs=[.ref p]/\aG K H p (ns.map V.int)/\ns.length<4000/\Q (.int (vG ns).length) H
theorem boot_set:bootBuiltins ("set" : Str)=some (.type "set"):=by decide +kernel
theorem HJ{e:Expr}{t:TA}{p:Pos}(hc:X.calm=true)(W2:Gl X ("len" : Str))(hm1:X.mg ("len" : Str)=none)(hg2:Gl X ("set" : Str))(hm2:X.mg ("set" : Str)=none)(ha:PA X [e] t)
  (pZ:∀ es,starEach (e::es) X.env=(false,eval e X.env)::starEach es X.env):PE X (.Call (.Name ("len" : Str) p) [.Call (.Name ("set" : Str) p') [e] [] pos'] [] pos) (Qb (rLs X.K) t):=by
 intro pins s σ H Q I h;refine aa7 (gT I W2 hm1 PySem.boot_len ?_ (by decide) (by decide));refine PyProof.Rows.callWith_builtin1 ?_ rfl rfl;show wpAny _ _ (spliced ((false,eval (.Call (.Name ("set" : Str) p') [e] [] pos') X.env)::[])) _ _ s;refine ab_ ?_;refine aa7 (gT I hg2 hm2 boot_set ?_ (by decide) (by decide));refine aaH (cI (ha pos' pins s σ H _ I h) λus s1 ⟨vs,H1,I1,r1,q1⟩=>?_) (pZ _) rfl;obtain⟨a,ns,rfl,hq,hl,q⟩:=q1;obtain⟨u,rfl,ru⟩:=r1.one;cases ru;obtain⟨ao,rv,it,hz⟩:=I1.tuple hq;have hle:ao.length=ns.length:=by rw[<- rv.length];simp
 refine yG (I1.ok.hd hc) it (dF rv) (by unfold scanBound;left) λh' tk hS kp=>ach ?_;rw[FV]at hS;obtain⟨o,es,ep,tb,g1,g2,g3,_,_,g6,g7,g8⟩:=hS;refine call_len_set g1 g2 g3 g7 (by unfold scanBound at g6;omega) ?_;exact⟨.int (vG ns).length,H1,I1.kept (t':=tk+1+1) λb u z=>kp b u (aap z) z,⟨_,by rw[g8]⟩,q⟩
section
variable {X:Cx}{S:Sx}{k:Nat}{F:Addr->Prop}{Φ:au}
theorem Lk.YK(L:Lk X S k Φ):X.A.units+40<cLine:=by have:=L.room.units;left
def T3(K:PySem.W.Frag)(neg:Bool):R2:=λv u H Q=>∃(d d':D) (N N':ir) (k k':aL),Rep (aG K H) N k v d/\Rep (aG K H) N' k' u d'/\(∀ q p xs f,N q p (.l xs) f->cV K H p xs)/\(∀ q p xs f,N' q p (.l xs) f->cV K H p xs)/\cQ 40 d=true/\cQ 40 d'=true /\
 Q (.bl (if neg then !jH d d' else jH d d')) H
theorem L3(hu:X.A.units+40<cLine):lh X (compareOp .Eq) (T3 X.K false):=by
 intro pins s σ H x y v u Q I rx ry h;obtain⟨d,d',N,N',k,k',r1,r2,n1,n2,o1,o2,q⟩:=h;exact(alike I n1 n2 40 X.A r1 r2 o1 o2 rx ry hu).rc X.prog X.w X.xe _ ⟨.bl _,H,I,rfl,q⟩
theorem L0(hu:X.A.units+40<cLine):lh X (compareOp .NotEq) (T3 X.K true):=by
 intro pins s σ H x y v u Q I rx ry h;obtain⟨d,d',N,N',k,k',r1,r2,n1,n2,o1,o2,q⟩:=h;exact(alike I n1 n2 40 X.A r1 r2 o1 o2 rx ry hu).ne X.prog X.w X.xe _ ⟨.bl _,H,I,rfl,q⟩
theorem DN{N N':ir}{k:aL}{v v':V}{d d':D}(h:Rep T N k v d)(h':Rep T' N' k' v' d')(f:jF d=true)(f':jF d'=true):j4 v=true/\GA v v'=jH d d':=by
 cases h<;>first | (cases f;done) | (cases h'<;>first | (cases f';done) | exact⟨rfl,by simp[GA,jH]⟩)
theorem t8{N:ir}{k:aL}{v:V}{d:D}(h:Rep T N k v d)(f:jF d=true):j4 v=true:=by
 cases h<;>first | (cases f;done) | rfl
theorem uS{T T':pH}{N N':ir}{k':aL}{v:V}{d:D}(hv:Rep T' N' k' v d)(f:jF d=true):∀ {k:aL} {n:Nat} {xs:List V} {ds:List D},ah T N k n xs ds->ds.all jF=true->xs.all j4=true/\Ur v xs=inD d ds
 | _,_,_,_,.nil,_=>⟨rfl,rfl⟩
 | _,_,_,_,.cons h t,fs=>by
  rw[List.all_cons,Bool.and_eq_true]at fs;obtain⟨h1,h2⟩:=uS hv f t fs.2;obtain⟨g1,g2⟩:=DN h hv fs.1 f;refine⟨by rw[List.all_cons,g1,h1];rfl,?_⟩;unfold Ur at h2 ⊢;rw[List.any_cons,g2,h2];rfl
def Lw(K:PySem.W.Frag)(op:CV):R2:=match op with
 | .eq=>T3 K false
 | .ne=>T3 K true
 | .lt=>DR λi j=>.bl (decide (i<j))
 | .le=>DR λi j=>.bl (decide (i<=j))
 | .gt=>DR λi j=>.bl (decide (j<i))
 | .ge=>DR λi j=>.bl (decide (j<=i))
 | .CM=>VL K false
theorem Ee(L:Lk X S k Φ)(op:CV):lh X (compareOp (VY op)) (Lw X.K op):=by
 cases op with
 | eq=>exact L3 L.YK
 | ne=>exact L0 L.YK
 | lt=>exact QY
 | le=>exact QZ
 | gt=>exact Q0
 | ge=>exact Q1
 | CM=>exact BP
theorem nK{op:CmpOp}{r:Expr}(h:ff r=true):behindInMarks op r=false:=by
 cases r<;>first | rfl | (cases h;done)
theorem p7{op:CV}{x y d:D}(RT:op=.lt\/op=.le\/op=.gt\/op=.ge)(h:dG op x y=ok d):∃ i j,x=.int i/\y=.int j:=by
 cases x with
 | int i=>cases y with
  | int j=>exact⟨i,j,rfl,rfl⟩
  | _=>rcases RT with rfl | rfl | rfl | rfl<;>exact nk h
 | _=>rcases RT with rfl | rfl | rfl | rfl<;>exact nk h
theorem xU{op:CV}{a b:CE}(hq:tD X F Φ (.cmp op a b) σ H Q):Gp (Lw X.K op) (tD X F Φ a) (tD X F Φ b) σ H Q:=by
 obtain⟨R,τ,ρ,d,Si,ev,hq⟩:=hq;obtain⟨x,ex,ev⟩:=af ev;obtain⟨y,ey,ev⟩:=af ev;refine tD.intro Si ex λv H1 e1 r1=>tD.intro (Si.go e1) ey λu H2 e2 r2=>?_;have e:=e1.trans e2;have rv:=r1.go e2;have ru:=r2;obtain⟨τ1,f1,p1⟩:=rv;obtain⟨τ2,f2,p2⟩:=ru;have sq:∀ {A:Addr->Prop} {τ:Addr->Option aL} (q:aL) (p:Addr) (xs:List V) (f:Fl),nd X.K R A τ H2 q p (.l xs) f->cV X.K H2 p xs:=λq p xs f h=>h.sq;cases op with
 | eq =>
  obtain⟨hc,ev⟩:=wq ev
  ·subst ev;rw[Bool.and_eq_true]at hc;exact⟨x,y,_,_,_,_,p1,p2,sq,sq,hc.1,hc.2,hq _ H2 e .bl⟩
 | ne =>
  obtain⟨hc,ev⟩:=wq ev
  ·subst ev;rw[Bool.and_eq_true]at hc;exact⟨x,y,_,_,_,_,p1,p2,sq,sq,hc.1,hc.2,hq _ H2 e .bl⟩
 | lt=>obtain⟨i,j,rfl,rfl⟩:=p7 (by simp) ev;cases ev;exact⟨_,_,(r1.go e2).isInt,r2.isInt,hq _ H2 e .bl⟩
 | le=>obtain⟨i,j,rfl,rfl⟩:=p7 (by simp) ev;cases ev;exact⟨_,_,(r1.go e2).isInt,r2.isInt,hq _ H2 e .bl⟩
 | gt=>obtain⟨i,j,rfl,rfl⟩:=p7 (by simp) ev;cases ev;exact⟨_,_,(r1.go e2).isInt,r2.isInt,hq _ H2 e .bl⟩
 | ge=>obtain⟨i,j,rfl,rfl⟩:=p7 (by simp) ev;cases ev;exact⟨_,_,(r1.go e2).isInt,r2.isInt,hq _ H2 e .bl⟩
 | CM =>
  simp only[dG]at ev;split at ev
  ·rename_i ds hi;split at ev
   ·rename_i hc;rw[Bool.and_eq_true]at hc;cases ev;cases p2 with
    | tup h rs=>cases hi;obtain⟨g1,g2⟩:=uS p1 hc.1 rs hc.2;exact⟨_,_,rfl,.inr h,t8 p1 hc.1,g1,by rw[g2];exact hq _ H2 e .bl⟩
    | lst h rs=>cases hi;obtain⟨g1,g2⟩:=uS p1 hc.1 rs hc.2;exact⟨_,_,rfl,.inl h.sq,t8 p1 hc.1,g1,by rw[g2];exact hq _ H2 e .bl⟩
    | _=>cases hi
   ·cases ev
  ·cases ev
theorem Dg{c:CE}{Q:Bool->Hp->Prop}(h:iK X F Φ c σ H Q):tB (tD X F Φ c) σ H Q:=by
 obtain⟨R,τ,ρ,b,Si,ev,hq⟩:=h;unfold sG at ev;obtain⟨d,ed,et⟩:=af ev;refine tD.intro Si ed λv H' e r=>?_;cases d<;>simp[iO]at et;cases et;exact⟨_,r.B4,hq H' e⟩
theorem cP{c:CE}{e:Expr}(h:PE X e (tD X F Φ c))(he:∀ whole,isTrue e X.env whole=(do let v <- whole;standAt e.pos;holding [v] (truthy v))):PT X e (iK X F Φ c) :=
 PT.imp (LA h he) λ_ _ _ h=>Dg h
theorem By{op:CV}{a b:CE}{Q:Bool->Hp->Prop}(h:iK X F Φ (.cmp op a b) σ H Q):JJ (Gp (Lw X.K op) (tD X F Φ a) (tD X F Φ b)) σ H Q :=
 xU (Dg h)
theorem dictAt{pins:List (Addr×Obj)}{s:Shared}{p:Addr}{cs:List (List Int)}{as:List Addr}(I:Inv X pins σ H s)(h:H p=some (.ext (DO p cs as xs ep))):∃ o,s.heap.get? p=some o/\o.cls=.type "dict":=by
 obtain⟨⟨zs,o,es,_,_,_,ho,hx,_⟩,_⟩:=(show b7 X.prog X.w H s.heap p (.ext (DO p cs as xs ep)) from I.bQ p _ h)
 exact⟨o,ho,hx.1⟩
theorem Mo(L:Lk X S k Φ)(t:Ty):gj X (.builtin "isinstance") (λxs H Q=>∃(x:V) (d:D) (N:ir) (k:aL),xs=[x,.ty (tyName t)]/\Rep (aG X.K H) N k x d/\(∀ q p xs f,N q p (.l xs) f->cV X.K H p xs)/\(∀ q p cs as xs ep f,N q p (.d cs as xs ep) f->H p=some (.ext (DO p cs as xs ep)))/\Q (.bl (cU t d)) H):=by
 intro pins s σ H xs us Q I r h;obtain⟨x,d,N,k,rfl,rp,hN,hND,q⟩:=h;obtain⟨u,w',rfl,ru,mB⟩:=vals2 r;cases (show w'=Value.type (tyName t) from mB);have kt:=Ih X.K t;have fin:∀ b:Bool,b=cU t d->∀ tk,EP X pins σ Q (.bool b) { s with toks:=tk }:=λb e tk=>⟨.bl b,H,I.tok tk,rfl,by rw[e];exact q⟩
 cases rp with
 | bh=>cases ru;exact aa9 PySem.W.kitx_none I.BZ True.intro (kt "NoneType" (by simp[kinds])) (λz=>nomatch z) (fin _ (by cases t<;>rfl))
 | bl b=>cases ru;exact aa9 PySem.W.kitx_bool I.BZ True.intro (kt "bool" (by simp[kinds])) (λz=>nomatch z) (fin _ (by cases t<;>rfl))
 | int i=>obtain⟨t',rfl⟩:=ru;exact aa9 PySem.W.kitx_int I.BZ True.intro (kt "int" (by simp[kinds])) (λz=>nomatch z) (fin _ (by cases t<;>rfl))
 | tup h _ =>
  cases ru;obtain⟨ao,_,⟨o,h1,h2,_⟩,_⟩:=I.tuple h;exact aa9 PySem.W.kitx_tuple I.BZ ⟨o,h1,h2⟩ (kt "tuple" (by simp[kinds])) (λz=>nomatch z) (fin _ (by cases t<;>rfl))
 | lst h _ =>
  cases ru;obtain⟨ao,_,⟨o,n,h1,h2,_⟩,_⟩:=I.list (hN _ _ _ _ h);exact aa9 PySem.W.kitx_list I.BZ ⟨o,h1,h2⟩ (kt "list" (by simp[kinds])) (λz=>nomatch z) (fin _ (by cases t<;>rfl))
 | bY h _ _ =>
  cases ru;obtain⟨o,h1,h2⟩:∃ o,s.heap.get? _=some o/\o.cls=.type "dict":=dictAt I (hND _ _ _ _ _ _ _ h);exact aa9 PySem.W.kitx_dict I.BZ ⟨o,h1,h2⟩ (kt "dict" (by simp[kinds])) (λz=>nomatch z) (fin _ (by cases t<;>rfl))
theorem Jp(t:Ty):bootBuiltins (tyName t:Str)=some (.type (tyName t)):=by
 cases t<;>decide +kernel
theorem tO(t:Ty):(tyName t:Str) ≠ "__name__" /\ ((tyName t:Str)==("__debug__" : Str))=false:=by
 cases t<;>decide +kernel
theorem Lj(L:Lk X S k Φ){a:CE}{t:Ty}{e:Expr}{p:Pos}(hf:fV S.sc ("isinstance" : Str)=true)(W4:("isinstance" : Str)∈S.bl)(hg:fV S.sc (tyName t:Str)=true)(W0:(tyName t:Str)∈S.bl)
  (ha:PE X e (tD X F Φ a)) (pZ:∀ es,starEach (e::es) X.env=(false,eval e X.env)::starEach es X.env):PE X (.Call (.Name ("isinstance" : Str) p) [e,.Name (tyName t:Str) p'] [] pos) (tD X F Φ (.pd a t)):=by
 have hT:PE X (.Name (tyName t:Str) p') (tC (.ty (tyName t))):=HL (L.gl hg) (L.bl _ W0) (Jp t) rfl (tO t).1 (tO t).2;refine PE.imp (eI (Mo L t) (L.gl hf) (L.bl _ W4) PyProof.Rows.boot_isinstance (cm ha (cm hT gS) (pZ _)) (he:=pZ _)) λσ H Q hq=>?_;obtain⟨R,τ,ρ,d,Si,ev,hq⟩:=hq;obtain⟨x,ex,ev⟩:=af ev;cases ev;refine tD.intro Si ex λv H1 e1 r1=>?_;obtain⟨τ1,f1,p1⟩:=r1;exact⟨v,x,_,_,rfl,p1,λq p xs f h=>h.sq,λq p cs as xs ep f h=>h.dat,hq _ H1 e1 .bl⟩
theorem Mt:@DI.B0=@L2.B0:=rfl
theorem Qv(L:Lk X S k Φ){a b:CE}{e i:Expr}(ha:PE X e (tD X F Φ a))(hb:PE X i (tD X F Φ b))(hp:qg i):PE X (.Subscript e i pos) (tD X F Φ (.ix a b)):=by
 refine PE.imp (D9 (AE.or ED) ha hb hp) λσ H Q hq=>?_;obtain⟨R,τ,ρ,d,Si,ev,hq⟩:=hq;obtain⟨x,ex,ev⟩:=af ev;obtain⟨y,ey,ev⟩:=af ev;refine tD.intro Si ex λv H1 e1 r1=>tD.intro (Si.go e1) ey λu H2 e2 r2=>?_;have ee:=e1.trans e2;have rv:=(r1.go e2).mono (fv':=iB (.ix a b)) λj hj=>aaG _ hj;have item:∀ {q:aL} {xs:List V} {ds:List D} {τt:Addr->Option aL} {j:Int},(∀ p q,τt p=some q->H p=none)->ah (aG X.K H2) (nd X.K R (lM (gP X F) τ (iB (.ix a b))) τt H2) q 0 xs ds->yn ds j=ok d->∃ w,L2.Ks xs j=some w/\Q w H2:=by
  intro q xs ds τt j fr rs h;unfold yn at h;split at h
  ·rename_i d' hd;cases h;cases hx:DI.B0 ds.length j with
   | none=>rw[hx]at hd;cases hd
   | some m =>
    rw[hx]at hd;obtain⟨w,hw,mB⟩:=rs.get (show ds[m]?=some d' from hd);refine⟨w,?_,hq w H2 ee ⟨λ_=>none,λ_ _ h=>by simp at h,mB.m8 Si fr⟩⟩;unfold L2.Ks;rw[<- Mt,rs.length,hx];exact hw
  ·cases h
 cases y with
 | int j =>
  obtain⟨τt,fr,rp⟩:=rv;cases r2.isInt;cases x with
  | tup ds =>
   cases rp with
   | @tup _ p xs _ h rs=>obtain⟨w,h1,h2⟩:=item fr rs ev;exact .inr ⟨p,xs,j,w,rfl,rfl,h,h1,h2⟩
  | lst f ds =>
   cases rp with
   | @lst _ p xs _ _ h rs=>obtain⟨w,h1,h2⟩:=item fr rs ev;exact .inl ⟨p,xs,j,w,rfl,rfl,h.sq,h1,h2⟩
  | _=>exact nk ev
 | _=>cases x<;>cases ev
theorem mQ:∀(cs:List CE) {ρ:aD} {ds:List D},bL Φ cs ρ=ok ds->ds.length=cs.length
 | [],_,_,h=>by cases h;rfl
 | c::cs,_,_,h=>by
  obtain⟨x,_,h⟩:=af h;obtain⟨xs,hx,h⟩:=af h;cases h;simp[mQ cs hx]
theorem Le{es:List Expr}{n:Nat}(h:PA X es (yg X F Φ cs))(hl:cs.length<=1000):PE X (.Tuple es n pos) (tD X F Φ (.tup cs)):=by
 refine PE.imp (D3 h) λσ H Q hq=>?_;obtain⟨R,τ,ρ,d,Si,ev,hq⟩:=hq;obtain⟨ds,NS,ev⟩:=af ev;cases ev;refine⟨R,τ,ρ,ds,Si,NS,λvs H1 e1 r1=>?_⟩;obtain⟨τt,fr,rs⟩:=r1;have hz:sizeLine=16777216:=abi;refine⟨by rw[rs.length,mQ cs NS];left,λp hp=>?_⟩;have es:ak H1 (upd H1 p (.tup vs)):=ak.upd hp;exact hq _ _ (e1.trans es) ⟨τt,fr,.tup (aG.of aH) (rs.imp (λ_ _ h=>aG.same es h) λ_ _ _ _ h=>nd.same es h)⟩
theorem Lh{es:List Expr}(h:PA X es (yg X F Φ cs))(hl:cs.length<=1000):PE X (.List es pos) (tD X F Φ (.lst cs)):=by
 refine PE.imp (D8 h) λσ H Q hq=>?_;obtain⟨R,τ,ρ,d,Si,ev,hq⟩:=hq;obtain⟨ds,NS,ev⟩:=af ev;cases ev;refine⟨R,τ,ρ,ds,Si,NS,λvs H1 e1 r1=>?_⟩;obtain⟨τt,fr,rs⟩:=r1;have hz:sizeLine=16777216:=abi;refine⟨by rw[rs.length,mQ cs NS];left,λp hp=>?_⟩;have es:ak H1 (upd H1 p (.lst vs)):=ak.upd hp;refine hq _ _ (e1.trans es) ⟨λq=>if q=p then some []else τt q,λq z hq=>?_,.lst ⟨aH,by simp⟩ (rs.imp (λ_ _ h=>aG.same es h) λc q xs f h=>?_)⟩
 ·by_cases ze:q=p
  ·subst ze;exact e1.free hp
  ·simp only[ze,if_false]at hq;exact fr q z hq
 ·have h':=nd.same es h;cases f with
  | ow =>
   have ze:q≠p:=by
    intro z;subst z;exact h.1.ne hp
   exact⟨h'.1,by simp only[ze,if_false];exact h'.2⟩
  | fz=>exact h'
  | al=>exact h'
  | sc=>exact h'
theorem Hq(L:Lk X S k Φ){f:Nat}{x:Str}{y:Expr}{ys:List Expr}{p:Pos}(hf:S.fn f=some x)(hg:fV S.sc x=true)(hn:lB x=true)(ha:PA X (y::ys) (yg X F Φ cs))
  (pZ:∀ es,starEach (y::es) X.env=(false,eval y X.env)::starEach es X.env) (hpl:∀ pos,(backTo pos (starEach ys X.env)).any (·.1)=false):PE X (.Call (.Name x p) (y::ys) [] pos) (tD X F Φ (.call f cs)):=by
 obtain⟨a,fd,ps,Fo,hm,hk,hb,hl⟩:=(L.fn f x hf).ex;unfold lB at hn;simp only[Bool.and_eq_true,Bool.not_eq_true']at hn;refine PE.imp (An Fo L.room (L.gl hg) hm hk hb .nil (QU (X:=X)) ha hn.1.1 (pZ _) (hpl _)) λσ H Q hq=>?_;obtain⟨R,τ,ρ,d,Si,ev,hq⟩:=hq;obtain⟨xs,bV,ev⟩:=af ev;obtain⟨r,er,ev⟩:=af ev;cases ev;refine⟨R,τ,ρ,xs,Si,bV,λvs H1 e1 r1=>?_⟩;obtain⟨τt,fr,rs⟩:=r1;have fresh:∀ p,H p=none->lM (gP X F) τ (ck cs) p:=λp hp=>⟨.inr (Si.same.free hp),λc i e=>absurd hp (Si.th p _ e)⟩
 have hR:∀ p,R p->lM (gP X F) τ (ck cs) p:=λp hp=>⟨Si.rf p hp,λc i e=>by rw[Si.rt p hp]at e;cases e⟩
 rw[List.append_nil];refine⟨lM (gP X F) τ (ck cs),ag aC xs,r,by rw[rs.length,<- hl _ _ er,aB,List.length_map],ah.jX (λ_ _ h=>h) (λk k' p xs f h=>?_) rs _ _,er,λv H2 e2 rr=>?_⟩
 ·cases f with
  | ow=>exact⟨h.1,fresh p (fr p _ h.2)⟩
  | fz=>exact⟨h.1,hR p h.2⟩
  | al=>exact h
  | sc=>exact h
 ·obtain⟨τ2,fr2,rp⟩:=rr;refine hq v H2 (e1.trans e2) ⟨τ2,λp q h=>e1.free (fr2 p q h),Rep.map (q:=[]) (q':=[]) (λ_ _ h=>h) (λc p xs f h=>?_) rp [] rfl⟩;cases f with
  | ow=>exact h
  | fz=>exact⟨h.1,h.2.elim id λz=>fresh p (e1.free z)⟩
  | al=>exact h.2.elim
  | sc=>exact h
def YZ(K:PySem.W.Frag)(f:Bf):List V->Hp->VK->Prop:=match f with
 | .len=>λxs H Q=>∃ p ys,xs=[.ref p]/\(cV K H p ys\/aG K H p ys)/\Q (.int ys.length) H
 | .abs=>λxs H Q=>∃ i,xs=[.int i]/\Q (.int (if i<0 then -i else i)) H
 | .xr=>λxs H Q=>(∃ i,xs=[.int i]/\Q (.int i) H)\/∃ k,xs=[.bl k]/\Q (.int (if k then 1 else 0)) H
 | .list1=>λxs H Q=>∃ p ys,xs=[.ref p]/\(cV K H p ys\/aG K H p ys)/\∀ l,H l=none->Q (.ref l) (upd H l (.lst ys))
 | .tuple1=>λxs H Q=>∃ p ys,xs=[.ref p]/\((cV K H p ys/\∀ l,H l=none->Q (.ref l) (upd H l (.tup ys)))\/(aG K H p ys/\Q (.ref p) H))
 | .fQ=>λxs H Q=>∃(p:Addr) (ns:List Int),xs=[.ref p]/\cV K H p (ns.map V.int)/\Q (.int ns.sum) H
 | .all1=>λxs H Q=>∃(p:Addr) (bs:List Bool),xs=[.ref p]/\cV K H p (bs.map V.bl)/\Q (.bl (bs.all id)) H
 | .iQ=>λxs H Q=>∃(p:Addr) (ns:List Int),xs=[.ref p]/\(cV K H p (ns.map V.int)\/aG K H p (ns.map V.int))/\ns.length<64/\∀ l,H l=none->Q (.ref l) (upd H l (.lst ((sortI ns).map V.int)))
theorem ah.one{N:ir}{k:aL}{n:Nat}{d:D}(h:ah T N k n vs [d]):∃ v,vs=[v]/\Rep T N (n::k) v d:=by
 cases h with
 | cons h t=>cases t;exact⟨_,rfl,h⟩
theorem ah.two{N:ir}{k:aL}{n:Nat}{d e:D}(h:ah T N k n vs [d,e]):∃ v w,vs=[v,w]/\Rep T N (n::k) v d/\Rep T N ((n+1)::k) w e:=by
 cases h with
 | cons h t=>obtain⟨w,rfl,h'⟩:=t.one;exact⟨_,_,rfl,h,h'⟩
theorem ah.ints1{N:ir}{k:aL}{n:Nat}{i:Int}(h:ah T N k n vs [.int i]):vs=[.int i]:=by
 obtain⟨v,rfl,z⟩:=h.one;cases z;rfl
theorem ah.ints2{N:ir}{k:aL}{n:Nat}{i j:Int}(h:ah T N k n vs [.int i,.int j]):vs=[.int i,.int j]:=by
 obtain⟨v,w,rfl,z,z'⟩:=h.two;cases z;cases z';rfl
noncomputable def Bf.one:Bf->Bool
 | _=>true
theorem Ko{f:Bf}{xs:List D}{d:D}(hf:f.one=true)(h:oZ f xs=ok d):∃ x,xs=[x]:=by
 cases xs with
 | nil=>cases f<;>exact nk h
 | cons x xs=>cases xs with
  | nil=>exact⟨x,rfl⟩
  | cons y ys=>cases f<;>first | (cases hf;done) | (cases x<;>exact nk h)
theorem ah.ofInts{T:pH}{N:ir}{k:aL}:∀ {ns:List Int} {n:Nat} {vs:List V},ah T N k n vs (ns.map D.int)->vs=ns.map V.int
 | [],_,_,h=>by cases h;rfl
 | i::ns,_,_,h=>by
  cases h with
  | cons h t=>cases h;rw[ah.ofInts t];rfl
theorem ah.J0{T:pH}{N:ir}{k:aL}:∀ {ns:List Bool} {n:Nat} {vs:List V},ah T N k n vs (ns.map D.bl)->vs=ns.map V.bl
 | [],_,_,h=>by cases h;rfl
 | i::ns,_,_,h=>by
  cases h with
  | cons h t=>cases h;rw[ah.J0 t];rfl
theorem nL{T:pH}{N:ir}{k:aL}:∀(ns:List Int) {n:Nat},ah T N k n (ns.map V.int) (ns.map D.int)
 | [],_=>.nil
 | i::ns,_=>.cons (.int i) (nL ns)
theorem Jq{f:Bf}(hq:tD X F Φ (.bf f cs) σ H Q):Qb (YZ X.K f) (yg X F Φ cs) σ H Q:=by
 obtain⟨R,τ,ρ,d,Si,ev,hq⟩:=hq;obtain⟨xs,bV,ev⟩:=af ev;refine⟨R,τ,ρ,xs,Si,bV,λvs H1 e1 r1=>?_⟩;obtain⟨τt,fr,rs⟩:=r1;cases f with
 | len =>
  obtain⟨x,rfl⟩:=Ko rfl ev;obtain⟨v,rfl,rv⟩:=rs.one;cases x with
  | tup ds=>cases ev;obtain⟨_,_,rfl,h,r⟩:=rv.C2;exact⟨_,_,rfl,.inr h,by rw[r.length];exact hq _ H1 e1 .int⟩
  | lst f ds=>cases ev;obtain⟨_,_,rfl,h,r⟩:=rv.uG;exact⟨_,_,rfl,.inl h.sq,by rw[r.length];exact hq _ H1 e1 .int⟩
  | _=>exact nk ev
 | abs =>
  obtain⟨x,rfl⟩:=Ko rfl ev;cases x with
  | int i=>cases ev;cases rs.ints1;exact⟨_,rfl,hq _ H1 e1 .int⟩
  | _=>exact nk ev
 | xr =>
  obtain⟨x,rfl⟩:=Ko rfl ev;obtain⟨v,rfl,rv⟩:=rs.one;cases x with
  | int i=>cases ev;cases rv;exact .inl ⟨_,rfl,hq _ H1 e1 .int⟩
  | bl i=>cases ev;cases rv;exact .inr ⟨_,rfl,hq _ H1 e1 .int⟩
  | _=>exact nk ev
 | list1 =>
  obtain⟨x,rfl⟩:=Ko rfl ev;obtain⟨v,rfl,rv⟩:=rs.one;cases x with
  | tup ds =>
   cases ev;obtain⟨_,_,rfl,h,r⟩:=rv.C2;refine⟨_,_,rfl,.inr h,λl hl=>?_⟩;exact hq _ _ (e1.trans (ak.upd hl)) (bM.BQ (e1.free hl) (e1.trans (ak.upd hl)) aH ((r.m8 Si fr).imp (λ_ _ h=>aG.same (ak.upd hl) h) λ_ _ _ _ h=>nd.same (ak.upd hl) h))
  | lst f ds =>
   cases ev;obtain⟨_,_,rfl,h,r⟩:=rv.uG;refine⟨_,_,rfl,.inl h.sq,λl hl=>?_⟩;exact hq _ _ (e1.trans (ak.upd hl)) (bM.BQ (e1.free hl) (e1.trans (ak.upd hl)) aH ((r.m8 Si fr).imp (λ_ _ h=>aG.same (ak.upd hl) h) λ_ _ _ _ h=>nd.same (ak.upd hl) h))
  | _=>exact nk ev
 | tuple1 =>
  obtain⟨x,rfl⟩:=Ko rfl ev;obtain⟨v,rfl,rv⟩:=rs.one;cases x with
  | tup ds =>
   cases ev;obtain⟨_,_,rfl,h,r⟩:=rv.C2;exact⟨_,_,rfl,.inr ⟨h,hq _ H1 e1 ⟨λ_=>none,λ_ _ h=>by simp at h,.tup h (r.m8 Si fr)⟩⟩⟩
  | lst f ds =>
   cases ev;obtain⟨_,_,rfl,h,r⟩:=rv.uG;refine⟨_,_,rfl,.inl ⟨h.sq,λl hl=>?_⟩⟩;exact hq _ _ (e1.trans (ak.upd hl)) ⟨λ_=>none,λ_ _ h=>by simp at h,.tup (aG.of aH) ((r.m8 Si fr).imp (λ_ _ h=>aG.same (ak.upd hl) h) λ_ _ _ _ h=>nd.same (ak.upd hl) h)⟩
  | _=>exact nk ev
 | fQ =>
  obtain⟨x,rfl⟩:=Ko rfl ev;obtain⟨v,rfl,rv⟩:=rs.one;cases x with
  | lst f ds =>
   have ev:(match intsOf ds with | some ns=>ok (.int ns.sum) | none=>none)=ok d:=ev;cases hn:intsOf ds with
   | none=>rw[hn]at ev;cases ev
   | some ns =>
    rw[hn]at ev;cases ev;cases dR hn;cases rv with
    | lst h r=>cases r.ofInts;exact⟨_,ns,rfl,h.sq,hq _ H1 e1 .int⟩
  | _=>exact nk ev
 | all1 =>
  obtain⟨x,rfl⟩:=Ko rfl ev;obtain⟨v,rfl,rv⟩:=rs.one;cases x with
  | lst f ds =>
   have ev:(match j9 ds with | some bs=>ok (.bl (bs.all id)) | none=>none)=ok d:=ev;cases hn:j9 ds with
   | none=>rw[hn]at ev;cases ev
   | some ns =>
    rw[hn]at ev;cases ev;cases ya hn;cases rv with
    | lst h r=>cases r.J0;exact⟨_,ns,rfl,h.sq,hq _ H1 e1 .bl⟩
  | _=>exact nk ev
 | iQ =>
  obtain⟨x,rfl⟩:=Ko rfl ev;obtain⟨v,rfl,rv⟩:=rs.one;have fin:∀ ds,tR ds=ok d->∃ ns:List Int,ds=ns.map D.int/\ns.length<64/\∀ l,H1 l=none->Q (.ref l) (upd H1 l (.lst ((sortI ns).map V.int))):=by
   intro ds e;unfold tR at e;split at e
   ·rename_i ns hn;split at e
    ·rename_i wt;cases e;refine⟨ns,dR hn,wt,λl hl=>hq _ _ (e1.trans (ak.upd hl)) (bM.BQ (e1.free hl) (e1.trans (ak.upd hl)) aH (nL _))⟩
    ·cases e
   ·cases e
  cases x with
  | tup ds =>
   obtain⟨ns,rfl,wt,q⟩:=fin ds ev;cases rv with
   | tup h r=>cases r.ofInts;exact⟨_,ns,rfl,.inr h,wt,q⟩
  | lst f ds =>
   obtain⟨ns,rfl,wt,q⟩:=fin ds ev;cases rv with
   | lst h r=>cases r.ofInts;exact⟨_,ns,rfl,.inl h.sq,wt,q⟩
  | _=>exact nk ev
theorem Qw(L:Lk X S k Φ){f:Bf}{y:Expr}{ys:List Expr}{p:Pos}(hg:fV S.sc (vZ f:Str)=true)(hb:(vZ f:Str)∈S.bl)(ha:PA X (y::ys) (yg X F Φ cs))
  (pZ:∀ es,starEach (y::es) X.env=(false,eval y X.env)::starEach es X.env) (hpl:∀ pos,(backTo pos (starEach ys X.env)).any (·.1)=false):PE X (.Call (.Name (vZ f:Str) p) (y::ys) [] pos) (tD X F Φ (.bf f cs)):=by
 refine PE.imp (t:=Qb (YZ X.K f) (yg X F Φ cs)) ?_ λσ H Q hq=>Jq hq;cases f with
 | len=>exact eI vY (L.gl hg) (L.bl _ hb) PySem.boot_len ha (he:=pZ _) (hpl:=hpl _)
 | abs=>exact eI F9 (L.gl hg) (L.bl _ hb) (by decide +kernel) ha (he:=pZ _) (hpl:=hpl _)
 | xr=>exact nI CA (L.gl hg) (L.bl _ hb) (by decide +kernel) ha (he:=pZ _) (hpl:=hpl _)
 | list1=>exact nI vX (L.gl hg) (L.bl _ hb) (by decide +kernel) ha (he:=pZ _) (hpl:=hpl _)
 | tuple1=>exact nI tx (L.gl hg) (L.bl _ hb) (by decide +kernel) ha (he:=pZ _) (hpl:=hpl _)
 | fQ=>exact eI (Cz L.calm) (L.gl hg) (L.bl _ hb) (by decide +kernel) ha (he:=pZ _) (hpl:=hpl _)
 | iQ=>exact eI vW (L.gl hg) (L.bl _ hb) (by decide +kernel) ha (he:=pZ _) (hpl:=hpl _)
 | all1=>exact eI (CB L.calm) (L.gl hg) (L.bl _ hb) (by decide +kernel) ha (he:=pZ _) (hpl:=hpl _)
theorem Hn(L:Lk X S k Φ){a:CE}{e:Expr}{p:Pos}(hf:fV S.sc ("len" : Str)=true)(W4:("len" : Str)∈S.bl)(hg:fV S.sc ("set" : Str)=true)(W0:("set" : Str)∈S.bl)
  (ha:PE X e (tD X F Φ a)) (pZ:∀ es,starEach (e::es) X.env=(false,eval e X.env)::starEach es X.env):PE X (.Call (.Name ("len" : Str) p) [.Call (.Name ("set" : Str) p') [e] [] pos'] [] pos) (tD X F Φ (.mF a)):=by
 refine PE.imp (HJ L.calm (L.gl hf) (L.bl _ W4) (L.gl hg) (L.bl _ W0) (cm ha gS (pZ _)) pZ) λσ H Q hq=>?_;obtain⟨R,τ,ρ,d,Si,ev,hq⟩:=hq;obtain⟨x,ex,ev⟩:=af ev;refine tD.intro Si ex λv H1 e1 r1=>?_;obtain⟨τ1,f1,rv⟩:=r1;cases x with
 | tup ds =>
  simp only[Az]at ev;split at ev
  ·rename_i ns hn;split at ev
   ·rename_i hl;cases ev;cases dR hn;cases rv with
    | tup h r=>cases r.ofInts;exact⟨_,ns,rfl,h,hl,hq _ H1 e1 .int⟩
   ·cases ev
  ·cases ev
 | _=>exact nk ev
theorem Lf{a:CE}{e:Expr}(h:PE X e (tD X F Φ a)):PE X (.UnaryOp .Not e pos) (tD X F Φ (.not a)):=by
 refine PE.imp (LI h) λσ H Q hq=>?_;obtain⟨R,τ,ρ,d,Si,ev,hq⟩:=hq;obtain⟨b,eb,ev⟩:=af ev;obtain⟨x,ex,eb⟩:=af eb;cases ev;refine tD.intro Si ex λv H1 e1 r1=>?_;cases x<;>simp[iO]at eb;cases eb;exact⟨_,r1.B4,hq _ H1 e1 .bl⟩
theorem K5{a:CE}{e:Expr}(h:PT X e (iK X F Φ a)):PT X (.UnaryOp .Not e pos) (iK X F Φ (.not a)):=by
 refine PT.imp (LB h) λσ H Q hq=>?_;obtain⟨R,τ,ρ,b,Si,ev,hq⟩:=hq;unfold sG at ev;obtain⟨d,ed,ev⟩:=af ev;obtain⟨c,ec,ed⟩:=af ed;cases ed;have XR:b=!c:=by
  have e2:ok (!c)=ok b:=ev;exact(Except.ok.inj (aaA e2)).symm
 subst XR;exact⟨R,τ,ρ,c,Si,ec,λH' e=>hq H' e⟩
theorem Li{c a b:CE}{t x y:Expr}(hc:PT X t (iK X F Φ c))(ha:PE X x (tD X F Φ a))(hb:PE X y (tD X F Φ b)):PE X (.IfExp t x y pos) (tD X F Φ (.ite c a b)):=by
 refine PE.imp (D_ hc ha hb) λσ H Q hq=>?_;obtain⟨R,τ,ρ,d,Si,ev,hq⟩:=hq;obtain⟨w,ew,ev⟩:=af ev;refine⟨R,τ,ρ,w,Si,ew,λH1 e1=>?_⟩;cases w with
 | true=>exact tD.intro (Si.go e1) ev λv H' e r=>hq v H' (e1.trans e) ((r.old e1).mono λi hi=>by simp[iB,hi])
 | false=>exact tD.intro (Si.go e1) ev λv H' e r=>hq v H' (e1.trans e) ((r.old e1).mono λi hi=>by simp[iB,hi])
theorem K6{c a b:CE}{t x y:Expr}(hc:PT X t (iK X F Φ c))(ha:PT X x (iK X F Φ a))(hb:PT X y (iK X F Φ b)):PT X (.IfExp t x y pos) (iK X F Φ (.ite c a b)):=by
 intro pins s σ H Q I hq;obtain⟨R,τ,ρ,d,Si,ev,hq⟩:=hq;unfold sG at ev;obtain⟨x',SU,et⟩:=af ev;obtain⟨w,ew,ev⟩:=af SU;refine isTrue_IfExp (cI (hc pins s σ H (λw' H1=>w'=w/\ak H H1) I ⟨R,τ,ρ,w,Si,ew,λH1 e1=>⟨rfl,e1⟩⟩) λw' s1 ⟨H1,I1,hw,e1⟩=>?_);subst hw;cases w' with
 | true=>exact ha pins s1 σ H1 Q I1 ⟨R,τ,ρ,d,Si.go e1,by unfold sG;rw[show aK Φ a ρ=ok x' from ev];exact et,λH' e=>hq H' (e1.trans e)⟩
 | false=>exact hb pins s1 σ H1 Q I1 ⟨R,τ,ρ,d,Si.go e1,by unfold sG;rw[show aK Φ b ρ=ok x' from ev];exact et,λH' e=>hq H' (e1.trans e)⟩
theorem Lg{a:CE}{e:Expr}(h:PE X e (tD X F Φ a)):PE X (.UnaryOp .USub e pos) (tD X F Φ (.neg a)):=by
 refine PE.imp (QP KR h) λσ H Q hq=>?_;obtain⟨R,τ,ρ,d,Si,ev,hq⟩:=hq;obtain⟨x,ex,ev⟩:=af ev;refine tD.intro Si ex λv H1 e1 r1=>?_;cases x<;>simp[HX]at ev;cases ev;exact⟨_,r1.isInt,hq _ H1 e1 .int⟩
theorem Ju{c:CE}(hq:tD X F Φ (.and [c]) σ H Q):tD X F Φ c σ H Q:=by
 obtain⟨R,τ,ρ,d,Si,ev,hq⟩:=hq;obtain⟨b,eb,ev⟩:=af ev;obtain⟨x,ex,eb⟩:=af eb;cases ev;refine tD.intro Si ex λv H1 e1 r1=>?_;cases x<;>simp[iO]at eb;cases eb;rw[r1.B4];exact hq _ H1 e1 .bl
theorem LY{c:CE}(hq:tD X F Φ (.or [c]) σ H Q):tD X F Φ c σ H Q:=by
 obtain⟨R,τ,ρ,d,Si,ev,hq⟩:=hq;obtain⟨b,eb,ev⟩:=af ev;obtain⟨x,ex,eb⟩:=af eb;cases ev;refine tD.intro Si ex λv H1 e1 r1=>?_;cases x<;>simp[iO]at eb;cases eb;rw[r1.B4];exact hq _ H1 e1 .bl
theorem Ge{c:CE}{Q:Bool->Hp->Prop}(hq:iK X F Φ (.and [c]) σ H Q):iK X F Φ c σ H Q:=by
 obtain⟨R,τ,ρ,d,Si,ev,hq⟩:=hq;unfold sG at ev;obtain⟨b,eb,ev⟩:=af ev;obtain⟨x,ex,eb⟩:=af eb;cases eb;cases ev;exact⟨R,τ,ρ,_,Si,ex,hq⟩
theorem HM{c:CE}{Q:Bool->Hp->Prop}(hq:iK X F Φ (.or [c]) σ H Q):iK X F Φ c σ H Q:=by
 obtain⟨R,τ,ρ,d,Si,ev,hq⟩:=hq;unfold sG at ev;obtain⟨b,eb,ev⟩:=af ev;obtain⟨x,ex,eb⟩:=af eb;cases eb;cases ev;exact⟨R,τ,ρ,_,Si,ex,hq⟩
theorem Gf{c:CE}(hq:tD X F Φ (.and (c::c'::cs)) σ H Q):JM (tD X F Φ c) (tD X F Φ (.and (c'::cs))) σ H Q:=by
 obtain⟨R,τ,ρ,d,Si,ev,hq⟩:=hq;obtain⟨b,eb,ev⟩:=af ev;obtain⟨x,ex,eb⟩:=af eb;refine tD.intro Si ex λv H1 e1 r1=>?_;cases x<;>simp[iO]at eb;cases eb;refine⟨_,r1.B4,?_⟩;cases b with
 | true =>
  rw[if_pos rfl]at ev ⊢;exact tD.intro (Si.go e1) ev λv H' e r=>hq v H' (e1.trans e) ((r.old e1).mono λi hi=>aav _ hi)
 | false =>
  rw[if_neg (by simp)]at ev ⊢;cases ev;exact hq _ H1 e1 .bl
theorem HN{c:CE}(hq:tD X F Φ (.or (c::c'::cs)) σ H Q):P6 (tD X F Φ c) (tD X F Φ (.or (c'::cs))) σ H Q:=by
 obtain⟨R,τ,ρ,d,Si,ev,hq⟩:=hq;obtain⟨b,eb,ev⟩:=af ev;obtain⟨x,ex,eb⟩:=af eb;refine tD.intro Si ex λv H1 e1 r1=>?_;cases x<;>simp[iO]at eb;cases eb;refine⟨_,r1.B4,?_⟩;cases b with
 | false =>
  rw[if_neg (by simp)]at ev ⊢;exact tD.intro (Si.go e1) ev λv H' e r=>hq v H' (e1.trans e) ((r.old e1).mono λi hi=>aav _ hi)
 | true =>
  rw[if_pos rfl]at ev ⊢;cases ev;exact hq _ H1 e1 .bl
theorem CD{c:CE}{Q:Bool->Hp->Prop}(hq:iK X F Φ (.and (c::c'::cs)) σ H Q):Qd (iK X F Φ c) (iK X F Φ (.and (c'::cs))) σ H Q:=by
 obtain⟨R,τ,ρ,d,Si,ev,hq⟩:=hq;unfold sG at ev;obtain⟨x,ex,et⟩:=af ev;obtain⟨b,eb,ev⟩:=af ex;refine⟨R,τ,ρ,b,Si,eb,λH1 e1=>?_⟩;cases b with
 | true =>
  rw[if_pos rfl]at ev ⊢;exact⟨R,τ,ρ,d,Si.go e1,by unfold sG;rw[show aK Φ (.and (c'::cs)) ρ=ok x from ev];exact et,λH' e=>hq H' (e1.trans e)⟩
 | false =>
  rw[if_neg (by simp)]at ev ⊢;cases ev;cases et;exact hq H1 e1
theorem Eb{c:CE}{Q:Bool->Hp->Prop}(hq:iK X F Φ (.or (c::c'::cs)) σ H Q):YM (iK X F Φ c) (iK X F Φ (.or (c'::cs))) σ H Q:=by
 obtain⟨R,τ,ρ,d,Si,ev,hq⟩:=hq;unfold sG at ev;obtain⟨x,ex,et⟩:=af ev;obtain⟨b,eb,ev⟩:=af ex;refine⟨R,τ,ρ,b,Si,eb,λH1 e1=>?_⟩;cases b with
 | false =>
  rw[if_neg (by simp)]at ev ⊢;exact⟨R,τ,ρ,d,Si.go e1,by unfold sG;rw[show aK Φ (.or (c'::cs)) ρ=ok x from ev];exact et,λH' e=>hq H' (e1.trans e)⟩
 | true =>
  rw[if_pos rfl]at ev ⊢;cases ev;cases et;exact hq H1 e1
theorem pN{Q:List V->Hp->Prop}(hq:yg X F Φ [] σ H Q):P8 σ H Q:=by
 obtain⟨R,τ,ρ,d,Si,ev,hq⟩:=hq;cases ev;exact hq _ H (ak.refl H) .nil
theorem jN{c:CE}{Q:List V->Hp->Prop}(hq:yg X F Φ (c::cs) σ H Q):JL (tD X F Φ c) (yg X F Φ cs) σ H Q:=by
 obtain⟨R,τ,ρ,d,Si,ev,hq⟩:=hq;obtain⟨x,ex,ev⟩:=af ev;obtain⟨xs,bV,ev⟩:=af ev;cases ev;refine tD.intro Si ex λv H1 e1 r1=>⟨R,τ,ρ,xs,Si.go e1,bV,λvs H2 e2 r2=>hq _ H2 (e1.trans e2) (bR.cons e1 e2 (r1.mono λi hi=>aaG _ hi) (r2.mono λi hi=>aav _ hi))⟩
theorem bp{c:CE}{e:Expr}(h:br S c e=true)(es:List Expr)(env:Env):starEach (e::es) env=(false,eval e env)::starEach es env:=by
 cases e<;>first | rfl | (cases c<;>exact(aal h).elim)
theorem zx:∀ {cs:List CE} {es:List Expr},bc S cs es=true->∀(pos:Pos) (env:Env),(backTo pos (starEach es env)).any (·.1)=false
 | [],[],_,_,_=>rfl
 | [],_::_,h,_,_=>by exact(aal h).elim
 | _::_,[],h,_,_=>by exact(aal h).elim
 | c::cs,e::es,h,pos,env=>by
  replace h:=aj h;rw[bp h.1];have:=zx h.2 pos env;unfold backTo at this ⊢;simp only[List.map_cons,List.any_cons,Bool.false_or];exact this
theorem ux{c:CE}{e:Expr}(h:br S c e=true):qg e:=by
 intro o i;cases e<;>first | rfl | (cases c<;>exact(aal h).elim)
theorem DB{j:Nat}:PE X (.Constant .none j pos) (tD X F Φ .bh):=PE.imp D7 λσ H Q ⟨R,τ,ρ,d,Si,ev,hq⟩=>by cases ev;exact hq _ H (ak.refl H) .bh
theorem JP{b:Bool}{j:Nat}:PE X (.Constant (.bool b) j pos) (tD X F Φ (.bl b)):=PE.imp QS λσ H Q ⟨R,τ,ρ,d,Si,ev,hq⟩=>by cases ev;exact hq _ H (ak.refl H) .bl
theorem DC{i:Int}{j:Nat}:PE X (.Constant (.int i) j pos) (tD X F Φ (.int i)):=PE.imp LK λσ H Q ⟨R,τ,ρ,d,Si,ev,hq⟩=>by cases ev;exact hq _ H (ak.refl H) .int
theorem Mz(L:Lk X S k Φ){y:Expr}{p MF:Pos}(g1:fV S.sc ("range" : Str)=true)(g2:("range" : Str)∈S.bl)(pa:PA X [y] (yg X F Φ es))(B9:bc S es [y]=true)
  (pins:List (Addr×Obj)) (s:Shared) (σ:St) (H:Hp) (R:Addr->Prop) (τ:Addr->Option aL) (ρ:aD) (xs items:List D) (I:Inv X pins σ H s) (Si:SI X F R τ ρ σ H) (bV:bL Φ es ρ=ok xs) (zl:cS Φ .k9 xs=ok items) (Rr:It->Hp->Prop)
  (hR:∀ J H2,ak H H2->Yl X.K J (nG X F τ (caps++ck es) H2) H2 items->Rr J H2) :
  wpAny (model X.prog X.w) X.A (eval (.Call (.Name ("range" : Str) p) [y] [] MF) X.env) (λv s1=>wpAny (model X.prog X.w) X.A (pyIter v) (Gk X pins σ target Rr) X.xe s1) X.xe s:=by
 match es,B9 with
 | [c],B9 =>
  replace B9:=aj B9;refine ua (L.gl g1) (L.bl _ g2) pa (bp B9.1 _ _) pins s σ H Rr I ⟨R,τ,ρ,xs,Si,bV,λvs H1 e1 rv=>?_⟩;obtain⟨τt,fr,rs⟩:=rv;obtain⟨n,rfl⟩:∃ n,xs=[.int n]:=by
   cases xs with
   | nil=>cases zl
   | cons x t=>cases x<;>first | (cases zl;done) | (cases t with | nil=>exact⟨_,rfl⟩ | cons _ _=>cases zl)
  cases rs.ints1
  ·obtain⟨⟨c1,c2⟩,zl⟩:=wq zl;subst zl;have xD:(iL:Int)=1000000:=rfl;refine⟨n,rfl,by left,by left,hR _ H1 e1 ?_⟩;have:=KA (X:=X) (lo:=0) (n:=n.toNat) (R:=nG X F τ (caps++ck [c]) H1) (H1:=H1);simpa using this
 | [],B9=>exact(aal B9).elim
 | _::_::_,B9=>exact(aal (aj B9).2).elim
theorem My(L:Lk X S k Φ){c:CE}{y:Expr}(pe:PE X y (tD X F Φ c))
  (pins:List (Addr×Obj)) (s:Shared) (σ:St) (H:Hp) (R:Addr->Prop) (τ:Addr->Option aL) (ρ:aD) (xs items:List D) (I:Inv X pins σ H s) (Si:SI X F R τ ρ σ H) (bV:bL Φ [c] ρ=ok xs) (zl:cS Φ .seq xs=ok items) (Rr:It->Hp->Prop)
  (hR:∀ J H2,ak H H2->Yl X.K J (nG X F τ (caps++ck [c]) H2) H2 items->Rr J H2) :
  wpAny (model X.prog X.w) X.A (eval y X.env) (λv s1=>wpAny (model X.prog X.w) X.A (pyIter v) (Gk X pins σ target Rr) X.xe s1) X.xe s:=by
 obtain⟨x,ex,bV⟩:=af bV;obtain⟨xs',XN,bV⟩:=af bV;cases XN;cases bV;have ZG:∀ i∈iB c,i∈caps++ck [c]:=λi hi=>aav _ (aaG _ hi);cases x with
 | tup ds =>
  cases zl;refine DZ pe pins s σ H Rr I (tD.intro Si ex λv H1 e1 rv=>?_);obtain⟨τt,fr,rp⟩:=rv;cases rp with
  | @tup _ p ys _ hp rs=>exact⟨p,rfl,⟨ys,hp⟩,hR _ H1 e1 (Kz (q:=[]) hp (ah.jX (λ_ _ h=>h) (yH Si fr ZG) rs _ _))⟩
 | lst f ds =>
  cases zl;refine Ak pe pins s σ H Rr I (tD.intro Si ex λv H1 e1 rv=>?_);obtain⟨τt,fr,rp⟩:=rv;cases rp with
  | @lst _ p ys _ _ hp rs=>exact⟨p,rfl,⟨ys,hp.sq⟩,hR _ H1 e1 (GP (q:=[]) hp.sq (ah.jX (λ_ _ h=>h) (yH Si fr ZG) rs _ _))⟩
 | _=>cases zl
theorem Po{xs:List D}{J:It}(Si:SI X F R τ ρ σ H)(hs:∀ i∈fv,i∈fv')(r:bR X.K (gP X F) R τ fv H H2 vs xs)(y:Ph X.K J H2 vs xs items):
  Yl X.K J (nG X F τ fv' H2) H2 items:=by
 obtain⟨τt,fr,rs⟩:=r;have at':∀ H',ak H2 H'->ah (aG X.K H') (nd X.K (nG X F τ fv' H2) (λ_=>False) (λ_=>none) H') [] 0 vs (ag aC xs):=λH' e =>
  (ah.jX (T':=aG X.K H2) (λ_ _ h=>h) (yH Si fr hs) rs [] 0).imp (λ_ _ h=>aG.same e h) λ_ _ _ _ h=>nd.same e h
 have st:∀ H',ak H2 H'->uF X.K H2 vs xs H':=λH' e=>⟨⟨_,at' H2 (ak.refl H2),λp o _ h=>e p o h⟩,λ_ _ h=>aG.same e h⟩
 exact⟨λi H' e hi=>y.go i H' _ (st H' e) (at' H' e) hi,λi H' x oD e hi hy=>y.yf i H' _ x oD (st H' e) (at' H' e) hi hy,λi H' e hi=>y.stop i H' _ (st H' e) (at' H' e) hi⟩
theorem MA(L:Lk X S k Φ){p:Nat}{y:Expr}(hp:S.px.pi p S.sc S.bl y=some args)(ht:(decide (1100<=p)||iX target)=true)(hs:sH X F Φ es args)
  (pins:List (Addr×Obj)) (s:Shared) (σ:St) (H:Hp) (R:Addr->Prop) (τ:Addr->Option aL) (ρ:aD) (xs items:List D) (I:Inv X pins σ H s) (Si:SI X F R τ ρ σ H) (bV:bL Φ es ρ=ok xs) (zl:cS Φ (.cw p) xs=ok items) (Rr:It->Hp->Prop)
  (hR:∀ J H2,ak H H2->Yl X.K J (nG X F τ (caps++ck es) H2) H2 items->Rr J H2) :
  wpAny (model X.prog X.w) X.A (eval y X.env) (λv s1=>wpAny (model X.prog X.w) X.A (pyIter v) (Gk X pins σ target Rr) X.xe s1) X.xe s:=by
 obtain⟨d,ed,ei⟩:=af (show bd (Φ p xs) nF=ok items from zl);exact L.pr.i X _ _ k L.pX p y args hp F es target ht hs pins s σ H R τ ρ xs d items I Si bV ed ei Rr λJ H2 vs e2 r yz=>hR J H2 e2 (Po Si (λi hi=>by simp[hi]) r yz)
theorem xR{S':Sx}{ifs:List Expr}(h3:ba.length<=1)(h4:bc S' ba ifs=true)
  (nr:∀(X':Cx) (F':Addr->Prop),Lk X' S' k Φ->∀(j:Nat) (c:CE) (e:Expr),ba[j]?=some c->ifs[j]?=some e->PE X' e (tD X' F' Φ c)/\PT X' e (iK X' F' Φ c)) :
  (ba=[]/\ifs=[])\/∃ c e,ba=[c]/\ifs=[e]/\∀(X':Cx) (F':Addr->Prop),Lk X' S' k Φ->PT X' e (iK X' F' Φ c):=by
 cases ba with
 | nil=>cases ifs with
  | nil=>exact .inl ⟨rfl,rfl⟩
  | cons _ _=>exact(aal h4).elim
 | cons c cs=>cases cs with
  | cons _ _=>simp at h3
  | nil=>cases ifs with
   | nil=>exact(aal h4).elim
   | cons e ifs=>cases ifs with
    | cons _ _=>exact(aal (aj h4).2).elim
    | nil=>exact .inr ⟨c,e,rfl,rfl,λX' F' L'=>(nr X' F' L' 0 c e rfl rfl).2⟩
def Td(S:Sx)(ik:IK)(es:List CE)(target iter:Expr):Bool:=match ik with
 | .k9=>aW (eH iter) λw=>decide (w.1=("range" : Str))&&fV S.sc w.1&&decide (w.1∈S.bl)&&aW (one w.2) λy=>bc S es [y]
 | .seq=>bc S es [iter]
 | .cw p=>T_ iter&&(decide (1100<=p)||iX target)&&aW (S.px.pi p S.sc S.bl iter) λxs=>bc S es xs
theorem EG(L:Lk X S k Φ){ik:IK}(B9:∀ l,bc S es l=true->PA X l (yg X F Φ es))
  (nr:∀ l,bc S es l=true->∀(j:Nat) (c:CE) (e:Expr),es[j]?=some c->l[j]?=some e->PE X e (tD X F Φ c)/\PT X e (iK X F Φ c)) (hpe:∀ l,bc S es l=true->sH X F Φ es l) (h6:Td S ik es target iter=true) :
  ∀(pins:List (Addr×Obj)) (s:Shared) (σ:St) (H:Hp) (R:Addr->Prop) (τ:Addr->Option aL) (ρ:aD) (xs items:List D),Inv X pins σ H s->SI X F R τ ρ σ H->bL Φ es ρ=ok xs->cS Φ ik xs=ok items->∀(Rr:It->Hp->Prop),
   (∀ J H2,ak H H2->Yl X.K J (nG X F τ (caps++ck es) H2) H2 items->Rr J H2) ->
   wpAny (model X.prog X.w) X.A (eval iter X.env) (λv s1=>wpAny (model X.prog X.w) X.A (pyIter v) (Gk X pins σ target Rr) X.xe s1) X.xe s:=by
 cases ik with
 | k9 =>
  obtain⟨⟨x,as⟩,hv,h6⟩:=aP h6;obtain⟨p,MF,rfl⟩:=b_ hv;obtain⟨M9,g3⟩:=aj h6;obtain⟨M8,g2⟩:=aj M9;obtain⟨M7,g1⟩:=aj M8;obtain rfl:x=_:=aak M7;obtain⟨y,hu,IF⟩:=aP g3;obtain rfl:as=[y]:=b8 hu;exact Mz L g1 (aak g2) (B9 _ IF) IF
 | seq =>
  have WH:=nr _ h6;cases es with
  | nil=>exact(aal h6).elim
  | cons c cs=>cases cs with
   | cons _ _=>exact(aal (aj h6).2).elim
   | nil=>exact My L (WH 0 c _ rfl rfl).1
 | cw p =>
  obtain⟨h6,g3⟩:=aj h6;obtain⟨xs,ha,IF⟩:=aP g3;exact MA L ha (aj h6).2 (hpe _ IF)
mutual
theorem aJ:∀(c:CE) (X:Cx) (S:Sx) (F:Addr->Prop) (L:Lk X S k Φ) (e:Expr),br S c e=true->PE X e (tD X F Φ c)/\PT X e (iK X F Φ c)
 | .cw p cs,X,S,F,L,e,h=>by
  obtain⟨args,ha,hb⟩:=aP (aj h).2;exact L.pr.e X _ _ k L.pX p e args ha F cs (kB cs X S F L args hb)
 | .bh,X,S,F,L,e,h=>by
  obtain⟨c,hv,h_1⟩:=aP h;obtain⟨j,p,rfl⟩:=C7 hv;obtain rfl:=B1 h_1;exact⟨DB,cP DB λ_=>rfl⟩
 | .bl b,X,S,F,L,e,h=>by
  obtain⟨c,hv,h_1⟩:=aP h;obtain⟨j,p,rfl⟩:=C7 hv;obtain rfl:=EJ h_1;exact⟨JP,cP JP λ_=>rfl⟩
 | .int i,X,S,F,L,e,h=>by
  obtain⟨c,hv,h_1⟩:=aP h;obtain⟨j,p,rfl⟩:=C7 hv;obtain rfl:=B2 h_1;exact⟨DC,cP DC λ_=>rfl⟩
 | .v i,X,S,F,L,e,h=>by
  obtain⟨x,hv,h'⟩:=aP h;obtain⟨p,rfl⟩:=jL hv;have:=Vz (F:=F) L h;exact⟨this,cP this λ_=>rfl⟩
 | .glo x i,X,S,F,L,e,h=>by
  obtain⟨y,hv,h_1⟩:=aP h;obtain⟨pos,rfl⟩:=jL hv;obtain⟨h_2,h3⟩:=aj h_1;obtain⟨sU,h2⟩:=aj h_2;obtain⟨Fe,h1⟩:=aj sU;obtain rfl:=aak Fe;obtain⟨u,hm,r⟩:=L.cs _ _ (aak h2);have this:PE X (.Name y pos) (tD X F Φ (.glo y i)):=PE.imp (uW (v:=.int i) (L.gl h1) hm r (jV h3)) λσ H Q ⟨R,τ,ρ,d,Si,ev,hq⟩=>by cases ev;exact hq _ H (ak.refl H) .int
  exact⟨this,cP this λ_=>rfl⟩
 | .glt x zs,X,S,F,L,e,h=>by
  obtain⟨y,hv,h_1⟩:=aP h;obtain⟨pos,rfl⟩:=jL hv;obtain⟨h_2,h3⟩:=aj h_1;obtain⟨sU,h2⟩:=aj h_2;obtain⟨Fe,h1⟩:=aj sU;obtain rfl:=aak Fe;obtain⟨u,hm,a,o,ao,n,rfl,q1,q2,q3,q4,q5⟩:=L.cs _ _ (aak h2);have this:PE X (.Name y pos) (tD X F Φ (.glt y zs)):=PE.imp (uW (v:=.ref a) (L.gl h1) hm rfl (jV h3)) λσ H Q ⟨R,τ,ρ,d,Si,ev,hq⟩=>by
   cases ev;exact hq _ H (ak.refl H) ⟨λ_=>none,λ_ _ h=>by simp at h,.tup (.inr ⟨o,ao,n,q1,q2,q3,q4,q5⟩) (nL zs)⟩
  exact⟨this,cP this λ_=>rfl⟩
 | .bin op a b,X,S,F,L,e,h=>by
  obtain⟨⟨l,o,r⟩,hv,h_1⟩:=aP h;obtain⟨pos,rfl⟩:=GY hv;obtain⟨h_2,h2⟩:=aj h_1;obtain⟨sU,h1⟩:=aj h_2;obtain rfl:o=Q2 op:=aak sU;have:=Ll (F:=F) (pos:=pos) L (op:=op) (aJ a X S F L _ h1).1 (aJ b X S F L _ h2).1;exact⟨this,cP this λ_=>rfl⟩
 | .neg a,X,S,F,L,e,h=>by
  obtain⟨⟨o,x⟩,hv,h_1⟩:=aP h;obtain⟨pos,rfl⟩:=C4 hv;obtain⟨h_2,h1⟩:=aj h_1;obtain rfl:o=.USub:=aak h_2;have:=Lg (F:=F) (Φ:=Φ) (pos:=pos) (aJ a X S F L _ h1).1;exact⟨this,cP this λ_=>rfl⟩
 | .not a,X,S,F,L,e,h=>by
  obtain⟨⟨o,x⟩,hv,h_1⟩:=aP h;obtain⟨pos,rfl⟩:=C4 hv;obtain⟨h_2,h1⟩:=aj h_1;obtain rfl:o=.Not:=aak h_2;exact⟨Lf (aJ a X S F L _ h1).1,K5 (aJ a X S F L _ h1).2⟩
 | .and cs,X,S,F,L,e,h=>by
  obtain⟨⟨o,vs⟩,hv,h_1⟩:=aP h;obtain⟨pos,rfl⟩:=wA hv;obtain⟨h_2,h1⟩:=aj h_1;obtain rfl:o=.And:=aak h_2;exact⟨(nB cs X S F L vs h1 pos).1,(nB cs X S F L vs h1 pos).2.pt⟩
 | .or cs,X,S,F,L,e,h=>by
  obtain⟨⟨o,vs⟩,hv,h_1⟩:=aP h;obtain⟨pos,rfl⟩:=wA hv;obtain⟨h_2,h1⟩:=aj h_1;obtain rfl:o=.Or:=aak h_2;exact⟨(qu cs X S F L vs h1 pos).1,(qu cs X S F L vs h1 pos).2.pt⟩
 | .ite c a b,X,S,F,L,e,h=>by
  obtain⟨⟨t,x,y⟩,hv,h_1⟩:=aP h;obtain⟨pos,rfl⟩:=KQ hv;obtain⟨h_2,h2⟩:=aj h_1;obtain⟨h0,h1⟩:=aj h_2;exact⟨Li (aJ c X S F L _ h0).2 (aJ a X S F L _ h1).1 (aJ b X S F L _ h2).1,K6 (aJ c X S F L _ h0).2 (aJ a X S F L _ h1).2 (aJ b X S F L _ h2).2⟩
 | .cmp op a b,X,S,F,L,e,h=>by
  obtain⟨⟨l,os,rs⟩,hv,h_1⟩:=aP h;obtain⟨pos,rfl⟩:=pI hv;obtain⟨h_2,h2⟩:=aj h_1;obtain⟨sU,h1⟩:=aj h_2;obtain⟨r,hr,Xq⟩:=aP h2;obtain⟨SF,h3⟩:=aj Xq;obtain rfl:os=[VY op]:=aak sU;obtain rfl:rs=[r]:=b8 hr;exact⟨PE.imp (pU (Ee L op) (aJ a X S F L _ h1).1 (aJ b X S F L _ SF).1 (nK h3)) λ_ _ _ sU=>xU sU,PT.imp (pS (Ee L op) (aJ a X S F L _ h1).1 (aJ b X S F L _ SF).1 (nK h3)) λ_ _ _ sU=>By sU⟩
 | .pd a t,X,S,F,L,e,h=>by
  obtain⟨⟨f,as⟩,hv,h_1⟩:=aP h;obtain⟨p,pos,rfl⟩:=b_ hv;obtain⟨h_2,h5⟩:=aj h_1;obtain⟨sU,h2⟩:=aj h_2;obtain⟨Fe,h1⟩:=aj sU;obtain rfl:f=_:=aak Fe;obtain⟨⟨e,g⟩,hw,ID⟩:=aP h5;obtain rfl:as=[e,g]:=jM hw;obtain⟨SA,h6⟩:=aj ID;obtain⟨x,hn,M9⟩:=aP h6;obtain⟨p',rfl⟩:∃ p,g=.Name x p:=jL hn;obtain⟨M8,h4⟩:=aj M9;obtain⟨M7,h3⟩:=aj M8;obtain rfl:=aak M7;have:=Lj (F:=F) (p:=p) (p':=p') (pos:=pos) L h1 (aak h2) h3 (aak h4) (aJ a X S F L _ SA).1 (λes=>bp SA es _);exact⟨this,cP this λ_=>rfl⟩
 | .call f cs,X,S,F,L,e,h=>by
  obtain⟨⟨x,as⟩,hv,h_1⟩:=aP h;obtain⟨p,pos,rfl⟩:=b_ hv;obtain⟨h_2,h4⟩:=aj h_1;obtain⟨sU,h3⟩:=aj h_2;obtain⟨h1,h2⟩:=aj sU;obtain⟨⟨y,ys⟩,hu,vv⟩:=aP h4;obtain rfl:as=y::ys:=yv hu;cases cs with
  | nil=>exact(aal vv).elim
  | cons c Kl =>
   have SD:=aj vv;have:=Hq (F:=F) (p:=p) (pos:=pos) L (aak h1) h2 h3 (fR (c::Kl) X S F L (y::ys) vv) (λes=>bp SD.1 es _) (λpos=>zx SD.2 pos _);exact⟨this,cP this λ_=>rfl⟩
 | .bf f cs,X,S,F,L,e,h=>by
  obtain⟨⟨x,as⟩,hv,h_1⟩:=aP h;obtain⟨p,pos,rfl⟩:=b_ hv;obtain⟨h_2,h4⟩:=aj h_1;obtain⟨sU,h3⟩:=aj h_2;obtain⟨Fe,h2⟩:=aj sU;obtain rfl:x=_:=aak Fe;obtain⟨⟨y,ys⟩,hu,vv⟩:=aP h4;obtain rfl:as=y::ys:=yv hu;cases cs with
  | nil=>exact(aal vv).elim
  | cons c Kl =>
   have SD:=aj vv;have:=Qw (F:=F) (p:=p) (pos:=pos) L h2 (aak h3) (fR (c::Kl) X S F L (y::ys) vv) (λes=>bp SD.1 es _) (λpos=>zx SD.2 pos _);exact⟨this,cP this λ_=>rfl⟩
 | .mF a,X,S,F,L,e,h=>by
  obtain⟨⟨x,as⟩,hv,h_1⟩:=aP h;obtain⟨p,pos,rfl⟩:=b_ hv;obtain⟨h_2,h4⟩:=aj h_1;obtain⟨sU,h2⟩:=aj h_2;obtain⟨Fe,h1⟩:=aj sU;obtain rfl:x=_:=aak Fe;obtain⟨y,hu,vv⟩:=aP h4;obtain rfl:as=[y]:=b8 hu;obtain⟨⟨z,bs⟩,hw,h4_3⟩:=aP vv;obtain⟨p',pos',rfl⟩:=b_ hw;obtain⟨Xl,h5⟩:=aj h4_3;obtain⟨Xk,h6⟩:=aj Xl;obtain⟨Xj,h3⟩:=aj Xk;obtain rfl:z=_:=aak Xj;obtain⟨u,Wz,ID⟩:=aP h5;obtain rfl:bs=[u]:=b8 Wz;have:=Hn (F:=F) (p:=p) (p':=p') (pos:=pos) (pos':=pos') L h1 (aak h2) h3 (aak h6) (aJ a X S F L _ ID).1 (λes=>bp ID es _);exact⟨this,cP this λ_=>rfl⟩
 | .ix a b,X,S,F,L,e,h=>by
  obtain⟨⟨l,r⟩,hv,h_1⟩:=aP h;obtain⟨pos,rfl⟩:=me hv;obtain⟨h1,h2⟩:=aj h_1;have:=Qv (F:=F) (pos:=pos) L (aJ a X S F L _ h1).1 (aJ b X S F L _ h2).1 (ux h2);exact⟨this,cP this λ_=>rfl⟩
 | .tup cs,X,S,F,L,e,h=>by
  obtain⟨es,hv,h_1⟩:=aP h;obtain⟨n,pos,rfl⟩:=md hv;obtain⟨h1,h2⟩:=aj h_1;have:=Le (F:=F) (n:=n) (pos:=pos) (fR cs X S F L es h1) (aak h2);exact⟨this,cP this λ_=>rfl⟩
 | .lst cs,X,S,F,L,e,h=>by
  obtain⟨es,hv,h_1⟩:=aP h;obtain⟨pos,rfl⟩:=zN hv;obtain⟨h1,h2⟩:=aj h_1;have:=Lh (F:=F) (pos:=pos) (fR cs X S F L es h1) (aak h2);exact⟨this,cP this λ_=>rfl⟩
 | .comp n t caps ik es ba elt,X,S,F,L,e,h=>by
  obtain⟨⟨kW,gens,sc⟩,hv,h_1⟩:=aP h;obtain⟨pos,rfl⟩:=C6 hv;obtain⟨⟨target,iter,ifs,a⟩,hg,h_2⟩:=aP h_1;obtain rfl:gens=_:=b8 hg;obtain⟨sU,h6⟩:=aj h_2;obtain⟨Fe,h5⟩:=aj sU;obtain⟨h_5,h4⟩:=aj Fe;obtain⟨h_6,h3⟩:=aj h_5;obtain⟨h_7,h2⟩:=aj h_6;obtain⟨h_8,h1⟩:=aj h_7;obtain rfl:a=0:=aak h_8;have nr:=λ(X':Cx) (F':Addr->Prop) (L':Lk X' (S.inner target caps sc) k Φ)=>jP ba X' _ F' L' ifs h4;have this:PE X (.ListComp kW [⟨target,iter,ifs,0⟩] sc pos) (tD X F Φ (.comp n t caps ik es ba elt)) :=
   Ho L (uw h1) h2 (λX' F' L'=>(aJ elt X' _ F' L' kW h5).1) (xR (aak h3) h4 nr) (EG L (λl=>fR es X S F L l) (λl=>jP es X S F L l) (λl=>kB es X S F L l) h6)
  exact⟨this,cP this λ_=>rfl⟩
theorem jP:∀(cs:List CE) (X:Cx) (S:Sx) (F:Addr->Prop) (L:Lk X S k Φ) (es:List Expr),bc S cs es=true->∀(j:Nat) (c:CE) (e:Expr),cs[j]?=some c->es[j]?=some e->PE X e (tD X F Φ c)/\PT X e (iK X F Φ c)
 | [],X,S,F,L,_,_=>λj c e h _=>by simp at h
 | _::_,X,S,F,L,[],h=>by exact(aal h).elim
 | c::cs,X,S,F,L,e::es,h=>λj c' e' hc he=>by
  replace h:=aj h;cases j with
  | zero=>simp at hc he;subst hc he;exact aJ c X S F L e h.1
  | succ j=>exact jP cs X S F L es h.2 j c' e' (by simpa using hc) (by simpa using he)
theorem kB:∀(cs:List CE) (X:Cx) (S:Sx) (F:Addr->Prop) (L:Lk X S k Φ) (es:List Expr),bc S cs es=true->sH X F Φ cs es
 | [],X,S,F,L,[],_=>trivial
 | [],X,S,F,L,_::_,h=>by exact(aal h).elim
 | _::_,X,S,F,L,[],h=>by exact(aal h).elim
 | c::cs,X,S,F,L,e::es,h=>by
  replace h:=aj h;exact⟨(aJ c X S F L e h.1).1,λl=>bp h.1 l _,ux h.1,kB cs X S F L es h.2⟩
theorem fR:∀(cs:List CE) (X:Cx) (S:Sx) (F:Addr->Prop) (L:Lk X S k Φ) (es:List Expr),bc S cs es=true->PA X es (yg X F Φ cs)
 | [],X,S,F,L,[],_=>PA.imp gS λ_ _ _ h=>pN h
 | [],X,S,F,L,_::_,h=>by exact(aal h).elim
 | _::_,X,S,F,L,[],h=>by exact(aal h).elim
 | c::cs,X,S,F,L,e::es,h=>by
  replace h:=aj h;exact PA.imp (cm (aJ c X S F L e h.1).1 (fR cs X S F L es h.2) (bp h.1 es _)) λ_ _ _ h=>jN h
theorem nB:∀(cs:List CE) (X:Cx) (S:Sx) (F:Addr->Prop) (L:Lk X S k Φ) (es:List Expr),bc S cs es=true->∀ pos,PE X (.BoolOp .And es pos) (tD X F Φ (.and cs))/\PW X (.BoolOp .And es pos) (iK X F Φ (.and cs))
 | [],X,S,F,L,_,_,pos=>⟨λ_ _ _ _ _ _ ⟨_,_,_,_,_,ev,_⟩=>(by cases ev),λ_ _ _ _ _ _ _ ⟨_,_,_,_,_,ev,_⟩=>by cases ev⟩
 | [c],X,S,F,L,[e],h,pos=>by
  replace h:=aj h;exact⟨PE.imp (D5 (aJ c X S F L e h.1).1) λ_ _ _ h=>Ju h,PW.imp (HF (aJ c X S F L e h.1).2) λ_ _ _ h=>Ge h⟩
 | [_],X,S,F,L,[],h,_=>by exact(aal h).elim
 | [_],X,S,F,L,_::_::_,h,_=>by exact(aal (aj h).2).elim
 | _::_::_,X,S,F,L,[],h,_=>by exact(aal h).elim
 | _::_::_,X,S,F,L,[_],h,_=>by exact(aal (aj h).2).elim
 | c::c'::cs,X,S,F,L,e::e'::es,h,pos=>by
  replace h:=aj h;have r:=nB (c'::cs) X S F L (e'::es) h.2 pos;exact⟨PE.imp (LM (aJ c X S F L e h.1).1 r.1) λ_ _ _ h=>Gf h,PW.imp (Lz (aJ c X S F L e h.1).2 r.2) λ_ _ _ h=>CD h⟩
theorem qu:∀(cs:List CE) (X:Cx) (S:Sx) (F:Addr->Prop) (L:Lk X S k Φ) (es:List Expr),bc S cs es=true->∀ pos,PE X (.BoolOp .Or es pos) (tD X F Φ (.or cs))/\PW X (.BoolOp .Or es pos) (iK X F Φ (.or cs))
 | [],X,S,F,L,_,_,pos=>⟨λ_ _ _ _ _ _ ⟨_,_,_,_,_,ev,_⟩=>(by cases ev),λ_ _ _ _ _ _ _ ⟨_,_,_,_,_,ev,_⟩=>by cases ev⟩
 | [c],X,S,F,L,[e],h,pos=>by
  replace h:=aj h;exact⟨PE.imp (D5 (aJ c X S F L e h.1).1) λ_ _ _ h=>LY h,PW.imp (Ly (aJ c X S F L e h.1).2) λ_ _ _ h=>HM h⟩
 | [_],X,S,F,L,[],h,_=>by exact(aal h).elim
 | [_],X,S,F,L,_::_::_,h,_=>by exact(aal (aj h).2).elim
 | _::_::_,X,S,F,L,[],h,_=>by exact(aal h).elim
 | _::_::_,X,S,F,L,[_],h,_=>by exact(aal (aj h).2).elim
 | c::c'::cs,X,S,F,L,e::e'::es,h,pos=>by
  replace h:=aj h;have r:=qu (c'::cs) X S F L (e'::es) h.2 pos;exact⟨PE.imp (QQ (aJ c X S F L e h.1).1 r.1) λ_ _ _ h=>HN h,PW.imp (QL (aJ c X S F L e h.1).2 r.2) λ_ _ _ h=>Eb h⟩
end
theorem iP(L:Lk X S k Φ)(c:CE)(e:Expr)(h:br S c e=true):PE X e (tD X F Φ c)/\PT X e (iK X F Φ c):=aJ c X S F L e h
theorem qt(L:Lk X S k Φ)(cs:List CE)(es:List Expr)(h:bc S cs es=true):sH X F Φ cs es:=kB cs X S F L es h
theorem pO(L:Lk X S k Φ)(cs:List CE)(es:List Expr)(h:bc S cs es=true):PA X es (yg X F Φ cs):=fR cs X S F L es h
end
section
variable {X:Cx}{S:Sx}{k:Nat}{F:Addr->Prop}{Φ:au}
theorem yF(L:Lk X S k Φ)(c:CE)(e:Expr)(h:br S c e=true):PE X e (tK X F Φ c):=by
 by_cases hv:∃ i,c=.v i
 ·obtain⟨i,rfl⟩:=hv;obtain⟨x,hx,ha⟩:=aP h;obtain⟨p,rfl⟩:=jL hx;obtain⟨hb,h3⟩:=aj ha;obtain⟨h1,h2⟩:=aj hb;unfold lB at h3;simp only[Bool.and_eq_true,Bool.not_eq_true']at h3;refine PE.imp (lu (i:=i) (by rw[L.N];exact aak h1) (L.TH h2) h3.1.1 h3.1.2) λσ H Q hq=>?_;obtain⟨R,τ,ρ,r,Si,ev,hq⟩:=hq;simp only[lb]at ev;split at ev
  ·rename_i d hd;split at ev
   ·cases ev;obtain⟨v,τ',hv,fG,rk⟩:=Si.move hd;exact⟨v,hv,hq v H R τ' (ak.refl H) (λ_ h=>h) fG rk⟩
   ·rename_i ho;cases ev;obtain⟨v,hv,rp⟩:=Si.rep i d hd;exact⟨v,hv,hq v H R τ (ak.refl H) (λ_ h=>h) Si (B_ rp (by simpa using ho))⟩
  ·cases ev
 ·refine PE.imp (iP (F:=F) L c e h).1 λσ H Q hq=>?_;obtain⟨R,τ,ρ,r,Si,ev,hq⟩:=hq;have XR:bd (aK Φ c ρ) (λd=>ok (keep c d ρ))=ok r:=by
   cases c<;>first | exact ev | exact absurd ⟨_,rfl⟩ hv
  obtain⟨d,ed,er⟩:=af XR;cases er;refine tD.intro Si ed λv H' e' r'=>?_;obtain⟨R',τ',h1,h2,h3⟩:=J5 Si e' r';exact hq v H' R' τ' e' h1 h2 h3
end
structure Kp(R:Addr->Prop)(H:Hp)(R':Addr->Prop)(H':Hp):Prop where
 r:∀ p,R p->R' p
 l:∀ p (o:HO),R p->H p=some o->H' p=some o
 t:∀ p xs,H p=some (.tup xs)->H' p=some (.tup xs)
 z:∀ p o u,H p=some (.iC o u)->H' p=some (.iC o u)
theorem Kp.refl(R:Addr->Prop)(H:Hp):Kp R H R H:=⟨λ_ h=>h,λ_ _ _ h=>h,λ_ _ h=>h,λ_ _ _ h=>h⟩
theorem Kp.of(e:ak H H')(h:∀ p,R p->R' p):Kp R H R' H':=⟨h,λp xs _ h=>e _ _ h,λp xs h=>e _ _ h,λp o u h=>e _ _ h⟩
theorem Kp.trans{R2:Addr->Prop}(a:Kp R H R1 H1)(b:Kp R1 H1 R2 H2):Kp R H R2 H2 :=
 ⟨λp h=>b.r p (a.r p h),λp xs h e=>b.l p xs (a.r p h) (a.l p xs h e),λp xs h=>b.t p xs (a.t p xs h),λp o u h=>b.z p o u (a.z p o u h)⟩
theorem Kp.TV(a:Kp R H R' H'){p:Addr}(h:aG K H p xs):aG K H' p xs:=by
 rcases h with (h | ⟨o,h⟩) | h
 ·exact .inl (.inl (a.t p xs h))
 ·exact .inl (.inr ⟨o,a.z p o _ h⟩)
 ·exact .inr h
theorem Kp.nd{K:PySem.W.Frag}{R R':Addr->Prop}{H H':Hp}(a:Kp R H R' H'){q:aL}{p:Addr}{xs:Nd}{f:Fl}(h:DI.nd K R (λ_=>False) (λ_=>none) H q p xs f):DI.nd K R' (λ_=>False) (λ_=>none) H' q p xs f:=by
 cases f with
 | ow=>exact nomatch h.2
 | fz=>exact⟨h.1.at λo e=>a.l p o h.2 e,a.r p h.2⟩
 | al=>exact h.2.elim
 | sc =>
  obtain⟨ys,rfl,h⟩:=h.DD;exact h.elim (λ⟨o,h⟩=>.inl ⟨o,a.z p o _ h⟩) .inr
theorem Kp.rep(a:Kp R H R' H'){k:aL}{v:V}{d:D}(h:Rep (aG K H) (DI.nd K R (λ_=>False) (λ_=>none) H) k v d):Rep (aG K H') (DI.nd K R' (λ_=>False) (λ_=>none) H') k v d :=
 h.imp (λ_ _ h=>a.TV h) λ_ _ _ _ h=>a.nd h
theorem Kp.VE(a:Kp R H R' H'){k:aL}{n:Nat}{v:List V}{d:List D}(h:ah (aG K H) (DI.nd K R (λ_=>False) (λ_=>none) H) k n v d):ah (aG K H') (DI.nd K R' (λ_=>False) (λ_=>none) H') k n v d :=
 h.imp (λ_ _ h=>a.TV h) λ_ _ _ _ h=>a.nd h
def wk(X:Cx)(F:Addr->Prop)(H':Hp)(v:V)(d:D):Prop:=∃ τt:Addr->Option aL,(∀ p q,τt p=some q->X.H₀ p=none)/\Rep (aG X.K H') (nd X.K (gP X F) (λ_=>False) τt H') [] v d
theorem jK.ret{v:V}{d:D}(Si:SI X F R τ ρ σ H)(h:jK X R τ H v d):wk X F H v d:=by
 obtain⟨τt,ht,rp⟩:=h;exact⟨τt,λp q e=>(ht p q e).2.2.1,rp.imp (λ_ _ h=>h) λ_ _ _ _ h=>h.mono (λh=>Si.rf _ h) id id⟩
def o4(X:Cx)(F:Addr->Prop)(D:Ends)(R:Addr->Prop)(H:Hp):Fo×aD->Prop
 | (.nx,ρ')=>∀ σ' H' R' τ',SI X F R' τ' ρ' σ' H'->Kp R H R' H'->D.nx σ' H'
 | (.bk,ρ')=>∀ σ' H' R' τ',SI X F R' τ' ρ' σ' H'->Kp R H R' H'->D.bk σ' H'
 | (.ct,ρ')=>∀ σ' H' R' τ',SI X F R' τ' ρ' σ' H'->Kp R H R' H'->D.ct σ' H'
 | (.rt d,_)=>∀ v H',ak X.H₀ H'->wk X F H' v d->D.rt v H'
def wJ(X:Cx)(F:Addr->Prop)(Φ:au)(c:CS):TS:=λD σ H=>∃ R τ ρ r,SI X F R τ ρ σ H/\rF Φ c ρ=ok r/\o4 X F D R H r
def sN(X:Cx)(F:Addr->Prop)(Φ:au)(cs:List CS):TS:=λD σ H=>∃ R τ ρ r,SI X F R τ ρ σ H/\aT Φ cs ρ=ok r/\o4 X F D R H r
noncomputable def Ml(sc:Scope)(x:Str):Bool:=decide (sc.names.lookup x=some .local)||decide (sc.names.lookup x=some .cell)
def lL(S:Sx)(i:Nat):Expr->Bool
 | .Name x _=>decide (S.N[i]?=some x)&&Ml S.sc x
 | _=>false
def Y6:Expr->Bool
 | .Name x _=>lB x
 | _=>true
def F3(S:Sx):List Nat->List Expr->Bool
 | [],es=>match es with
  | []=>true
  | _::_=>false
 | i::is,es=>match es with
  | []=>false
  | e::es=>lL S i e&&F3 S is es
def Cs(S:Sx):Tg->Expr->Bool
 | .nm i,e=>lL S i e
 | .tp is,e=>aW (Bs e) λes=>F3 S is es
noncomputable def lD:Expr->Bool
 | .ListComp _ _ _ _=>true
 | _=>false
noncomputable def isTup:Expr->Bool
 | .Tuple _ _ _=>true
 | _=>false
noncomputable def Vv(S:Sx)(tg v:Expr):Bool:=match tg,v with
 | .Name x p,.ListComp _ _ sc pos=>(S.sc.names.lookup x==some .local)&&(p.line==pos.line)&&!(sc.names.any λ(n,k)=>n==x&&(k==.local||k==.cell))
 | _,_=>false
noncomputable def KP:Expr->Option (Str×Pos)
 | .Name x p=>some (x,p)
 | _=>none
theorem zM{e:Expr}{x:Str}{p:Pos}(h:KP e=some (x,p)):e=.Name x p:=by
 cases e<;>first | exact nk h | (cases h;done) | (cases h;rfl)
def F2(S:Sx)(i j:Nat)(tg v:Expr):Bool :=
 aW (Bs tg) λts=>aW (two ts) λt=>aW (KP t.1) λx=>aW (KP t.2) λy=>aW (Bs v) λvs=>aW (two vs) λw =>
  decide (S.N[i]?=some x.1)&&decide (S.N[j]?=some y.1)&&decide (i≠j)&&decide (S.sc.names.lookup x.1=some .local)&&decide (S.sc.names.lookup y.1=some .local)&&decide (x.1≠y.1) &&
   decide (x.2.line=y.2.line)&&!([w.1,w.2].all (foldedForSure 8))&&!([w.1,w.2].all (constantsAlone 8))&&decide (([w.1,w.2].any λe=>match e with | .Starred ..=>true | _=>false)=false)
def Te(S:Sx)(it:CI)(e:Expr):Bool:=match it with
 | .k9 a=>aW (eH e) λw=>decide (w.1=("range" : Str))&&fV S.sc w.1&&decide (w.1∈S.bl)&&aW (one w.2) λy=>br S a y
 | .seq a=>br S a e&&ff e
 | .LG p es=>T_ e&&aW (S.px.pi p S.sc S.bl e) λxs=>bc S es xs
noncomputable def Eg:CI->Bool
 | .LG p _=>decide (1100<=p)
 | _=>true
noncomputable def Bu:Stmt->Option (List Expr×Expr)
 | .Assign ts v _=>some (ts,v)
 | _=>none
theorem pJ{s:Stmt}{ts:List Expr}{v:Expr}(h:Bu s=some (ts,v)):∃ p,s=.Assign ts v p:=by
 cases s<;>first | exact nk h | (cases h;done) | (cases h;exact⟨_,rfl⟩)
noncomputable def PC:Stmt->Option (Option Expr)
 | .Return v _=>some v
 | _=>none
theorem GS{s:Stmt}{v:Option Expr}(h:PC s=some v):∃ p,s=.Return v p:=by
 cases s<;>first | exact nk h | (cases h;done) | (cases h;exact⟨_,rfl⟩)
noncomputable def PJ:Stmt->Option Expr
 | .Expr v _=>some v
 | _=>none
theorem uH{s:Stmt}{v:Expr}(h:PJ s=some v):∃ p,s=.Expr v p:=by
 cases s<;>first | exact nk h | (cases h;done) | (cases h;exact⟨_,rfl⟩)
noncomputable def U5:Stmt->Option (Expr×Operator×Expr)
 | .AugAssign o p v _=>some (o,p,v)
 | _=>none
theorem TJ{s:Stmt}{v:Expr}{p:Operator}(h:U5 s=some (o,p,v)):∃ q,s=.AugAssign o p v q:=by
 cases s<;>first | exact nk h | (cases h;done) | (cases h;exact⟨_,rfl⟩)
noncomputable def PF:Stmt->Option (Expr×List Stmt×List Stmt)
 | .If t x y _=>some (t,x,y)
 | _=>none
theorem GU{s:Stmt}{t:Expr}{x y:List Stmt}(h:PF s=some (t,x,y)):∃ q,s=.If t x y q:=by
 cases s<;>first | exact nk h | (cases h;done) | (cases h;exact⟨_,rfl⟩)
noncomputable def PB:Stmt->Option (Expr×List Stmt×List Stmt)
 | .While t x y _=>some (t,x,y)
 | _=>none
theorem GR{s:Stmt}{t:Expr}{x y:List Stmt}(h:PB s=some (t,x,y)):∃ q,s=.While t x y q:=by
 cases s<;>first | exact nk h | (cases h;done) | (cases h;exact⟨_,rfl⟩)
noncomputable def PH:Stmt->Option (Expr×Expr×List Stmt×List Stmt)
 | .For tg it x y _=>some (tg,it,x,y)
 | _=>none
theorem GV{s:Stmt}{it:Expr}{x y:List Stmt}(h:PH s=some (tg,it,x,y)):∃ q,s=.For tg it x y q:=by
 cases s<;>first | exact nk h | (cases h;done) | (cases h;exact⟨_,rfl⟩)
noncomputable def zO:Expr->Option (Expr×Str×Pos)
 | .Attribute o a p=>some (o,a,p)
 | _=>none
theorem wB{e:Expr}{a:Str}{p:Pos}(h:zO e=some (o,a,p)):e=.Attribute o a p:=by
 cases e<;>first | exact nk h | (cases h;done) | (cases h;rfl)
noncomputable def uI:Expr->Option (Expr×List Expr×List Keyword×Pos)
 | .Call f as ks p=>some (f,as,ks,p)
 | _=>none
theorem tN{e f:Expr}{ks:List Keyword}{p:Pos}(h:uI e=some (f,as,ks,p)):e=.Call f as ks p:=by
 cases e<;>first | exact nk h | (cases h;done) | (cases h;rfl)
noncomputable def isNil{α:Type}:List α->Bool
 | []=>true
 | _::_=>false
theorem qW{α:Type}{l:List α}(h:isNil l=true):l=[]:=by cases l<;>first | rfl | cases h
noncomputable def Im:Stmt->Bool
 | .Raise _ _ _=>true
 | _=>false
noncomputable def MD:Stmt->Bool
 | .Pass _=>true
 | _=>false
theorem OR{s:Stmt}(h:MD s=true):∃ p,s=.Pass p:=by cases s<;>first | exact nk h | (cases h;done) | exact⟨_,rfl⟩
noncomputable def RC:Stmt->Bool
 | .Break _=>true
 | _=>false
theorem RB{s:Stmt}(h:RC s=true):∃ p,s=.Break p:=by cases s<;>first | exact nk h | (cases h;done) | exact⟨_,rfl⟩
noncomputable def Wq:Stmt->Bool
 | .Continue _=>true
 | _=>false
theorem Uo{s:Stmt}(h:Wq s=true):∃ p,s=.Continue p:=by cases s<;>first | exact nk h | (cases h;done) | exact⟨_,rfl⟩
theorem A7{i:Nat}{e:Expr}(h:lL S i e=true):∃ x p,e=.Name x p:=by
 cases e<;>first | exact⟨_,_,rfl⟩ | exact(aal h).elim
theorem Ip{e:Expr}(h:isNm e=true):∃ x p,e=.Name x p:=by cases e<;>first | exact nk h | (cases h;done) | exact⟨_,_,rfl⟩
theorem B3{e:Expr}(h:lD e=true):∃ x g sc p,e=.ListComp x g sc p:=by cases e<;>first | exact nk h | (cases h;done) | exact⟨_,_,_,_,rfl⟩
mutual
noncomputable def F1(S:Sx):CS->Stmt->Bool
 | .asg t e,s0=>aW (Bu s0) λz=>aW (one z.1) λtg=>br S e z.2&&Cs S t tg&&!(isTup z.2&&isTup tg)&&(!lD z.2||isNm tg)
 | .par i j a b,s0=>aW (Bu s0) λz=>aW (one z.1) λtg=>br S (.tup [a,b]) z.2&&F2 S i j tg z.2
 | .ret e,s0=>aW (PC s0) λz=>aW z λv=>br S e v
 | .rs _,s0=>Im s0
 | .mut p i es,s0=>aW (S.px.pm p S.sc S.bl s0) λz=>lL S i z.1&&Y6 z.1&&bc S es z.2
 | .lsn i es,s0=>aW (Bu s0) λz=>aW (one z.1) λtg=>lL S i tg&&br S (.lst es) z.2
 | .app i e,s0=>aW (PJ s0) λc=>aW (uI c) λz=>isNil z.2.2.1&&aW (zO z.1) λa=>decide (a.2.1=("append" : Str))&&lL S i a.1&&Y6 a.1&&(a.2.2.endLine==z.2.2.2.line)&&aW (one z.2.1) λv=>br S e v
 | .ex e,s0=>aW (PJ s0) λv=>br S e v&&!lD v
 | .ifs c a b,s0=>aW (PF s0) λz=>br S c z.1&&cE S a z.2.1&&cE S b z.2.2
 | .KI c b,s0=>aW (PB s0) λz=>isNil z.2.2&&br S c z.1&&cE S b z.2.1
 | .fr t it b,s0=>aW (PH s0) λz=>isNil z.2.2.2&&Cs S t z.1&&Te S it z.2.1&&(iX z.1||Eg it)&&cE S b z.2.2.1
noncomputable def cE(S:Sx):List CS->List Stmt->Bool
 | [],ss=>match ss with
  | []=>true
  | _::_=>false
 | c::cs,ss=>match ss with
  | []=>false
  | s::ss=>F1 S c s&&cE S cs ss
end
structure Bl(px:Px)(Φ:au):Prop where
 m:∀(X:Cx) (sc:Scope) (bl:List Str) (k:Nat),PX X sc bl k->X.N.Nodup->(∀ x,X.fn x=true)->∀(p:Nat) (st:Stmt) (x:Str) (pos:Pos) (args:List Expr),px.pm p sc bl st=some (.Name x pos,args)->∀(i:Nat),X.N[i]?=some x->L2.Loc X.env.scope x->PE X (.Name x pos) (uM i) ->
  ∀(F:Addr->Prop) (cs:List CE),sH X F Φ cs args->PS X st (wJ X F Φ (.mut p i cs))
structure oB(X:Cx)(S:Sx)(k:Nat)(Φ:au):Prop extends Lk X S k Φ where
 lG:∀ x,X.fn x=true
 px:PassesOwn (model X.prog X.w) X.A X.env X.xe
 fk:S.sc.kind=.function
 pm:Bl S.px Φ
section
variable {X:Cx}{S:Sx}{k:Nat}{F:Addr->Prop}{Φ:au}
theorem oB.loc(L:oB X S k Φ){x:Str}(h:Ml S.sc x=true):L2.Loc X.env.scope x:=by
 unfold L2.Loc;rw[L.sc];unfold Ml at h;rw[Bool.or_eq_true]at h;exact h.imp aak aak
theorem JN(L:oB X S k Φ){x:Str}{p:Pos}{l:Nat}{elt:Expr}{gens:List Comprehension}{sc:Scope}:swapsWith (.ListComp elt gens sc pos) (some (.Name x p)) l X.env=pure (Vv S (.Name x p) (.ListComp elt gens sc pos)):=by
 have hb:X.env.blockKind=.function:=by unfold Env.blockKind;rw[L.sc,L.fk];rfl
 have hk:(X.env.kindOf x==some .local)=(S.sc.names.lookup x==some .local):=by
  unfold Env.kindOf;rw[L.sc]
 unfold swapsWith Vv;simp only[hb,hk];rfl
theorem rX{c:CE}{e:Expr}(h:br S c e=true)(hc:lD e=false)(t:Option Expr)(l:Nat)(env:Env):swapsWith e t l env=pure false:=by
 cases e<;>first | rfl | (cases hc;done) | (cases c<;>exact(aal h).elim)
def XB:List Nat->JA
 | []=>Nj
 | i::is=>Fx (rn i) (XB is)
theorem D2(L:oB X S k Φ){i:Nat}{e:Expr}(h:lL S i e=true):PG X e (rn i):=by
 cases e<;>try (exact(aal h).elim;done)
 replace h:=aj h;exact uV L.nd (by rw[L.N];exact aak h.1) (L.loc h.2) (.inl (L.lG _))
theorem HV{i:Nat}{e:Expr}(h:lL S i e=true)(es:List Expr)(env:Env):assignEach (e::es) env=(false,assign e env)::assignEach es env:=by
 cases e<;>first | rfl | (exact(aal h).elim;done)
theorem D1(L:oB X S k Φ):∀ {is:List Nat} {es:List Expr},F3 S is es=true->Pj X es (XB is)/\(assignEach es X.env).length=is.length/\(assignEach es X.env).findIdx? (·.1)=none
 | [],[],_=>⟨Al,rfl,rfl⟩
 | [],_::_,h=>by exact(aal h).elim
 | _::_,[],h=>by exact(aal h).elim
 | i::is,e::es,h=>by
  replace h:=aj h;obtain⟨h1,h2,h3⟩:=D1 L h.2;have he:=HV h.1 es X.env;refine⟨xf (D2 L h.1) h1 (by rw[he];rfl),by rw[he];simp[h2],?_⟩;rw[he,List.findIdx?_cons];simp[h3]
theorem wU{H:Hp}{R:Addr->Prop}{Q:St->Hp->Prop}:∀ {is:List Nat} {vs:List V} {ds:List D} {kp:aL} {n:Nat} {σ:St} {τ:Addr->Option aL} {ρ ρ':aD},ah (aG X.K H) (nd X.K R (λ_=>False) (λ_=>none) H) kp n vs ds->SI X F R τ ρ σ H->jy is ds ρ=ok ρ' ->
  (∀ σ' τ',SI X F R τ' ρ' σ' H->Q σ' H)->XB is vs σ H Q
 | [],_,_,_,_,σ,τ,_,_,.nil,Si,e,hq=>by
  cases e;exact⟨rfl,hq σ τ Si⟩
 | [],_,_,_,_,_,_,_,_,.cons _ _,_,e,_=>by cases e
 | _::_,_,_,_,_,_,_,_,_,.nil,_,e,_=>by cases e
 | i::is,_,_,_,_,σ,τ,ρ,_,.cons (v:=v) (d:=d) h t,Si,e,hq=>by
  change (if _ then _ else _)=_ at e;split at e
  ·rename_i hi;obtain⟨τ',fG⟩:=Si.set (i:=i) (pQ (τ':=τ) (Rep.vd h)) hi;exact⟨_,_,rfl,wU t fG e hq⟩
  ·cases e
theorem zQ(L:oB X S k Φ){t:Tg}(h:Cs S t tg=true):∃ g,PG X tg g/\∀(v:V) (σ:St) (H:Hp) (Q:St->Hp->Prop) (R:Addr->Prop) (τ:Addr->Option aL) (ρ ρ':aD) (d:D),SI X F R τ ρ σ H->jK X R τ H v d->bT t d ρ=ok ρ' ->
  (∀ σ' τ',SI X F R τ' ρ' σ' H->Q σ' H)->g v σ H Q:=by
 cases t with
 | nm i =>
  refine⟨rn i,D2 L h,λv σ H Q R τ ρ ρ' d Si rk e hq=>?_⟩;simp only[bT]at e;split at e
  ·rename_i hi;cases e;obtain⟨τ',fG⟩:=Si.set rk hi;exact hq _ τ' fG
  ·cases e
 | tp is =>
  obtain⟨es,hx,ha⟩:=aP h;obtain⟨nn,pp,rfl⟩:=md hx;obtain⟨h1,h2,h3⟩:=D1 L ha;refine⟨_,D0 L.calm h1 h2 h3,λv σ H Q R τ ρ ρ' d Si rk e hq=>?_⟩;cases d<;>try (simp[bT]at e;done)
  rename_i ds;simp only[bT]at e;split at e
  ·cases e
  ·rename_i ho;obtain⟨τt,ht,rp⟩:=rk;cases rp with
   | @tup _ p xs _ hp rs =>
    have yJ:ah (aG X.K H) (nd X.K R (λ_=>False) (λ_=>none) H) [] 0 xs ds:=ah.without (P:=cL) (λ_ _ h=>h) (λk k' p xs f hf h=>by
     cases f with
     | ow=>cases hf
     | fz=>exact h
     | al=>exact h.2.elim
     | sc=>exact h) rs (by simpa using ho) _ _
    refine⟨p,xs,rfl,hp,?_,wU yJ Si e hq⟩;rw[rs.length];have:∀(is:List Nat) (ds:List D) (ρ ρ':aD),jy is ds ρ=ok ρ'->ds.length=is.length:=by
     intro is;induction is with
     | nil=>intro ds ρ ρ' e;cases ds with | nil=>rfl | cons _ _=>cases e
     | cons i is ih=>intro ds ρ ρ' e;cases ds with
      | nil=>cases e
      | cons d ds =>
       change (if _ then _ else _)=_ at e;split at e
       ·simp[ih ds _ _ e]
       ·cases e
    exact this _ _ _ _ e
end
section
variable {X:Cx}{S:Sx}{k:Nat}{F:Addr->Prop}{Φ:au}
theorem Dm(L:oB X S k Φ){t:Tg}{e:CE}{v:Expr}(he:br S e v=true)(ht:Cs S t tg=true)(hp:(isTup v&&isTup tg)=false)(MJ:swapsWithSole [tg] v pos.line X.env=pure false):PS X (.Assign [tg] v pos) (wJ X F Φ (.asg t e)):=by
 obtain⟨g,hg,B8⟩:=zQ (F:=F) L ht;have JH:(∃ x p,tg=.Name x p)\/∃ es n p,tg=.Tuple es n p:=by
  cases t with
  | nm i=>cases tg<;>first | exact .inl ⟨_,_,rfl⟩ | exact(aal ht).elim
  | tp is=>cases tg<;>first | exact .inr ⟨_,_,_,rfl⟩ | exact(aal ht).elim
 have each:(assignEach [tg] X.env).map (·.2)=[assign tg X.env]:=by
  rcases JH with ⟨x,p,rfl⟩ | ⟨es,n,p,rfl⟩<;>rfl
 have hw:swappedStores [tg] v X.env=pure none:=by
  rcases JH with ⟨x,p,rfl⟩ | ⟨es,n,p,rfl⟩
  ·first | rfl | (cases v<;>rfl)
  ·cases v<;>first | rfl | exact absurd hp (by simp[isTup])
 refine PS.imp (DX (yF (F:=F) L.toLk e v he) hg MJ hw each) λD σ H hq=>?_;obtain⟨R,τ,ρ,r,Si,ev,hq⟩:=hq;obtain⟨r1,CT,ev⟩:=af ev;obtain⟨ρ',eρ,ev⟩:=af ev;cases ev;exact⟨R,τ,ρ,r1,Si,CT,λv H' R' τ' es hR fG rk=>B8 v σ H' _ R' τ' r1.2 ρ' r1.1 fG rk eρ λσ' yo Gh=>hq σ' H' R' yo Gh (Kp.of es hR)⟩
theorem Hk(L:oB X S k Φ){i n:Nat}{t:Tg}{ik:IK}{x:Str}{p Qq:Pos}{gens:List Comprehension}{sc:Scope}
  (he:br S (.comp n t caps ik es ba elt) (.ListComp kW gens sc pos)=true) (hn:lL S i (.Name x p)=true) (MJ:swapsWith (.ListComp kW gens sc pos) (some (.Name x p)) Qq.line X.env=pure true) :
  PS X (.Assign [.Name x p] (.ListComp kW gens sc pos) Qq) (wJ X F Φ (.asg (.nm i) (.comp n t caps ik es ba elt))):=by
 intro pins s σ H D I hq;obtain⟨R,τ,ρ,r,Si,ev,hq⟩:=hq;obtain⟨r1,CT,ev⟩:=af ev;obtain⟨ρ',eρ,ev⟩:=af ev;cases ev;have CT:bd (aK Φ (.comp n t caps ik es ba elt) ρ) (λd=>ok (keep (.comp n t caps ik es ba elt) d ρ))=ok r1:=CT;obtain⟨d,ed,CT⟩:=af CT;cases CT;have hg:=D2 L hn;rw[exec_Assign_Name_used _ _ _ _ MJ];refine aah (ace (aah ?_));obtain⟨⟨e0,g0,s0⟩,hv0,OV⟩:=aP he;cases hv0;obtain⟨⟨target,iter,ifs,a⟩,W2,hz⟩:=aP OV;obtain rfl:gens=_:=b8 W2;obtain⟨hz,h6⟩:=aj hz;obtain⟨hz,h5⟩:=aj hz;obtain⟨hz,h4⟩:=aj hz;obtain⟨hz,h3⟩:=aj hz;obtain⟨hz,h2⟩:=aj hz;obtain⟨hz,h1⟩:=aj hz;obtain rfl:a=0:=aak hz;have hC:=xR (aak h3) h4 (λ(X':Cx) (F':Addr->Prop) (L':Lk X' (S.inner target caps sc) k Φ)=>jP ba X' _ F' L' ifs h4);have run:wpAny (model X.prog X.w) X.A (comprehension (.ListComp kW [⟨target,iter,ifs,0⟩] sc pos) sc X.env (firstIterPos [⟨target,iter,ifs,0⟩] pos) (newList []) false (eval iter X.env) (some (assign (.Name x p) X.env))) (λ_ s'=>SP X pins D .next s') X.xe s:=by
  refine xT (F:=F) (k:=k) L.toLk (uw h1) h2 (λX' F' L'=>(iP (F:=F') L' elt kW h5).1) hC ?_ (use:=some (assign (.Name x p) X.env)) (Post:=λ_ s'=>SP X pins D .next s') I Si ed ?_
  ·exact EG L.toLk (λl=>pO (F:=F) L.toLk es l) (λl=>jP es X S F L.toLk l) (λl=>qt L.toLk es l) h6
  ·intro acc C H1 s1 m CO hc IX sm rt;obtain⟨c1,c2,c3,c4,c5⟩:=hc;obtain⟨R',τ',hR,fG,rk⟩:=J5 (e:=.comp n t caps ik es ba elt) Si sm rt;have I1:Inv X pins σ H1 s1:=IX s1.heap (.refl ..);obtain⟨oC,esC,epC,hoC,ZK,hrC⟩:=CO;have cfs:C∉X.fs:=λz=>by
    obtain⟨_,o,ho,_⟩:=I1.ok.lE.mem z;exact absurd (aan (aap ho) c2) (aaF _)
   have I2:Inv X ((C,oC)::pins) σ H1 s1:=I1.kD λq hq=>by
    rcases List.mem_cons.mp hq with rfl | hq
    ·exact⟨hoC,c5,c1,cfs,λv z=>by rw[ZK]at z;cases z⟩
    ·exact I1.pin q (aav _ hq)
   simp only[bT]at eρ;split at eρ
   ·rename_i hi;cases eρ;obtain⟨τ2,Gg⟩:=fG.set rk hi;show wpAny _ _ (assign (.Name x p) X.env (.ref acc)) _ _ _;refine aaC (hg ((C,oC)::pins) s1 σ H1 (.ref acc) (.ref acc) (λσ' H'=>σ'=σ.set i (some (.ref acc))/\H'=H1) I2 rfl ⟨rfl,rfl⟩) (λ_ s2 h2=>?_) λ_ _ z=>z;obtain⟨σ',H',I3,rfl,rfl⟩:=h2;have hC3:=(I3.pin (C,oC) (aav _ aao)).1;refine⟨m,⟨oC,esC,epC,hC3,ZK,hrC⟩,λh' EN=>?_⟩;have I4:Inv X pins (σ.set i (some (.ref acc))) H' s2:=I3.kD λq hq=>I3.pin q (aav _ (aam _ hq));have I5:=I4.turned (t':=s2.toks) (h':=h') (it:=C) (λb o hb e=>(EN.2 b hb).trans e) c5 c1 (.inr c2) c3 c4;exact⟨_,H',I5,hq _ H' R' τ2 Gg (Kp.of sm hR)⟩
   ·cases eρ
 exact aah (aaC run (λ_ s' h=>aaq (aaq h)) λ_ _ z=>z)
theorem K8(L:oB X S k Φ){e:CE}{v:Expr}(he:br S e v=true):PS X (.Return (some v) pos) (wJ X F Φ (.ret e)):=by
 refine PS.imp (yL (yF (F:=F) L.toLk e v he)) λD σ H hq=>?_;obtain⟨R,τ,ρ,r,Si,ev,hq⟩:=hq;obtain⟨r1,CT,ev⟩:=af ev;cases ev;exact⟨R,τ,ρ,r1,Si,CT,λv H' R' τ' es hR fG rk=>hq v H' fG.same (rk.ret fG)⟩
theorem Qp(L:oB X S k Φ){e:CE}{v:Expr}(he:br S e v=true)(hnc:lD v=false):PS X (.Expr v pos) (wJ X F Φ (.ex e)):=by
 refine PS.imp (pT (iP (F:=F) L.toLk e v he).1 (rX he hnc _ _ _)) λD σ H hq=>?_;obtain⟨R,τ,ρ,r,Si,ev,hq⟩:=hq;obtain⟨d,ed,ev⟩:=af ev;cases ev;exact tD.intro Si ed λv H' es rv=>hq σ H' R τ (Si.go es) (Kp.of es λ_ h=>h)
theorem o4.from{D:Ends}{r:Fo×aD}(h:o4 X F D R H r)(kp:Kp R H R1 H1):o4 X F D R1 H1 r:=by
 obtain⟨fo,ρ'⟩:=r;cases fo with
 | nx=>exact λσ' H' R' τ' Si k2=>h σ' H' R' τ' Si (kp.trans k2)
 | bk=>exact λσ' H' R' τ' Si k2=>h σ' H' R' τ' Si (kp.trans k2)
 | ct=>exact λσ' H' R' τ' Si k2=>h σ' H' R' τ' Si (kp.trans k2)
 | rt d=>exact h
theorem Qo(L:oB X S k Φ){c:CE}{a b:List CS}{t:Expr}{x y:List Stmt}(hc:br S c t=true)(ha:g9 X x (sN X F Φ a))(hb:g9 X y (sN X F Φ b)):PS X (.If t x y pos) (wJ X F Φ (.ifs c a b)):=by
 refine PS.imp (JU (iP (F:=F) L.toLk c t hc).2 ha hb) λD σ H hq=>?_;obtain⟨R,τ,ρ,r,Si,ev,hq⟩:=hq;obtain⟨w,ew,ev⟩:=af ev;refine⟨R,τ,ρ,w,Si,ew,λH1 e1=>?_⟩;cases w with
 | true=>rw[if_pos rfl]at ev ⊢;exact⟨R,τ,ρ,r,Si.go e1,ev,hq.from (Kp.of e1 λ_ h=>h)⟩
 | false=>rw[if_neg (by simp)]at ev ⊢;exact⟨R,τ,ρ,r,Si.go e1,ev,hq.from (Kp.of e1 λ_ h=>h)⟩
theorem Dl(L:oB X S k Φ){c:CE}{b:List CS}{t:Expr}{x:List Stmt}(hc:br S c t=true)(hb:g9 X x (sN X F Φ b)):PS X (.While t x [] pos) (wJ X F Φ (.KI c b)):=by
 refine PS.imp (DU L.px (iP (F:=F) L.toLk c t hc).2 hb) λD σ H hq=>?_;obtain⟨R,τ,ρ,r,Si,ev,hq⟩:=hq;obtain⟨n,hn⟩:=nJ ev;refine⟨λm σ' H'=>∃ R' τ' ρ',SI X F R' τ' ρ' σ' H'/\Kp R H R' H'/\cB m _ ρ'=ok r,⟨n,R,τ,ρ,Si,Kp.refl R H,hn⟩,?_⟩;rintro m σ1 H1 ⟨R1,τ1,ρ1,we,k1,e1⟩;cases m with
 | zero=>simp[cB]at e1
 | succ m =>
  rw[cB]at e1;obtain⟨st,es,e1⟩:=af e1;obtain⟨w,ew,es⟩:=af es;refine⟨R1,τ1,ρ1,w,we,ew,λH2 e2=>?_⟩;cases w with
  | false =>
   rw[if_neg (by simp)]at es ⊢;cases es;cases e1;exact hq σ1 H2 R1 τ1 (we.go e2) (k1.trans (Kp.of e2 λ_ h=>h))
  | true =>
   rw[if_pos rfl]at es ⊢;obtain⟨⟨fo,ρ2⟩,eb,es⟩:=af es;refine⟨λσ' H'=>∃ R' τ' ρ',SI X F R' τ' ρ' σ' H'/\Kp R H R' H'/\cB m _ ρ'=ok r,λσ' H' h=>⟨m,abb m,h⟩,R1,τ1,ρ1,(fo,ρ2),we.go e2,eb,?_⟩;have k2:Kp R H R1 H2:=k1.trans (Kp.of e2 λ_ h=>h);cases fo with
   | nx=>cases es;exact λσ' H' R' τ' fG k3=>⟨R',τ',ρ2,fG,k2.trans k3,e1⟩
   | ct=>cases es;exact λσ' H' R' τ' fG k3=>⟨R',τ',ρ2,fG,k2.trans k3,e1⟩
   | bk=>cases es;cases e1;exact λσ' H' R' τ' fG k3=>hq σ' H' R' τ' fG (k2.trans k3)
   | rt d=>cases es;cases e1;exact hq
def nh(X:Cx)(F:Addr->Prop)(Φ:au)(t:Tg)(b:List CS)(R1:Addr->Prop)(H1:Hp)(r:Fo×aD)(items:List DI.D)(i:Nat)(σ:St)(H:Hp):Prop :=
 ∃ R' τ' ρ',SI X F R' τ' ρ' σ H/\Kp R1 H1 R' H/\dO (λd ρ=>bT t d ρ) (λρ=>aT Φ b ρ) (items.drop i) ρ'=ok r
theorem rA{g:TG}{t:Tg}{b:List CS}{D:Ends}{r:Fo×aD}{items:List DI.D}{q:aL}
  (B8:∀(v:V) (σ:St) (H:Hp) (Q:St->Hp->Prop) (R:Addr->Prop) (τ:Addr->Option aL) (ρ ρ':aD) (d:DI.D),SI X F R τ ρ σ H->jK X R τ H v d->bT t d ρ=ok ρ'->(∀ σ' τ',SI X F R τ' ρ' σ' H->Q σ' H)->g v σ H Q)
  (rs:ah (aG X.K H1) (nd X.K R1 (λ_=>False) (λ_=>none) H1) q 0 xs items) (hq:o4 X F D R1 H1 r) (i:Nat) (x:V) (σ:St) (H:Hp) (hx:xs[i]?=some x) (h:nh X F Φ t b R1 H1 r items i σ H) :
  g x σ H λσ2 H2=>sN X F Φ b { D with nx:=nh X F Φ t b R1 H1 r items (i+1),ct:=nh X F Φ t b R1 H1 r items (i+1),bk:=D.nx } σ2 H2:=by
 obtain⟨R',τ',ρ',Si,kp,ef⟩:=h;obtain⟨d,hd,rd⟩:=rs.zh hx;have hi:i<items.length:=by
  by_cases hi:i<items.length
  ·exact hi
  ·rw[List.getElem?_eq_none (by left)]at hd;cases hd
 have xy:items.drop i=d::items.drop (i+1):=by
  rw[List.drop_eq_getElem_cons hi];rw[List.getElem?_eq_getElem hi]at hd;cases hd;rfl
 rw[xy,dO]at ef;obtain⟨ρ1,e1,ef⟩:=af ef;obtain⟨⟨fo,ρ2⟩,e2,ef⟩:=af ef;refine B8 x σ H _ R' τ' ρ' ρ1 d Si (pQ (Rep.vd (kp.rep rd))) e1 λσ' yo fG=>⟨R',yo,ρ1,(fo,ρ2),fG,e2,?_⟩
 cases fo with
 | nx=>exact λσ3 H3 R3 τ3 CF k3=>⟨R3,τ3,ρ2,CF,kp.trans k3,ef⟩
 | ct=>exact λσ3 H3 R3 τ3 CF k3=>⟨R3,τ3,ρ2,CF,kp.trans k3,ef⟩
 | bk=>cases ef;exact λσ3 H3 R3 τ3 CF k3=>hq σ3 H3 R3 τ3 CF (kp.trans k3)
 | rt d=>cases ef;exact hq
theorem p5{t:Tg}{b:List CS}{D:Ends}{r:Fo×aD}{items:List DI.D}{n:Nat}(hn:n=items.length)(hq:o4 X F D R1 H1 r)(σ:St)(H:Hp)(h:nh X F Φ t b R1 H1 r items n σ H):D.nx σ H:=by
 obtain⟨R',τ',ρ',Si,kp,ef⟩:=h;subst hn;rw[List.drop_length,dO]at ef;cases ef;exact hq σ H R' τ' Si kp
theorem AN(ρ:aD):iC [] ρ=ρ:=by
 unfold iC;apply acj;intro i;rw[List.getElem?_mapIdx];cases ρ[i]? with
 | none=>rfl
 | some o=>simp
theorem AR{v:V}{d:DI.D}(Si:SI X F R τ ρ σ H)(es:ak H H')(r:bM X.K (gP X F) R τ fv H H' v d):
  ∃ R' τ',(∀ p,R p->R' p)/\SI X F R' τ' (if aI bE d then iC fv ρ else ρ) σ H'/\Rep (aG X.K H') (nd X.K R' (λ_=>False) (λ_=>none) H') [] v (aq aC d):=by
 by_cases ha:aI bE d=true
 ·rw[if_pos ha];exact vA Si es r
 ·rw[if_neg ha];have r':bM X.K (gP X F) R τ [] H H' v d:=by
   obtain⟨τt,fr,rp⟩:=r;exact⟨τt,fr,Rep.l_ (P:=bE) (λ_ _ h=>h) (λk p xs f hf h=>by
    cases f with
    | ow=>exact h
    | fz=>exact h
    | al=>cases hf
    | sc=>exact h) rp (by simpa using ha)⟩
  have:=vA Si es r';rw[AN]at this;exact this
theorem Fy{ds:List DI.D}(Si:SI X F R τ ρ σ H)(es:ak H H')(r:bR X.K (gP X F) R τ fv H H' vs ds):
  ∃ R' τ',(∀ p,R p->R' p)/\SI X F R' τ' (if av bE ds then iC fv ρ else ρ) σ H'/\ah (aG X.K H') (nd X.K R' (λ_=>False) (λ_=>none) H') [] 0 vs (ag aC ds):=by
 by_cases ha:av bE ds=true
 ·rw[if_pos ha];exact rz Si es r
 ·rw[if_neg ha];have r':bR X.K (gP X F) R τ [] H H' vs ds:=by
   obtain⟨τt,fr,rp⟩:=r;exact⟨τt,fr,ah.l_ (P:=bE) (λ_ _ h=>h) (λk p xs f hf h=>by
    cases f with
    | ow=>exact h
    | fz=>exact h
    | al=>cases hf
    | sc=>exact h) rp (by simpa using ha)⟩
  have:=rz Si es r';rw[AN]at this;exact this
def wiP(X:Cx)(F:Addr->Prop)(Φ:au)(p:Nat)(cs:List CE):TI:=λσ H Rr=>∃ R τ ρ xs d items,SI X F R τ ρ σ H/\bL Φ cs ρ=ok xs/\Φ p xs=ok d/\nF d=ok items /\
 ∀ J H2 vs,ak H H2->bR X.K (gP X F) R τ (ck cs) H H2 vs xs->Ph X.K J H2 vs xs items->Rr J H2
theorem Hj(L:oB X S k Φ){t:Tg}{p:Nat}{b:List CS}{x:List Stmt}(ht:Cs S t tg=true)(hi:S.px.pi p S.sc S.bl iter=some args)(hc:bc S cs args=true)(yj:T_ iter=true)(htu:(decide (1100<=p)||iX tg)=true)(hb:g9 X x (sN X F Φ b)):PS X (.For tg iter x [] pos) (wJ X F Φ (.fr t (.LG p cs) b)):=by
 obtain⟨g,hg,B8⟩:=zQ (F:=F) L ht;have q_:∀ y,foldedSetIterable iter X.env y=pure y:=by
  intro y;cases iter<;>first | rfl | (cases yj;done)
 have pi:PI X tg iter (wiP X F Φ p cs):=λpins s σ H Rr I ⟨R,τ,ρ,xs,d,items,Si,bV,ed,ei,hR⟩ =>
  L.pr.i X _ _ k L.toLk.pX p iter args hi F cs tg htu (qt L.toLk cs args hc) pins s σ H R τ ρ xs d items I Si bV ed ei Rr hR
 refine PS.imp (uU L.px L.calm pi hg hb q_) λD σ H hq=>?_;obtain⟨R,τ,ρ,r,Si,ev,hq⟩:=hq;obtain⟨⟨items,ρ1⟩,ei,ef⟩:=af ev;obtain⟨xs,bV,ei⟩:=af ei;obtain⟨d,ed,ei⟩:=af ei;obtain⟨Wj,ei',ei⟩:=af ei;cases ei;refine⟨R,τ,ρ,xs,d,items,Si,bV,ed,ei',λJ H2 vs e2 Hz yz=>?_⟩;obtain⟨R',τ',hR,fG,rs⟩:=Fy Si e2 Hz;have AG:=hq.from (Kp.of e2 hR);refine⟨λi m σ' H'=>m=items.length - i/\i<=items.length/\nh X F Φ t b R' H2 r items i σ' H',⟨_,rfl,aaP _,R',τ',_,fG,Kp.refl R' H2,by rw[List.drop_zero];exact ef⟩,?_⟩;rintro i m σ1 H1 ⟨rfl,Uw,hf⟩;obtain⟨R1,τ1,ρ2,we,k1,e1⟩:=id hf;have Qz:=k1.VE rs;have Vx:uF X.K H2 vs xs H1:=⟨⟨R',rs,k1.l⟩,λa ys h=>k1.TV h⟩
 by_cases jI:i<items.length
 ·refine .inr ⟨yz.go i H1 R1 Vx Qz jI,λσ' H'=>nh X F Φ t b R' H2 r items (i+1) σ' H',λσ' H' h=>⟨items.length - (i+1),by left,rfl,jI,h⟩,λv H3 hy=>?_⟩;obtain⟨e3,dd,hd,rd⟩:=yz.yf i H1 R1 v H3 Vx Qz jI hy;have xy:items.drop i=dd::items.drop (i+1):=by
   rw[List.drop_eq_getElem_cons jI];rw[List.getElem?_eq_getElem jI]at hd;cases hd;rfl
  rw[xy,dO]at e1;obtain⟨ρ3,eb,e1⟩:=af e1;obtain⟨⟨fo,ρ4⟩,e4,e1⟩:=af e1;have k3:Kp R' H2 R1 H3:=k1.trans (Kp.of e3 λ_ h=>h);refine B8 v σ1 H3 _ R1 τ1 ρ2 ρ3 dd (we.go e3) (pQ rd) eb λσ' yo Gh=>⟨R1,yo,ρ3,(fo,ρ4),Gh,e4,?_⟩
  cases fo with
  | nx=>exact λσ3 H4 R3 τ3 CF k4=>⟨R3,τ3,ρ4,CF,k3.trans k4,e1⟩
  | ct=>exact λσ3 H4 R3 τ3 CF k4=>⟨R3,τ3,ρ4,CF,k3.trans k4,e1⟩
  | bk=>cases e1;exact λσ3 H4 R3 τ3 CF k4=>AG σ3 H4 R3 τ3 CF (k3.trans k4)
  | rt d=>cases e1;exact AG
 ·exact .inl ⟨yz.stop i H1 R1 Vx Qz (by left),p5 (n:=i) (by left) AG σ1 H1 hf⟩
theorem ah.ints{T:pH}{N:ir}:∀(is:List Int) {k:aL} {n:Nat},ah T N k n (is.map V.int) (is.map DI.D.int)
 | [],_,_=>.nil
 | i::is,_,_=>.cons (.int i) (ah.ints is)
theorem La(L:oB X S k Φ){t:Tg}{it:CI}{b:List CS}{x:List Stmt}(ht:Cs S t tg=true)(hi:Te S it iter=true)(hnp:(iX tg||Eg it)=true)(hb:g9 X x (sN X F Φ b)):PS X (.For tg iter x [] pos) (wJ X F Φ (.fr t it b)):=by
 obtain⟨g,hg,B8⟩:=zQ (F:=F) L ht;have q_:∀ y,foldedSetIterable iter X.env y=pure y:=by
  intro y;cases iter<;>first | rfl | (cases it<;>first | exact(aal hi).elim | exact(aal (aj hi).2).elim)
 have k9:∀ {lo:Int} {n:Nat} {D:Ends} {R:Addr->Prop} {τ:Addr->Option aL} {ρ:aD} {σ:St} {H H1:Hp} {r:Fo×aD},SI X F R τ ρ σ H->ak H H1->o4 X F D R H r ->
   dO (λd ρ=>bT t d ρ) (λρ=>aT Φ b ρ) ((List.range n).map λ(k:Nat)=>DI.D.int (lo+(k:Int))) ρ=ok r ->
   ∃ W:Nat->Nat->L2.St->Hp->Prop,(∃ m,W 0 m σ H1)/\∀ i m σ H,W i m σ H ->
    ((CG lo n).stop i H/\D.nx σ H)\/((CG lo n).go i H/\∃ N:L2.St->Hp->Prop,(∀ σ' H',N σ' H'->∃ m',m'<m/\W (i+1) m' σ' H')/\∀ x H',(CG lo n).yf i H x H'->g x σ H' λσ2 H2=>sN X F Φ b { D with nx:=N,ct:=N,bk:=D.nx } σ2 H2):=by
  intro lo n D R τ ρ σ H H1 r Si e1 hq ef;have rs:ah (aG X.K H1) (nd X.K R (λ_=>False) (λ_=>none) H1) [] 0 ((List.range n).map λ(k:Nat)=>V.int (lo+(k:Int))) ((List.range n).map λ(k:Nat)=>DI.D.int (lo+(k:Int))):=by
   have:=ah.ints (T:=aG X.K H1) (N:=nd X.K R (λ_=>False) (λ_=>none) H1) ((List.range n).map λ(k:Nat)=>lo+(k:Int)) (k:=[]) (n:=0);rw[List.map_map,List.map_map]at this;exact this
  have AG:=hq.from (Kp.of e1 (R':=R) λ_ h=>h);refine Cf (nh X F Φ t b R H1 r _) ⟨R,τ,ρ,Si.go e1,Kp.refl R H1,by rw[List.drop_zero];exact ef⟩ (λi σ' H' R_ h=>?_) (λσ' H' h=>p5 (by simp) AG σ' H' h);exact rA B8 rs AG i (.int (lo+i)) σ' H' (by rw[List.getElem?_map,List.getElem?_range R_];rfl) h
 intro pins s σ H D I OX;cases it with
 | LG p cs =>
  obtain⟨yj,hz⟩:=aj hi;obtain⟨args,ha,Us⟩:=aP hz;exact Hj L ht ha Us yj (by rw[Bool.or_comm];exact hnp) hb pins s σ H D I OX
 | k9 a =>
  obtain⟨R,τ,ρ,r,Si,ev,hq⟩:=OX;obtain⟨⟨items,ρ1⟩,ei,ef⟩:=af ev;obtain⟨⟨y,as⟩,hv,hz⟩:=aP hi;obtain⟨p,MF,rfl⟩:=b_ hv;obtain⟨Zv,Us⟩:=aj hz;obtain⟨hz3,h2⟩:=aj Zv;obtain⟨hz4,h1⟩:=aj hz3;obtain rfl:y=_:=aak hz4;obtain⟨e,hu,h3⟩:=aP Us;obtain rfl:as=[e]:=b8 hu;have pa:PA X [e] (yg X F Φ [a]):=PA.imp (cm (iP (F:=F) L.toLk a e h3).1 gS (bp h3 _ _)) λ_ _ _ h=>by
   have:=jN h;obtain⟨R,τ,ρ,d,Si,ev,hq⟩:=this;exact⟨R,τ,ρ,d,Si,ev,λv H' e r=>pN (hq v H' e r)⟩
  refine uU L.px L.calm (ua (L.gl h1) (L.bl _ (aak h2)) pa (bp h3 _ _)) hg hb q_ pins s σ H D I ?_;obtain⟨d,ed,ei⟩:=af ei;cases d<;>try (simp at ei;done)
  rename_i n;simp at ei;obtain⟨⟨c1,c2⟩,rfl,rfl⟩:=ei;have xD:(iL:Int)=1000000:=rfl;refine⟨R,τ,ρ,[.int n],Si,by show bd (aK Φ a ρ) _=_;rw[ed];rfl,λvs H1 e1 rv=>?_⟩;obtain⟨τt,fr,rs⟩:=rv;cases rs.ints1
  ·refine⟨n,rfl,by left,by left,?_⟩;refine k9 (lo:=0) Si e1 hq ?_;simpa using ef
 | seq a =>
  obtain⟨R,τ,ρ,r,Si,ev,hq⟩:=OX;obtain⟨⟨items,ρ1⟩,ei,ef⟩:=af ev;replace hi:=aj hi;obtain⟨d,ed,ei⟩:=af ei;have pe:=(iP (F:=F) L.toLk a iter hi.1).1;cases d<;>try (simp at ei;done)
  ·rename_i ds;simp at ei;obtain⟨rfl,rfl⟩:=ei;refine uU L.px L.calm (DZ pe) hg hb q_ pins s σ H D I (tD.intro Si ed λv H1 e1 rv=>?_);obtain⟨R',τ',hR,fG,rp⟩:=AR Si e1 rv;rw[aq]at rp;cases rp with
   | @tup _ p xs _ hp rs =>
    have AG:=hq.from (Kp.of e1 hR);refine⟨p,rfl,⟨xs,hp⟩,IH (xs:=xs) (nh X F Φ t b R' H1 r (ag aC ds)) ⟨R',τ',_,fG,Kp.refl R' H1,by rw[List.drop_zero];exact ef⟩ (λi σ' H' _ h=>?_) (λi x σ' H' hx h=>rA B8 rs AG i x σ' H' hx h) (λσ' H' h=>p5 (rs.length) AG σ' H' h)⟩;obtain⟨R2,τ2,ρ2,_,kp,_⟩:=h;exact kp.TV hp
  ·rename_i f ds;simp at ei;obtain⟨rfl,rfl⟩:=ei;refine uU L.px L.calm (Ak pe) hg hb q_ pins s σ H D I (tD.intro Si ed λv H1 e1 rv=>?_);obtain⟨R',τ',hR,fG,rp⟩:=AR Si e1 rv;rw[aq]at rp;obtain⟨p,xs,rfl,hp,rs⟩:=rp.uG;have AG:=hq.from (Kp.of e1 hR);refine⟨p,rfl,⟨xs,hp.sq⟩,FA (xs:=xs) (nh X F Φ t b R' H1 r (ag aC ds)) ⟨R',τ',_,fG,Kp.refl R' H1,by rw[List.drop_zero];exact ef⟩ (λi σ' H' _ h=>?_) (λi x σ' H' hx h=>rA B8 rs AG i x σ' H' hx h) (λσ' H' h=>p5 (rs.length) AG σ' H' h)⟩;obtain⟨R2,τ2,ρ2,_,kp,_⟩:=h;exact(kp.nd hp).sq
theorem vj{ρ':aD}{p:Addr}{q:aL}{n:Nd}{o:HO}(Si:SI X F R' τ' ρ' σ H1)(es:ak H H1)(hR:∀ p,R p->R' p)(hp:dZ H1 p n)(ht:τ' p=some q):Kp R H R' (upd H1 p o):=by
 obtain⟨o0,OZ,RR,OY⟩:=dZ.some hp;exact⟨hR,λa u ha e=>by
  have ne:a≠p:=λz=>by subst z;rw[Si.rt _ (hR _ ha)]at ht;cases ht
  rw[aA ne];exact es _ _ e,λa zs e=>by
  have e1:=es _ _ e;have ne:a≠p:=λz=>by subst z;rw[OZ]at e1;cases e1;exact RR _ rfl
  rw[aA ne];exact e1,λa o u e=>by
  have e1:=es _ _ e;have ne:a≠p:=λz=>by subst z;rw[OZ]at e1;cases e1;exact OY _ _ rfl
  rw[aA ne];exact e1⟩
theorem jK.go{v:V}{d:DI.D}(h:jK X R τ H v d)(e:ak H H'):jK X R τ H' v d :=
 let ⟨τt,h1,h2⟩:=h;⟨τt,λp q z=>let ⟨a,b,c,d⟩:=h1 p q z;⟨a,b,c,ak.ne e d⟩,h2.imp (λ_ _ h=>aG.same e h) λ_ _ _ _ h=>nd.same e h⟩
theorem Y5(L:oB X S k Φ){i:Nat}(h:lL S i o=true)(hv:∀ x p,o=.Name x p->lB x=true):∃ x p,o=.Name x p/\X.N[i]?=some x/\L2.Loc X.env.scope x/\PE X o (uM i):=by
 cases o<;>try (exact(aal h).elim;done)
 rename_i x p;have hn:=hv x p rfl;replace h:=aj h;unfold lB at hn;simp only[Bool.and_eq_true,Bool.not_eq_true']at hn;have hN:X.N[i]?=some x:=by rw[L.N];exact aak h.1
 have hl:=L.loc h.2;exact⟨x,p,rfl,hN,hl,lu hN (hl.imp id .inl) hn.1.1 hn.1.2⟩
theorem IM{e:CE}{r:DI.D×aD}{i:Nat}{ds:List DI.D}(h:lb Φ e ρ=ok r)(ho:r.2[i]?=some (some (.lst .ow ds))):ρ[i]?=some (some (.lst .ow ds)):=by
 by_cases hv:∃ j,e=.v j
 ·obtain⟨j,rfl⟩:=hv;simp only[lb]at h;split at h
  ·split at h
   ·cases h;by_cases la:i=j
    ·subst la;rw[List.getElem?_set]at ho;simp at ho
    ·rw[List.getElem?_set_ne (Ne.symm la)]at ho;exact ho
   ·cases h;exact ho
  ·cases h
 ·have h':bd (aK Φ e ρ) (λd=>ok (keep e d ρ))=ok r:=by
   cases e<;>first | exact h | exact absurd ⟨_,rfl⟩ hv
  obtain⟨d,_,er⟩:=af h';cases er;unfold keep at ho;split at ho
  ·obtain⟨d',h1,h2⟩:=AO _ _ _ _ ho;split at h2
   ·cases d'<;>simp[aq]at h2;rename_i f ds';cases f<;>simp[aC]at h2
   ·rw[h2];exact h1
  ·exact ho
theorem Lb(L:oB X S k Φ){i:Nat}{e:CE}{x:Str}{v:Expr}{p p1 p2:Pos}(hn:lL S i (.Name x p)=true)(hx:lB x=true)(he:br S e v=true)(ET:(p1.endLine==p2.line)=true):PS X (.Expr (.Call (.Attribute (.Name x p) ("append" : Str) p1) [v] [] p2) pos) (wJ X F Φ (.app i e)):=by
 obtain⟨_,_,z,hN,hl,pe⟩:=Y5 L hn (λy q e=>by cases e;exact hx);cases z;refine PS.imp (pT (QR PySem.F.plainAttrs_list PySem.F.slot_list_append PySem.F.type_list_append BS pe (cm (yF (F:=F) L.toLk e v he) gS (bp he _ _)) (hfew:=by rw[bp he];rfl) (hline:=ET) (hs:=bp he _ _))) λD σ H hq=>?_;obtain⟨R,τ,ρ,r,Si,ev,hq⟩:=hq;obtain⟨r1,CT,ev⟩:=af ev;split at ev
 ·rename_i ds ho;split at ev
  ·rename_i hc;cases ev;have ho:=uY ho;obtain⟨a,xs,hv,ha,hxl,hta,_⟩:=Si.own (IM CT ho);refine⟨.ref a,hv,.inl ⟨rfl,_,cV.of ha⟩,R,τ,ρ,r1,Si,CT,λw H1 R1 τ1 es hR we rk=>?_⟩;obtain⟨a1,xs1,Ut,O8,abZ,RK,Qz⟩:=we.own ho;rw[hv]at Ut;cases Ut;have hz:sizeLine=16777216:=abi;have xD:iL=1000000:=rfl;refine⟨a,xs1,w,rfl,rfl,O8,by left,?_⟩;obtain⟨τ2,Gg⟩:=we.put (m:=ds.length) (g:=λys=>ys++[w]) ho hv O8 RK Qz rk λrs r=>ah.JO rs (by simpa using r);exact hq σ _ R1 τ2 Gg (vj (n:=.l _) we es hR O8 RK)
  ·cases ev
 ·cases ev
end
section
variable {X:Cx}{S:Sx}{k:Nat}{F:Addr->Prop}{Φ:au}
theorem LD(x:Str)(p:Pos):(Expr.Name x p).pos=p:=rfl
theorem yC{x y:Str}{px py pt OE:Pos}{kt:Nat}{a b:Expr}(hk:env.scope.kind=.function)(hx:env.scope.names.lookup x=some .local)(hy:env.scope.names.lookup y=some .local)(Zw:x≠y)(hl:px.line=py.line)
  (h1:[a,b].all (foldedForSure 8)=false) (h2:[a,b].all (constantsAlone 8)=false) (h3:([a,b].any λe=>match e with | .Starred ..=>true | _=>false)=false) :
  swappedStores [.Tuple [.Name x px,.Name y py] kt pt] (.Tuple [a,b] k2 OE) env=pure (some [x,y]):=by
 have hb:env.blockKind=.function:=by unfold Env.blockKind;rw[hk];rfl
 have kx:env.kindOf x=some .local:=hx;have ky:env.kindOf y=some .local:=hy;have e1:([x,y].eraseDups.length != [x,y].length)=false:=by
  have:¬ (y==x)=true:=by simp;exact λz=>Zw z.symm
  have h':(y==x)=false:=by simpa using this
  simp[List.eraseDups_cons,List.filter,h',Zw]
 unfold swappedStores;simp only[hb,h3,List.filterMap_cons,List.filterMap_nil,kx,ky,hl,LD,List.head?_cons,Option.map_some,Option.getD_some,h1,h2];simp only[beq_self_eq_true,Bool.and_self,if_true];rw[if_neg (by simp)];refine(aco ?_).trans ?_
 ·intro z;exact aal (h3.symm.trans z)
 rw[if_neg (by
  rw[e1];simp),if_neg Bool.false_ne_true,if_neg Bool.false_ne_true]
theorem qE{kp:aL}{v:V}{d:DI.D}(h:Rep (aG X.K H) (nd X.K R A τ H) kp v d)(hf:aI anyF d=false):jK X R' τ' H v d :=
 ⟨λ_=>none,λ_ _ h=>by simp at h,Rep.without (P:=anyF) (λ_ _ h=>h) (λk k' p xs f hf h=>by cases hf) h hf _⟩
theorem K9(L:oB X S k Φ){i j:Nat}{a b:CE}{v:Expr}(he:br S (.tup [a,b]) v=true)(hp:F2 S i j tg v=true):PS X (.Assign [tg] v pos) (wJ X F Φ (.par i j a b)):=by
 obtain⟨ts,Ut,q1⟩:=aP hp;obtain⟨kt,pt,rfl⟩:=md Ut;obtain⟨⟨t1,t2⟩,hv2,q2⟩:=aP q1;obtain rfl:ts=[t1,t2]:=jM hv2;obtain⟨⟨x,px⟩,hv3,q3⟩:=aP q2;obtain rfl:t1=_:=zM hv3;obtain⟨⟨y,py⟩,hv4,q4⟩:=aP q3;obtain rfl:t2=_:=zM hv4;obtain⟨vs,hv5,q5⟩:=aP q4;obtain⟨k2,OE,rfl⟩:=md hv5;obtain⟨⟨ea,eb⟩,hv6,q6⟩:=aP q5;obtain rfl:vs=[ea,eb]:=jM hv6
 ·obtain⟨q7,Kd⟩:=aj q6;obtain⟨q8,h9⟩:=aj q7;obtain⟨q9,h8⟩:=aj q8;obtain⟨VP,h7⟩:=aj q9;obtain⟨q11,h6⟩:=aj VP;obtain⟨q12,h5⟩:=aj q11;obtain⟨q13,h4⟩:=aj q12;obtain⟨q14,h3⟩:=aj q13;obtain⟨h1,h2⟩:=aj q14;replace h1:S.N[i]?=some x:=aak h1;replace h2:S.N[j]?=some y:=aak h2;replace h3:=aak h3;replace h4:=aak h4;replace h5:=aak h5;replace h6:=aak h6;replace h7:=aak h7;replace h8:=jV h8;replace h9:=jV h9;replace Kd:=aak Kd;replace he:=aj he;have pa:=pO (F:=F) L.toLk [a,b] [ea,eb] he.1;refine PS.imp (LC L.calm L.nd (by rw[L.N];exact h1) (by rw[L.N];exact h2) h3 (by rw[L.sc];exact h4) (by rw[L.sc];exact h5) pa (yC (by rw[L.sc];exact L.fk) (by rw[L.sc];exact h4) (by rw[L.sc];exact h5) h6 h7 h8 h9 Kd)) λD σ H hq=>?_;obtain⟨R,τ,ρ,r,Si,ev,hq⟩:=hq;obtain⟨d1,ed1,ev⟩:=af ev;obtain⟨d2,ed2,ev⟩:=af ev;simp only[J8]at ev;obtain⟨⟨f1,f2,l1,l2⟩,rfl⟩:=ev;refine⟨R,τ,ρ,[d1,d2],Si,by show bd (aK Φ a ρ) _=_;rw[ed1];show bd (bd (aK Φ b ρ) _) _=_;rw[ed2];rfl,λvs H1 e1 rv=>?_⟩;obtain⟨τt,fr,rs⟩:=rv;obtain⟨v1,v2,rfl,r1,r2⟩:=rs.two
  ·obtain⟨τ1,S1⟩:=(Si.go e1).set (i:=i) (qE r1 f1) l1;obtain⟨τ2,S2⟩:=S1.set (i:=j) (qE r2 f2) (by simpa using l2);exact⟨v1,v2,rfl,hq _ H1 R τ2 S2 (Kp.of e1 λ_ h=>h)⟩
theorem K_(L:oB X S k Φ){i:Nat}{v:Expr}(hn:lL S i tg=true)(he:br S (.lst es) v=true):PS X (.Assign [tg] v pos) (wJ X F Φ (.lsn i es)):=by
 obtain⟨g,hg,B8⟩:=zQ (F:=F) (t:=.nm i) L hn;obtain⟨x,p,rfl⟩:=A7 hn;obtain⟨X3,hv,hz⟩:=aP he;obtain⟨pp,rfl⟩:=zN hv;obtain⟨h1,h2⟩:=aj hz;have MJ:swapsWithSole [.Name x p] (.List X3 pp) pos.line X.env=pure false:=rfl;have hw:swappedStores [.Name x p] (.List X3 pp) X.env=pure none:=rfl;have each:(assignEach [.Name x p] X.env).map (·.2)=[assign (.Name x p) X.env]:=rfl;refine PS.imp (DX (D8 (pO (F:=F) L.toLk es X3 h1)) hg MJ hw each) λE σ H hq=>?_;obtain⟨R,τ,ρ,r,Si,ev,hq⟩:=hq;obtain⟨xs,bV,ev⟩:=af ev;obtain⟨hi,rfl⟩:=wq ev;refine⟨R,τ,ρ,xs,Si,bV,λvs H1 e1 r1=>?_⟩;have hl:vs.length=xs.length:=by obtain⟨_,_,rs⟩:=r1;exact rs.length
 obtain⟨R',τ',hR,fG,rs⟩:=rz Si e1 r1;have h2:es.length<=1000:=aak h2;have hz:sizeLine=16777216:=abi;refine⟨by rw[hl,mQ es bV];left,λp hp=>?_⟩;have e2:ak H1 (upd H1 p (.lst vs)):=ak.upd hp;have rk:jK X R' τ' (upd H1 p (.lst vs)) (.ref p) (.lst .ow (ag aC xs)):=by
  refine⟨λq=>if q=p then some []else none,λq z hz=>?_,.lst ⟨aH,by simp⟩ ?_⟩
  ·simp only at hz;split at hz
   ·rename_i e;subst e;refine⟨?_,λh=>fG.rh _ h hp,fG.same.free hp,by rw[aH];simp⟩;cases q:τ' _ with
    | none=>rfl
    | some w=>exact absurd hp (fG.th _ _ q)
   ·cases hz
  ·have:=ah.jX (g:=id) (N':=nd X.K R' (λ_=>False) (λq=>if q=p then some []else none) (upd H1 p (.lst vs))) (λ_ _ h=>aG.same e2 h) (λk k' a ys f h=>by
    have h':=nd.same e2 h;cases f with
    | ow=>exact nomatch h'.2
    | fz=>exact h'
    | al=>exact h'.2.elim
    | sc=>exact h') rs [] 0
   rw[cX]at this;exact this
 exact B8 (.ref p) σ _ _ R' τ' (iC (ck es) ρ) _ _ (fG.go e2) rk (by show(if i<(iC (ck es) ρ).length then _ else _)=_;rw[if_pos (by unfold iC;simpa using hi)]) λσ' yo Gh=>hq σ' _ R' yo Gh (Kp.of (e1.trans e2) hR)
theorem BU{α β:Type}(f:α->β):∀(ms:List α) (m:Nat),(ms.map f).eraseIdx m=(ms.eraseIdx m).map f
 | [],_=>rfl
 | _::_,0=>rfl
 | x::ms,m+1=>by
  show f x::(ms.map f).eraseIdx m=f x::(ms.eraseIdx m).map f;rw[BU f ms m]
mutual
theorem yE(L:oB X S k Φ):∀(c:CS) (st:Stmt),F1 S c st=true->PS X st (wJ X F Φ c)
 | .asg t e,st,h=>by
  obtain⟨⟨JH,v⟩,v1,q1⟩:=aP h;obtain⟨pos,rfl⟩:=pJ v1;obtain⟨tg,v2,q2⟩:=aP q1;obtain rfl:JH=[tg]:=b8 v2;obtain⟨q3,h4⟩:=aj q2;obtain⟨q4,h3⟩:=aj q3;obtain⟨h1,h2⟩:=aj q4;have h1:br S e v=true:=h1;replace h3:(isTup v&&isTup tg)=false:=jV h3;cases hc:lD v with
  | false=>exact Dm L h1 h2 h3 (rX h1 hc _ _ _)
  | true =>
   have h4:(!lD v||isNm tg)=true:=h4;rw[hc]at h4;obtain⟨x,p,rfl⟩:=Ip h4;obtain⟨kW,gens,sc,Pz,rfl⟩:=B3 hc;cases e<;>try (exact(aal h1).elim)
   cases t with
   | tp is=>exact(aal h2).elim
   | nm i =>
    cases hb:Vv S (.Name x p) (.ListComp kW gens sc Pz)with
    | true=>exact Hk L h1 h2 (by rw[JN L,hb])
    | false=>exact Dm L h1 h2 h3 (by
      show swapsWith (.ListComp kW gens sc Pz) (some (.Name x p)) pos.line X.env=_;rw[JN L,hb])
 | .par i j a b,st,h=>by
  obtain⟨⟨JH,v⟩,v1,q1⟩:=aP h;obtain⟨pos,rfl⟩:=pJ v1;obtain⟨tg,v2,q2⟩:=aP q1;obtain rfl:JH=[tg]:=b8 v2;exact K9 L (aj q2).1 (aj q2).2
 | .ret e,st,h=>by
  obtain⟨z,v1,q1⟩:=aP h;obtain⟨pos,rfl⟩:=GS v1;obtain⟨v,v2,q2⟩:=aP q1;obtain rfl:z=some v:=v2;exact K8 L q2
 | .rs c,st,h=>λ_ _ _ _ _ _ ⟨R,τ,ρ,r,Si,ev,hq⟩=>by cases ev
 | .ex e,st,h=>by
  obtain⟨v,v1,q1⟩:=aP h;obtain⟨pos,rfl⟩:=uH v1;exact Qp L (aj q1).1 (jV (aj q1).2)
 | .mut p i es,st,h=>by
  obtain⟨⟨o,args⟩,ha,q1⟩:=aP h;obtain⟨q2,h3⟩:=aj q1;obtain⟨h1,h2⟩:=aj q2;obtain⟨x,pp,rfl,hN,hl,pe⟩:=Y5 L h1 (λy q e=>by cases e;exact h2);exact L.pm.m X _ _ k L.toLk.pX L.nd L.lG p st x pp args ha i hN hl pe F es (qt L.toLk es args h3)
 | .lsn i es,st,h=>by
  obtain⟨⟨JH,v⟩,v1,q1⟩:=aP h;obtain⟨pos,rfl⟩:=pJ v1;obtain⟨tg,v2,q2⟩:=aP q1;obtain rfl:JH=[tg]:=b8 v2;exact K_ L (aj q2).1 (aj q2).2
 | .app i e,st,h=>by
  obtain⟨c,v1,q1⟩:=aP h;obtain⟨pos,rfl⟩:=uH v1;obtain⟨⟨fn,as,ks,p2⟩,v2,q2⟩:=aP q1;obtain rfl:c=_:=tN v2;obtain⟨q3,q4⟩:=aj q2;obtain rfl:ks=[]:=qW q3;obtain⟨⟨o,a,p1⟩,v3,q5⟩:=aP q4;obtain rfl:fn=_:=wB v3;obtain⟨q6,q7⟩:=aj q5;obtain⟨v,v4,h4⟩:=aP q7;obtain rfl:as=[v]:=b8 v4;obtain⟨q8,h5⟩:=aj q6;obtain⟨q9,h2⟩:=aj q8;obtain⟨VP,h1⟩:=aj q9;obtain rfl:a=_:=aak VP;obtain⟨x,p,rfl⟩:∃ x p,o=.Name x p:=A7 h1;exact Lb L h1 h2 h4 h5
 | .ifs c a b,st,h=>by
  obtain⟨⟨t,x,y⟩,v1,q1⟩:=aP h;obtain⟨pos,rfl⟩:=GU v1;obtain⟨q2,h3⟩:=aj q1;obtain⟨h1,h2⟩:=aj q2;exact Qo L h1 (kA L a _ h2) (kA L b _ h3)
 | .KI c b,st,h=>by
  obtain⟨⟨t,x,y⟩,v1,q1⟩:=aP h;obtain⟨pos,rfl⟩:=GR v1;obtain⟨q2,h3⟩:=aj q1;obtain⟨h1,h2⟩:=aj q2;obtain rfl:y=[]:=qW h1;exact Dl L h2 (kA L b _ h3)
 | .fr t it b,st,h=>by
  obtain⟨⟨tg,iter,x,y⟩,v1,q1⟩:=aP h;obtain⟨pos,rfl⟩:=GV v1;obtain⟨q2,h5⟩:=aj q1;obtain⟨q3,h4⟩:=aj q2;obtain⟨q4,h3⟩:=aj q3;obtain⟨h1,h2⟩:=aj q4;obtain rfl:y=[]:=qW h1;exact La L h2 h3 h4 (kA L b _ h5)
theorem kA(L:oB X S k Φ):∀(cs:List CS) (Hi:List Stmt),cE S cs Hi=true->g9 X Hi (sN X F Φ cs)
 | [],[],_=>g9.imp Ae λD σ H ⟨R,τ,ρ,r,Si,ev,hq⟩=>by cases ev;exact hq σ H R τ Si (Kp.refl R H)
 | [],_::_,h=>by exact(aal h).elim
 | _::_,[],h=>by exact(aal h).elim
 | c::cs,st::Hi,h=>by
  replace h:=aj h;have h1:PS X st (wJ X F Φ c):=yE L c st h.1;have h2:g9 X Hi (sN X F Φ cs):=kA L cs Hi h.2;refine g9.imp (iw h1 h2) λD σ H hq=>?_;obtain⟨R,τ,ρ,r,Si,ev,hq⟩:=hq;obtain⟨⟨fo,ρ1⟩,e1,ev⟩:=af ev;refine⟨R,τ,ρ,(fo,ρ1),Si,e1,?_⟩;cases fo with
  | nx=>exact λσ' H' R' τ' fG kp=>⟨R',τ',ρ1,r,fG,ev,hq.from kp⟩
  | bk=>cases ev;exact hq
  | ct=>cases ev;exact hq
  | rt d=>cases ev;exact hq
end
end
variable {mg:Str->Option Value}{ps:List Str}{qual:Str}
theorem FC{x:Str}{f:Addr}{fd:FuncData}{k:Nat}{N bl:List Str}{cs:List (Str×GK)}{px:Px}{lG:Nat->Option Str}{m:List D->O D}{body:List CS}
  (Fu:Bn K x qual st f fd) (Sc:dJ N ps (ae st)) (rg:cE ⟨ae st,N,lG,bl,cs,px⟩ body (aE st)=true) (yj:ng px Φ) (ER:Bl px Φ)
  (sF:∀ y∈bl,mg y=none) (nr:∀ y i,(y,i)∈cs->∃ u,mg y=some u/\wo K i u)
  (sT:∀ g y,lG g=some y->∃(f:Addr) (fd:FuncData) (ps:List Str),eT P w K mg base Bq k f fd ps (Gq K ps.length (Φ g))/\mg y=some (.ref f)/\PySem.W.keepIn K (.ref f)=true/\Binds K fd ps []/\∀ ds r,Φ g ds=ok r->ds.length=ps.length)
  (hm:∀ ds r,m ds=ok r->ds.length=ps.length/\BL Φ N.length body ds=ok r):eT P w K mg base Bq (k+1) f fd ps (Gq K ps.length m):=by
 refine Fu.ok (N:=N) Sc (λvs H Q E ⟨_,_,_,h,_⟩=>h) λgW A outer s H vs Q E hr yi=>?_;obtain⟨F,ds,r,hl,rs,er,hq⟩:=yi;obtain⟨ZI,zd⟩:=hm ds r er
 let X:=(j7 Bq P w K mg base N qual (ae st) f gW A outer s H E).yh
 have L:oB X ⟨ae st,N,lG,bl,cs,px⟩ k Φ:=⟨⟨rfl,rfl,Sc.nd,rfl,hr,sF,λg y h=>⟨sT g y h⟩,nr,yj⟩,λ_=>rfl,PassesOwn.never,Sc.kind,ER⟩
 refine⟨sN X F Φ body,kA L body _ rg,?_⟩;unfold BL at zd;obtain⟨⟨fo,ρ'⟩,eb,zd⟩:=af zd;have hpl:ps.length<=N.length:=by have:=aaS List.length Sc.pre;rw[List.length_take]at this;left
 have Ir:vs.length=ds.length:=rs.length;refine⟨λp=>F p/\H p≠none,λ_=>none,_,(fo,ρ'),⟨?_,λi d hi=>?_,λ_ _=>rfl,λp h=>h.2,λp h=>.inl h.1,λ_ _ h=>by simp at h,λ_ _ h=>by simp at h,ak.refl H⟩,eb,?_⟩
 ·unfold L2.start;simp[Ir]
 ·have Sa:i<ds.length:=by
   by_cases mM:i<ds.length
   ·exact mM
   ·rw[List.getElem?_append_right (by simpa using mM)]at hi;rw[List.getElem?_replicate]at hi;split at hi<;>simp at hi
  rw[List.getElem?_append_left (by simpa using Sa),List.getElem?_map]at hi;have hd:ds[i]?=some d:=by
   cases q:ds[i]? with
   | none=>rw[q]at hi;cases hi
   | some z=>rw[q]at hi;simp at hi;rw[hi]
  obtain⟨v,hv,rv⟩:=rs.get hd;refine⟨v,?_,rv.imp (q:=[0+i]) (q':=[i]) (λ_ _ h=>h) λc p xs f h=>?_⟩
  ·unfold L2.start;rw[List.getElem?_append_left (by rw[List.length_map,Ir];exact Sa),List.getElem?_map,hv];rfl
  ·cases f with
   | ow=>exact nomatch h.2
   | fz=>exact⟨h.1,h.2,h.1.ne⟩
   | al=>exact h.2.elim
   | sc=>exact h
 ·cases fo with
  | nx =>
   cases zd;exact λσ' H' R' τ' fG kp=>hq .bh H' fG.same ⟨λ_=>none,λ_ _ h=>by simp at h,.bh⟩
  | bk=>simp at zd
  | ct=>simp at zd
  | rt d =>
   cases zd;exact λv H' es rr=>hq v H' es rr
structure Ent(P:Program)(w:World)(K:PySem.W.Frag)(mg:Str->Option Value)(base:Heap)(k:Nat)(y:Str)(m:List D->O D):Prop where
 ex:∃(f:Addr) (fd:FuncData) (ps:List Str),eT P w K mg base Bq k f fd ps (Gq K ps.length m)/\mg y=some (.ref f)/\PySem.W.keepIn K (.ref f)=true/\Binds K fd ps []/\∀ ds r,m ds=ok r->ds.length=ps.length
theorem Ent.up{k k':Nat}{y:Str}{m:List D->O D}(h:Ent P w K mg base k y m)(hk:k<=k'):Ent P w K mg base k' y m:=by
 obtain⟨f,fd,ps,h1,h2⟩:=h.ex;exact⟨f,fd,ps,h1.mono hk,h2⟩
theorem ent{x:Str}{f:Addr}{fd:FuncData}{k:Nat}{N bl:List Str}{cs:List (Str×GK)}{px:Px}{lG:Nat->Option Str}{m:List D->O D}{body:List CS}
  (Fu:Bn K x qual st f fd) (hmg:mg x=some (.ref f)) (hb:Binds K fd ps []) (Sc:dJ N ps (ae st)) (rg:cE ⟨ae st,N,lG,bl,cs,px⟩ body (aE st)=true) (yj:ng px Φ) (ER:Bl px Φ) (sF:∀ y∈bl,mg y=none) (nr:∀ y i,(y,i)∈cs->∃ u,mg y=some u/\wo K i u)
  (sT:∀ g y,lG g=some y->Ent P w K mg base k y (Φ g)) (hm:∀ ds r,m ds=ok r->ds.length=ps.length/\BL Φ N.length body ds=ok r):Ent P w K mg base (k+1) x m :=
 ⟨f,fd,ps,FC Fu Sc rg yj ER sF nr (λg y h=>(sT g y h).ex) hm,hmg,Fu.kp,hb,λds r h=>(hm ds r h).1⟩
noncomputable def bS{α:Type}(P:α->Prop):List α->Prop
 | []=>True
 | a::l=>P a/\bS P l
theorem bS.mem{α:Type}{P:α->Prop}:∀ {l:List α},bS P l->∀ a∈l,P a
 | [],_,_,h=>by cases h
 | _::_,h,_,hm=>(List.mem_cons.mp hm).elim (λe=>e▸h.1) (bS.mem h.2 _)
theorem bS.tab{β:Type}{P:Nat->β->Prop}:∀ {l:List (Nat×β)},bS (λp=>P p.1 p.2) l->∀ g y,l.lookup g=some y->P g y
 | [],_,_,_,h=>by cases h
 | (k,b)::l,h,g,y,e=>by
  rw[List.lookup_cons]at e;cases hg:g==k with
  | true=>rw[hg]at e;cases e;rw[eq_of_beq hg];exact h.1
  | false=>rw[hg]at e;exact bS.tab h.2 g y e
theorem bS.two{β γ:Type}{P:β->γ->Prop}{l:List (β×γ)}(h:bS (λp=>P p.1 p.2) l)(y:β)(i:γ)(hm:(y,i)∈l):P y i:=bS.mem h _ hm
theorem Rp{α:Type}{l:List α}(h:l.length=1):∃ a,l=[a]:=List.length_eq_one_iff.mp h
theorem Ro{α:Type}{l:List α}(h:l.length=2):∃ a b,l=[a,b]:=by
 cases l with
 | nil=>cases h
 | cons a l=>obtain⟨b,rfl⟩:=Rp (Nat.succ.inj h);exact⟨a,b,rfl⟩
theorem Rn{α:Type}{l:List α}(h:l.length=3):∃ a b c,l=[a,b,c]:=by
 cases l with
 | nil=>cases h
 | cons a l=>obtain⟨b,c,rfl⟩:=Ro (Nat.succ.inj h);exact⟨a,b,c,rfl⟩
theorem V9{α:Type}{l:List α}(h:l.length=4):∃ a b c d,l=[a,b,c,d]:=by
 cases l with
 | nil=>cases h
 | cons a l=>obtain⟨b,c,d,rfl⟩:=Rn (Nat.succ.inj h);exact⟨a,b,c,d,rfl⟩
noncomputable def qY:List D->Option (List Int)
 | []=>some []
 | .int i::ds=>(qY ds).map (i :: ·)
 | _::_=>none
theorem qX:∀ ns:List Int,qY (ns.map D.int)=some ns
 | []=>rfl
 | n::ns=>by simp[qY,qX ns]
theorem xi:∀ {ds:List D} {ns:List Int},qY ds=some ns->ds=ns.map D.int
 | [],ns,h=>by simp[qY]at h;subst h;rfl
 | d::ds,ns,h=>by
  cases d<;>simp[qY]at h;obtain⟨ms,h1,rfl⟩:=h;rw[xi h1];rfl
def ve:List D->O D
 | [.lst .sc ds]=>match qY ds with
  | some ns=>if ns.length<=63 then ok (.bl true)else none
  | none=>none
 | _=>none
theorem Ic(h:ns.length<=63):ve [.lst .sc (ns.map D.int)]=ok (.bl true):=by
 simp[ve,qX,h]
theorem Mn(K:PySem.W.Frag)(H:Hp)(a:Addr)(ns:List Int)(m:List D->O D)(hm:m [.lst .sc (ns.map D.int)]=ok (.bl true))(hO:JB H)(hS:cV K H a (ns.map V.int)):Gq K 1 m [.ref a] H (λv _=>v=.bl true) λ_ _ _=>False:=by
 refine⟨λ_=>True,_,.bl true,rfl,.cons (.lst ?_ (ah.ints ns)) .nil,hm,λv H' _ ⟨τt,_,rp⟩=>by cases rp;rfl⟩;rcases hS with (h | h) | h
 ·rcases hO a with z | ⟨o,xs,z⟩
  ·rw[h]at z;cases z
  ·rw[h]at z;cases z
 ·exact .inl h
 ·exact .inr h
section
variable {X:Cx}{pins:List (Addr×Obj)}{σ:St}{H:Hp}{s:Shared}{h':Heap}
theorem G5(I:Inv X pins σ H s)(hf:∀ b∈ch,sv X pins H b)(k:∀ b u,b∉ch->s.heap.get? b=some u->h'.get? b=some u):Inv X pins σ H { s with heap:=h',toks:=t' }:=by
 have J1:∀ b u,H b=some u->b∉ch:=λb u e z=>by rw[(hf b z).1]at e;cases e
 refine I.step (g':=s.gens) (d':=s.drawn) (ch:=ch) (λb hb=>⟨(hf b hb).2.2.2.1,(hf b hb).2.1,(hf b hb).2.2.2.2.1,(hf b hb).2.2.2.2.2⟩) (λb o _ _ hc e _=>k b o hc e) (λb o _ _ hc e _=>⟨o.slots,k b o hc e⟩) (λ_ _ _ _ n=>n)
  (λb o hc e=>⟨o,k b o hc e⟩) (λ_ _ e=>e) (λ_ _ _ e=>e) (λb ps e=>⟨#[],by rw[e];simp⟩) (λm hm=>?_) (λb u e=>?_) I.bare
 ·obtain⟨o,es,ep,ho,r⟩:=hm;exact⟨o,es,ep,k _ o (λz=>(hf _ z).2.1 rfl) ho,r⟩
 ·refine(I.bQ b u e).jO (λc v hc q=>k c v ?_ q) (λ_ q=>q) λ_ _ q=>q;rcases hc with z | z
  ·rw[z];exact J1 b u e
  ·exact J1 c _ z
theorem G6{T:Addr}{o:HO}(I:Inv X pins σ H s)(hf:∀ b∈ch,sv X pins H b)(k:∀ b u,b∉ch->s.heap.get? b=some u->h'.get? b=some u)(hT:s.heap.objs.size<=T)(new:b7 X.prog X.w (upd H T o) h' T o):
  Inv X pins σ (upd H T o) { s with heap:=h',toks:=t' }:=by
 have J1:∀ b u,H b=some u->b∉ch:=λb u e z=>by rw[(hf b z).1]at e;cases e
 have hn:H T=none:=I.bQ.fresh hT;have ne:∀ b (u:Obj),s.heap.get? b=some u->b≠T:=λb u e z=>absurd (aap e) (by rw[z];exact Nat.not_lt.mpr hT);have up:∀ b u,H b=some u->upd H T o b=some u:=λb u e=>by rw[aA (bz e hn)];exact e
 refine I.step (g':=s.gens) (d':=s.drawn) (ch:=ch) (λb hb=>⟨(hf b hb).2.2.2.1,(hf b hb).2.1,(hf b hb).2.2.2.2.1,(hf b hb).2.2.2.2.2⟩) (λb o _ _ hc e _=>k b o hc e) (λb o _ _ hc e _=>⟨o.slots,k b o hc e⟩) (λb u _ e n=>by rw[aA (ne b u e)];exact n)
  (λb o hc e=>⟨o,k b o hc e⟩) (λ_ _ e=>up _ _ e) (λ_ _ _ e=>up _ _ e) (λb ps e=>⟨#[],by rw[up _ _ e];simp⟩) (λm hm=>?_) (AH (λb u e=>?_) hn new) I.bare
 ·obtain⟨o,es,ep,ho,r⟩:=hm;exact⟨o,es,ep,k _ o (λz=>(hf _ z).2.1 rfl) ho,r⟩
 ·refine(I.bQ b u e).jO (λc v hc q=>k c v ?_ q) (λ_ q=>q) λ_ _ q=>q;rcases hc with z | z
  ·rw[z];exact J1 b u e
  ·exact J1 c _ z
end
def Yy(K:PySem.W.Frag)(a b:Addr):It :=
  ⟨λi H=>∃ xs ys x y,cV K H a xs/\cV K H b ys/\xs[i]?=some x/\ys[i]?=some y,
   λi H v H'=>∃ T x y,(∀ xs,cV K H a xs->xs[i]?=some x)/\(∀ ys,cV K H b ys->ys[i]?=some y)/\H T=none/\v=.ref T/\H'=upd H T (.tup [x,y]),
   λi H=>∃ xs ys,cV K H a xs/\cV K H b ys/\(xs.length<=i\/ys.length<=i)⟩
theorem zP{h:Heap}{T:Addr}{x y:V}{u v:Value}(rx:RelV x u)(ry:RelV y v)(e:h.get? T=some { cls:=.type "tuple",data:=.seq #[u,v] }):b7 P w H h T (.tup [x,y]) :=
 ⟨by rw[sizeLine_eq];simp,[u,v],.cons rx (.cons ry .nil),⟨_,e,rfl,_,rfl⟩⟩
theorem cD{h:Heap}{a b:Addr}{o u:Obj}(ha:h.get? a=some o)(hb:h.get? b=some u)(hc:o.cls≠u.cls):a≠b:=λz=>by
 subst z;rw[ha]at hb;cases hb;exact hc rfl
theorem C9{tp:Pos}{a b z TI TO:Addr}(hTT:TI≠TO)(Pa:i1≠i2):
  Turn P w K (.Tuple elts n1 tp) (Yy K a b) [z,TI,TO,i1,i2] z (λi h=>IsZip h z TI TO .none/\IsPair h TI (.ref i1) (.ref i2)/\(∃ x y,IsPair h TO x y)/\h.IsListIter i1 a i/\h.IsListIter i2 b i):=by
 have apart:∀ {h:Heap} {x y:Value} {xs ys:Array Value} {i:Nat},IsZip h z TI TO .none->IsPair h TI (.ref i1) (.ref i2)->IsPair h TO x y->h.IsListIter i1 a i->h.IsListIter i2 b i->h.IsList a xs->h.IsList b ys->ZipApart z TI TO i1 i2 a b:=by
  intro h x y xs ys i hz hI hO l1 l2 ha hb;obtain⟨o1,e1,c1,_⟩:=l1;obtain⟨o2,e2,c2,_⟩:=l2;obtain⟨oa,ea,ca,_⟩:=ha;obtain⟨ob,eb,cb,_⟩:=hb;exact⟨cD hI hz (by simp),cD hO hz (by simp),cD e1 hz (by rw[c1];simp),cD e2 hz (by rw[c2];simp),hTT,cD hI e1 (by rw[c1];simp),cD hI e2 (by rw[c2];simp),cD hO e1 (by rw[c1];simp),cD hO e2 (by rw[c2];simp),Pa,
   cD ea hz (by rw[ca];simp),cD ea hO (by rw[ca];simp),cD ea e1 (by rw[ca,c1];simp),cD ea e2 (by rw[ca,c2];simp),cD eb hz (by rw[cb];simp),cD eb hO (by rw[cb];simp),cD eb e1 (by rw[cb,c1];simp),cD eb e2 (by rw[cb,c2];simp)⟩
 refine⟨by simp,λi h st c hc=>?_,λi h h' st k=>?_,?_,?_,λA i s Q E st hQ=>wpAny_pyIter_zip st.1 hQ⟩
 ·obtain⟨hz,hI,⟨x,y,hO⟩,⟨o1,e1,_,d1⟩,⟨o2,e2,_,d2⟩⟩:=st;simp only[List.mem_cons,List.not_mem_nil,or_false]at hc;rcases hc with rfl | rfl | rfl | rfl | rfl
  ·exact⟨_,hz,λv q=>by cases q⟩
  ·exact⟨_,hI,λv q=>by cases q⟩
  ·exact⟨_,hO,λv q=>by cases q⟩
  ·exact⟨o1,e1,λv q=>by rw[d1]at q;cases q⟩
  ·exact⟨o2,e2,λv q=>by rw[d2]at q;cases q⟩
 ·obtain⟨hz,hI,⟨x,y,hO⟩,l1,l2⟩:=st;exact⟨k z (by simp) _ hz,k TI (by simp) _ hI,⟨x,y,k TO (by simp) _ hO⟩,l1.at λo e=>k i1 (by simp) o e,l2.at λo e=>k i2 (by simp) o e⟩
 ·intro X hP hw hK hc i pins s σ H E I hf st hg;subst hP hw hK;obtain⟨xs,ys,x,y,q1,q2,ex,ey⟩:=hg;obtain⟨hz,hI,⟨x0,y0,hO⟩,l1,l2⟩:=st;obtain⟨ao,rv,p,_⟩:=I.list q1;obtain⟨its',CK,p',_⟩:=I.list q2;obtain⟨u,hu,ru⟩:=rv.get ex;obtain⟨u',RJ,ru'⟩:=CK.get ey;have D:=apart hz hI hO l1 l2 p.isList p'.isList;refine wpAny_pyNext_zip_item D hz hI hO l1 l2 p.isList p'.isList (x:=u) (y:=u') (by simpa using hu) (by simpa using RJ) λh1 z1 o1 a1 b1 t1 TU k1=>⟨_,rfl,?_⟩
  refine wpAny_letOwnedTupleGo_zip z1 λh2 z2 OD=>?_;have zne:s.heap.objs.size≠z:=aaD (aap hz);have kk:∀ c o,c∉[z,TI,TO,i1,i2]->s.heap.get? c=some o->h2.get? c=some o:=λc o hc e=>by
   simp only[List.mem_cons,List.not_mem_nil,or_false,not_or]at hc;exact OD.extBut c o hc.1 (k1 c o hc.1 hc.2.2.1 hc.2.2.2.1 hc.2.2.2.2 e)
  have hT:h2.get? s.heap.objs.size=some { cls:=.type "tuple",data:=.seq #[u,u'] }:=OD.extBut _ _ zne t1;have hn:H s.heap.objs.size=none:=I.bQ.fresh (aas _);refine⟨.ref s.heap.objs.size,upd H s.heap.objs.size (.tup [x,y]),G6 (s:=s) (h':=h2) (t':=s.toks) I hf kk (aas _) (zP ru ru' hT),rfl,⟨_,x,y,λzs hz=>by rw[I.mG hz q1];exact ex,λzs hz=>by rw[I.mG hz q2];exact ey,hn,rfl,rfl⟩,⟨z2,OD.extBut _ _ D.TIz (k1 _ _ D.TIz D.TITO D.TIi1 D.TIi2 hI),⟨_,_,OD.extBut _ _ D.TOz o1⟩,a1.extBut OD.extBut D.i1z,b1.extBut OD.extBut D.i2z⟩,λc hc=>?_⟩;rw[aA]
  ·exact(hf c hc).1
  ·intro z;subst z;simp only[List.mem_cons,List.not_mem_nil,or_false]at hc;rcases hc with e | e | e | e | e
   ·exact absurd (aap hz) (by rw[<- e];exact aaF _)
   ·exact absurd (aap hI) (by rw[<- e];exact aaF _)
   ·exact absurd (aap hO) (by rw[<- e];exact aaF _)
   ·obtain⟨_,w,_⟩:=l1;exact absurd (aap w) (by rw[<- e];exact aaF _)
   ·obtain⟨_,w,_⟩:=l2;exact absurd (aap w) (by rw[<- e];exact aaF _)
 ·intro X hP hw hK hc i pins s σ H E I hf st hg;subst hP hw hK;obtain⟨xs,ys,q1,q2,hl⟩:=hg;obtain⟨hz,hI,⟨x0,y0,hO⟩,l1,l2⟩:=st;obtain⟨ao,rv,p,_⟩:=I.list q1;obtain⟨its',CK,p',_⟩:=I.list q2;have e1:=rv.length;have e2:=CK.length;refine wpAny_pyNext_zip_end (I.ok.hd hc) (apart hz hI hO l1 l2 p.isList p'.isList) hz hI hO l1 l2 p.isList p'.isList (by simp;left) λh1 k1=>⟨rfl,G5 (t':=s.toks) I hf λc o hc e=>?_⟩
  simp only[List.mem_cons,List.not_mem_nil,or_false,not_or]at hc;exact k1 c o hc.1 hc.2.2.1 hc.2.2.2.1 hc.2.2.2.2 e
variable {ta:TA}
theorem LF{tp p:Pos}(hg:Gl X "zip")(hm:X.mg "zip" = none)(ha:PA X [e1,e2] ta)(hs:∀ es,starEach (e1::es) X.env=(false,eval e1 X.env)::starEach es X.env)(OW:∀ es,starEach (e2::es) X.env=(false,eval e2 X.env)::starEach es X.env):
  PI X (.Tuple elts n1 tp) (.Call (.Name "zip" p) [e1,e2] [] pos) (λσ H R=>ta σ H λvs H1=>∃ a b,vs=[.ref a,.ref b]/\(∃ xs,cV X.K H1 a xs)/\(∃ ys,cV X.K H1 b ys)/\R (Yy X.K a b) H1):=by
 intro pins s σ H R I h;refine Call_ (gT I hg hm boot_zip (aaH (cI (ha pos pins s σ H _ I h) λus s1 ⟨vs,H1,I1,r1,q1⟩=>?_) (hs _) (by rw[OW];rfl)));obtain⟨a,b,e,⟨xs,q1⟩,⟨ys,q2⟩,q⟩:=q1;subst e;obtain⟨u,v,rfl,ru,rv⟩:=vals2 r1;cases ru;cases rv;obtain⟨ao,_,p1,_⟩:=I1.list q1;obtain⟨its',_,p2,_⟩:=I1.list q2;refine call_zip_2 p1.isList p2.isList λh' z t o l1 l2 sz k=>wpAny_pyIter_zip z ?_;refine⟨s1.heap.objs.size+4,[s1.heap.objs.size+4,s1.heap.objs.size+2,s1.heap.objs.size+3,s1.heap.objs.size,s1.heap.objs.size+1],_,_,H1,rfl,I1.kept (t':=s1.toks) k,C9 (aat (abb _)) (aat (abb _)),⟨z,t,⟨_,_,o⟩,l1,l2⟩,λb hb=>?_,q⟩;have xG:s1.heap.objs.size<=b:=by
  simp only[List.mem_cons,List.not_mem_nil,or_false]at hb;rcases hb with rfl | rfl | rfl | rfl | rfl<;>first | exact Nat.le_add_right .. | exact aas _
 exact I1.Fz xG (I1.bQ.fresh xG)
def j8(sc:Scope)(bl:List Str)(e:Expr):Option (List Expr):=match eH e with
 | some z=>match two z.2 with
  | some _=>if z.1=("zip" : Str)/\fV sc z.1=true/\z.1∈bl then some z.2 else none
  | none=>none
 | none=>none
theorem uy{sc:Scope}{bl:List Str}{e:Expr}(h:j8 sc bl e=some args):∃ p pos a b,e=.Call (.Name ("zip" : Str) p) [a,b] [] pos/\args=[a,b]/\fV sc ("zip" : Str)=true/\("zip" : Str)∈bl:=by
 unfold j8 at h;cases hv:eH e with
 | none=>rw[hv]at h;exact nk h
 | some z =>
  obtain⟨x,as⟩:=z;rw[hv]at h;obtain⟨p,pos,rfl⟩:=b_ hv;have h:(match two as with | some _=>if x=("zip" : Str)/\fV sc x=true/\x∈bl then some as else none | none=>none)=some args:=h;cases hw:two as with
  | none=>rw[hw]at h;exact nk h
  | some w =>
   obtain⟨a,b⟩:=w;rw[hw]at h;have h:(if x=("zip" : Str)/\fV sc x=true/\x∈bl then some as else none)=some args:=h;obtain rfl:=jM hw;by_cases hc:x=("zip" : Str)/\fV sc x=true/\x∈bl
   ·rw[if_pos hc]at h;cases h;obtain⟨rfl,h1,h2⟩:=hc;exact⟨_,_,_,_,rfl,rfl,h1,h2⟩
   ·rw[if_neg hc]at h;cases h
theorem qH{a b:Expr}(h:sH X F Φ cs [a,b]):(∃ c d,cs=[c,d]/\PE X a (tD X F Φ c)/\PE X b (tD X F Φ d))/\PA X [a,b] (yg X F Φ cs)/\(∀ es,starEach (a::es) X.env=(false,eval a X.env)::starEach es X.env)/\(∀ es,starEach (b::es) X.env=(false,eval b X.env)::starEach es X.env):=by
 match cs,h with
 | [c,d],h =>
  obtain⟨h1,h2,_,h3,h4,_,_⟩:=h;exact⟨⟨c,d,rfl,h1,h3⟩,PA.imp (cm h1 (PA.imp (cm h3 (PA.imp gS λ_ _ _ h=>pN h) (h4 _)) λ_ _ _ h=>jN h) (h2 _)) λ_ _ _ h=>jN h,h2,h4⟩
 | [],h=>exact h.elim
 | [_],h=>exact h.2.2.2.elim
 | _::_::_::_,h=>exact h.2.2.2.2.2.2.elim
theorem Rep.YL{k:aL}{v:V}{d:D}(e:ak H H')(h:Rep (aG K H) (nd K R (λ_=>False) (λ_=>none) H) k v d):Rep (aG K H') (nd K R (λ_=>False) (λ_=>none) H') k' v d :=
 (Rep.vd h (k':=k')).imp (λ_ _ h=>aG.same e h) λ_ _ _ _ h=>nd.same e h
theorem GO{p q:Addr}{f g:Fl}{a b:List D}:Ph K (Yy K p q) H2 [.ref p,.ref q] [.lst f a,.lst g b] (ag aC (List.zipWith (λx y=>.tup [x,y]) a b)):=by
 have len:(ag aC (List.zipWith (λx y=>D.tup [x,y]) a b)).length=min a.length b.length:=by rw[aB];simp
 have two:∀ {H':Hp} {R':Addr->Prop},ah (aG K H') (nd K R' (λ_=>False) (λ_=>none) H') [] 0 [.ref p,.ref q] (ag aC [.lst f a,.lst g b]) ->
   ∃ xs ys,cV K H' p xs/\cV K H' q ys/\ah (aG K H') (nd K R' (λ_=>False) (λ_=>none) H') [0] 0 xs (ag aC a)/\ah (aG K H') (nd K R' (λ_=>False) (λ_=>none) H') [1] 0 ys (ag aC b):=by
  intro H' R' h;rw[ag,aq,ag,aq,ag]at h;cases h with
  | cons h t=>cases t with
   | cons h' t=>cases h with
    | lst h r=>cases h' with
     | lst h' r'=>exact⟨_,_,h.sq,h'.sq,r,r'⟩
 refine⟨λi H' R' _ h hi=>?_,λi H' R' x oD _ h hi hy=>?_,λi H' R' _ h hi=>?_⟩
 ·obtain⟨xs,ys,h1,h2,r1,r2⟩:=two h;rw[len]at hi;have l1:=r1.length;have l2:=r2.length;rw[aB,List.length_map]at l1 l2;exact⟨xs,ys,xs[i]'(by left),ys[i]'(by left),h1,h2,aay _,aay _⟩
 ·obtain⟨xs,ys,h1,h2,r1,r2⟩:=two h;obtain⟨T,u,v,g1,g2,hn,rfl,rfl⟩:=hy;obtain⟨d1,e1,p1⟩:=r1.zh (g1 xs h1);obtain⟨d2,e2,p2⟩:=r2.zh (g2 ys h2);have es:ak H' (upd H' T (.tup [u,v])):=ak.upd hn;refine⟨es,.tup [d1,d2],?_,.tup (aG.of aH) (.cons (p1.YL es) (.cons (p2.YL es) .nil))⟩;rw[aB,List.getElem?_map]at e1 e2 ⊢;obtain⟨c1,q1,rfl⟩:=Option.map_eq_some_iff.mp e1;obtain⟨c2,q2,rfl⟩:=Option.map_eq_some_iff.mp e2;rw[List.getElem?_zipWith,q1,q2];simp[aq,ag]
 ·obtain⟨xs,ys,h1,h2,r1,r2⟩:=two h;rw[len]at hi;have l1:=r1.length;have l2:=r2.length;rw[aB,List.length_map]at l1 l2;exact⟨xs,ys,h1,h2,by left⟩
theorem Ky{n:Nat}(hΦ:Φ n=sL){sc:Scope}{bl:List Str}{k:Nat}(L:PX X sc bl k){e:Expr}(he:j8 sc bl e=some args)(ht:iX tg=true)(hs:sH X F Φ cs args)
  {pins:List (Addr×Obj)} {s:Shared} {xs:List D} {d:D} (I:Inv X pins σ H s) (Si:SI X F R τ ρ σ H) (bV:bL Φ cs ρ=ok xs) (ed:Φ n xs=ok d) (ei:nF d=ok items) (Rr:It->Hp->Prop)
  (hR:∀ J H2 vs,ak H H2->bR X.K (gP X F) R τ (ck cs) H H2 vs xs->Ph X.K J H2 vs xs items->Rr J H2) :
  wpAny (model X.prog X.w) X.A (eval e X.env) (λv s1=>wpAny (model X.prog X.w) X.A (pyIter v) (Gk X pins σ tg Rr) X.xe s1) X.xe s:=by
 obtain⟨p,pos,a,b,rfl,rfl,h1,h2⟩:=uy he;cases tg<;>try (cases ht;done)
 obtain⟨_,pa,s1,s2⟩:=qH hs;refine LF (L.gl h1) (L.bl _ h2) pa s1 s2 pins s σ H Rr I ⟨R,τ,ρ,xs,Si,bV,λvs H1 e1 rv=>?_⟩;have rv0:=rv;obtain⟨τt,fr,rs⟩:=rv;rw[hΦ]at ed;unfold sL at ed;split at ed
 ·cases ed;cases ei;obtain⟨v,w,rfl,rx,ry⟩:=rs.two;cases rx with
  | lst hx _=>cases ry with
   | lst hy _=>exact⟨_,_,rfl,⟨_,hx.sq⟩,⟨_,hy.sq⟩,hR _ H1 _ e1 rv0 GO⟩
 ·cases ed
section
variable {X:Cx}
end
def vQ(f:Str)(sc:Scope)(bl:List Str)(e:Expr):Option (List Expr):=match eH e with
 | some z=>match one z.2 with
  | some _=>if z.1=f/\fV sc z.1=true/\z.1∈bl then some z.2 else none
  | none=>none
 | none=>none
theorem Ct{f:Str}{sc:Scope}{bl:List Str}{e:Expr}(h:vQ f sc bl e=some args):∃ p pos a,e=.Call (.Name f p) [a] [] pos/\args=[a]/\fV sc f=true/\f∈bl:=by
 unfold vQ at h;cases hv:eH e with
 | none=>rw[hv]at h;exact nk h
 | some z =>
  obtain⟨x,as⟩:=z;rw[hv]at h;obtain⟨p,pos,rfl⟩:=b_ hv;have h:(match one as with | some _=>if x=f/\fV sc x=true/\x∈bl then some as else none | none=>none)=some args:=h;cases hw:one as with
  | none=>rw[hw]at h;exact nk h
  | some a =>
   rw[hw]at h;have h:(if x=f/\fV sc x=true/\x∈bl then some as else none)=some args:=h;obtain rfl:=b8 hw;by_cases hc:x=f/\fV sc x=true/\x∈bl
   ·rw[if_pos hc]at h;cases h;obtain⟨rfl,h1,h2⟩:=hc;exact⟨_,_,_,rfl,rfl,h1,h2⟩
   ·rw[if_neg hc]at h;cases h
section
variable {prog:Program}{w:World}{A:Around}{E:Value->Shared->Prop}{s:Shared}
noncomputable def wd(h:Heap)(vs:List Value)(nss:List (List Int)):Prop:=vs.length=nss.length/\∀(i:Nat) (ns:List Int),nss[i]?=some ns->∃ t ao,vs[i]?=some (.ref t)/\IsTup h t ao.toArray/\IntsAre ao ns/\ns≠[]
theorem xn{fin:Bool}{Q:Bool->Shared->Prop}:∀ {ao Ii:List Value} {ns ms:List Int} (i:Nat),IntsAre ao ns->IntsAre Ii ms->fin=decide (ao.length<Ii.length)->Q (HT.lexLt ns ms) s->PySem.W.KatLex prog w A true fin Q (ao.zip Ii) i s
 | _,_,_,_,i,.nil,.nil,hf,h=>by subst hf;exact h
 | _,_,_,_,i,.nil,.cons _ _ _,hf,h=>by subst hf;exact h
 | _,_,_,_,i,.cons _ _ _,.nil,hf,h=>by subst hf;exact h
 | _,_,_,_,i,.cons (ns:=ns) a t h1,.cons (ns:=ms) b u h2,hf,h=>by
  rw[HT.dq]at h;refine PySem.W.kat_cons (wpAny_eqBool_int (PySem.W.kat_go (λe=>?_) λe=>?_))
  ·have e:a=b:=by simpa using e
   rw[if_pos e]at h;exact PySem.W.kat_yes (xn (i+1) h1 h2 (by rw[hf];simp) h)
  ·have e:¬ a=b:=by simpa using e
   rw[if_neg e]at h;refine PySem.W.kat_no ?_;rw[Bool.true_and];cases i==0 with
   | true=>exact oneLt_int h
   | false=>exact PySem.W.kat_one _ _ (lt_int h)
theorem wd.mono{h:Heap}{vs:List Value}{nss:List (List Int)}(k:∀ b o,h.get? b=some o->h'.get? b=some o)(t:wd h vs nss):wd h' vs nss :=
 ⟨t.1,λi ns e=>let ⟨a,ao,e1,⟨o,ho,r⟩,e3⟩:=t.2 i ns e;⟨a,ao,e1,⟨o,k _ _ ho,r⟩,e3⟩⟩
end
noncomputable def gR(ns:List Int):D:=.tup (ns.map D.int)
theorem uP{p a:Addr}{o:HO}(hp:H p=some (.lst xs))(h:aG K H a ys):aG K (upd H p o) a ys:=by
 rcases h with (h | ⟨o',h⟩) | h
 ·exact .inl (.inl (by rw[aA (λz=>by subst z;rw[hp]at h;cases h)];exact h))
 ·exact .inl (.inr ⟨o',by rw[aA (λz=>by subst z;rw[hp]at h;cases h)];exact h⟩)
 ·exact .inr h
theorem Au{n i:Nat}{xs:List D}{r:Fo×aD}(ev:yP Φ n i (qV cs xs ρ)=ok r)(ha:av bE xs=false):∃ d d',ρ[i]?=some (some d)/\Φ n (d::xs)=ok d'/\r=(.nx,ρ.set i (some d')):=by
 unfold qV at ev;rw[if_neg (by rw[ha];exact Bool.false_ne_true)]at ev;unfold yP at ev;split at ev
 ·rename_i d hd;obtain⟨d',h1,h2⟩:=af ev;cases h2;exact⟨d,d',hd,h1,rfl⟩
 ·cases ev
theorem En{n i:Nat}{xs:List D}{r:Fo×aD}(ev:yP Φ n i (qV cs xs ρ)=ok r)(ha:av bE xs=true):∃ d d',Φ n (d::ag aC xs)=ok d':=by
 unfold qV at ev;rw[if_pos ha]at ev;unfold yP at ev;split at ev
 ·rename_i d hd;obtain⟨d',h1,h2⟩:=af ev;exact⟨d,d',h1⟩
 ·cases ev
def Ub:D->Option (List D)
 | .lst f ds=>if cL f then some ds else none
 | _=>none
theorem LW{d:D}(h:Ub d=some ds):d=.lst .ow ds:=by
 cases d<;>first | exact nk h | (cases h;done) | skip
 rename_i f es;have h:(if cL f then some es else none)=some ds:=h;cases f<;>first | (cases h;rfl) | (cases h;done)
def tM(m:Str)(st:Stmt):Option (Expr×List Expr):=match PJ st with
 | some c=>match uI c with
  | some z=>match zO z.1 with
   | some y=>if y.2.1=m/\z.2.2.1=[]/\(y.2.2.endLine==z.2.2.2.line)=true then some (y.1,z.2.1)else none
   | none=>none
  | none=>none
 | none=>none
theorem wy{m:Str}(h:tM m st=some (o,as)):∃ p1 p2 pos,st=.Expr (.Call (.Attribute o m p1) as [] p2) pos/\(p1.endLine==p2.line)=true:=by
 unfold tM at h;cases h1:PJ st with
 | none=>rw[h1]at h;exact nk h
 | some c =>
  obtain⟨pos,rfl⟩:=uH h1;rw[h1]at h;cases h2:uI c with
  | none=>simp only[h2]at h;cases h
  | some z =>
   obtain⟨f,Ol,ks,p2⟩:=z;obtain rfl:=tN h2;simp only[h2]at h;cases h3:zO f with
   | none=>simp only[h3]at h;cases h
   | some y =>
    obtain⟨o',a,p1⟩:=y;obtain rfl:=wB h3;simp only[h3]at h;by_cases hc:a=m/\ks=[]/\(p1.endLine==p2.line)=true
    ·rw[if_pos hc]at h;cases h;obtain⟨rfl,rfl,hl⟩:=hc;exact⟨p1,p2,pos,rfl,hl⟩
    ·rw[if_neg hc]at h;cases h
noncomputable def Bv(J:Nat)(d:D):Nat->List D->List D
 | _,[]=>[]
 | n,x::xs=>(if n=J then d else x)::Bv J d (n+1) xs
theorem ah.Bv{T T':pH}{N N':ir}{q:aL}{J:Nat}{d:D}(hT:∀ p xs,T p xs->T' p xs)(hN:∀ c m p xs f,m≠J->N (c++(m::q)) p xs f->N' (c++(m::q)) p xs f):∀ {n:Nat} {vs:List V} {ds:List D},ah T N q n vs ds->(∀ k v,vs[k]?=some v->n+k=J->Rep T' N' (J::q) v d)->ah T' N' q n vs (DI.Bv J d n ds)
 | _,_,_,.nil,_=>.nil
 | n,_,_,.cons (d:=x) h t,hj=>by
  refine .cons ?_ (ah.Bv hT hN t λk v e z=>hj (k+1) v e (by left));by_cases hn:n=J
  ·rw[if_pos hn];subst hn;exact hj 0 _ rfl rfl
  ·rw[if_neg hn];exact h.imp (q:=n::q) (q':=n::q) hT λc p xs f h=>hN c n p xs f hn h
section
variable {X:Cx}{F R:Addr->Prop}{τ:Addr->Option aL}{ρ:aD}{σ:St}{H:Hp}
theorem SI.V6{p a:Addr}{q q0:aL}{n:Nd}{f:Fl}{o:HO}(Si:SI X F R τ ρ σ H)(hp:H p=some (.lst xs))(ht:τ p=some q0)(hq:q≠q0)(h:nd X.K R (λ_=>False) τ H q a n f):nd X.K R (λ_=>False) τ (upd H p o) q a n f:=by
 have low:∀ {a:Addr} {z:Nd},a≠p->dZ H a z->dZ (upd H p o) a z:=λne h=>h.at λu e=>by rw[aA ne];exact e
 cases f with
 | ow=>exact⟨low (λz=>by subst z;exact hq (aaA (h.2.symm.trans ht))) h.1,h.2⟩
 | fz=>exact⟨low (λz=>by subst z;rw[Si.rt _ h.2]at ht;cases ht) h.1,h.2⟩
 | al=>exact h.2.elim
 | sc =>
  obtain⟨ys,rfl,h⟩:=h.DD;exact h.elim (λ⟨o',w⟩=>.inl ⟨o',by rw[aA (λz=>by subst z;rw[hp]at w;cases w)];exact w⟩) .inr
theorem SI.clr{i j:Nat}{p:Addr}(Si:SI X F R τ ρ σ H)(hi:ρ[i]?=some (some d0))(hp:H p=some (.lst xs))(ht:τ p=some [j,i])
  {v:V} (hv:σ[i]?=some (some v)) (hb:Rep (aG X.K (upd H p (.lst ys))) (nd X.K R (λ_=>False) τ (upd H p (.lst ys))) [i] v d1):SI X F R τ (ρ.set i (some d1)) σ (upd H p (.lst ys)):=by
 have Uw:i<ρ.length:=by
  by_cases z:i<ρ.length
  ·exact z
  ·rw[List.getElem?_eq_none (by left)]at hi;cases hi
 have there:∀ a,H a≠none->upd H p (.lst ys) a≠none:=λa h=>by
  by_cases z:a=p
  ·rw[z,aH];simp
  ·rw[aA z];exact h
 refine⟨by simp[Si.len],λm d hm=>?_,Si.rt,λa ha=>there a (Si.rh a ha),Si.rf,λa q e=>there a (Si.th a q e),Si.t0,λa u e=>?_⟩
 ·by_cases z:m=i
  ·subst z;rw[List.getElem?_set_self Uw]at hm;cases hm;exact⟨v,hv,hb⟩
  ·rw[List.getElem?_set_ne (Ne.symm z)]at hm;obtain⟨v,h1,h2⟩:=Si.rep m d hm;refine⟨v,h1,h2.imp (q:=[m]) (q':=[m]) (λ_ _ h=>uP hp h) λc a n f h=>Si.V6 hp ht (λe=>?_) h⟩;have:=aaS List.getLast? e;simp at this;exact z this
 ·rw[aA (λz=>by subst z;rw[Si.t0 _ _ ht]at e;cases e)];exact Si.same a u e
end
def pq(ds:List D)(j:Nat):Option (List D):=match ds[j]? with
 | some d=>match Ub d with
  | some _=>some (Bv j (.lst .ow []) 0 ds)
  | none=>none
 | none=>none
theorem A5{es:List D}{j:Nat}(h:pq ds j=some es):∃ gs,ds[j]?=some (.lst .ow gs)/\es=Bv j (.lst .ow []) 0 ds:=by
 unfold pq at h;cases h1:ds[j]? with
 | none=>rw[h1]at h;exact nk h
 | some d =>
  rw[h1]at h;have h:(match Ub d with | some _=>some (Bv j (.lst .ow []) 0 ds) | none=>none)=some es:=h;cases h2:Ub d with
  | none=>rw[h2]at h;exact nk h
  | some gs =>
   rw[h2]at h;cases h;exact⟨gs,by rw[LW h2],rfl⟩
def F0(xs:List D):O D:=match two xs with
 | some z=>match z.2 with
  | .int k=>if 0<=k then(match z.1 with
   | .tup ds=>(match pq ds k.toNat with | some es=>ok (.tup es) | none=>none)
   | .lst f ds=>if cL f then(match pq ds k.toNat with | some es=>ok (.lst f es) | none=>none)else none
   | _=>none)else none
  | _=>none
 | none=>none
theorem A6{x y d:D}(h0:F0 [x,y]=ok d):∃(k:Int) (ds gs:List D),y=.int k/\0<=k/\ds[k.toNat]?=some (.lst .ow gs)/\((x=.tup ds/\d=.tup (Bv k.toNat (.lst .ow []) 0 ds))\/(x=.lst .ow ds/\d=.lst .ow (Bv k.toNat (.lst .ow []) 0 ds))):=by
 cases y<;>first | exact nk h0 | (cases h0;done) | skip
 rename_i k;by_cases hk:0<=k
 ·have h:(if 0<=k then(match x with
   | .tup ds=>(match pq ds k.toNat with | some es=>ok (.tup es) | none=>none)
   | .lst f ds=>if cL f then(match pq ds k.toNat with | some es=>ok (.lst f es) | none=>none)else none
   | _=>none)else none)=ok d:=h0
  rw[if_pos hk]at h;clear h0;cases x<;>first | exact nk h | (cases h;done) | skip
  ·rename_i ds;replace h:(match pq ds k.toNat with | some es=>ok (D.tup es) | none=>none)=ok d:=h;cases hc:pq ds k.toNat with
   | none=>rw[hc]at h;exact nk h
   | some es =>
    rw[hc]at h;cases h;obtain⟨gs,h1,rfl⟩:=A5 hc;exact⟨k,ds,gs,rfl,hk,h1,.inl ⟨rfl,rfl⟩⟩
  ·rename_i f ds;replace h:(if cL f then(match pq ds k.toNat with | some es=>ok (D.lst f es) | none=>none)else none)=ok d:=h;by_cases hf:cL f=true
   ·rw[if_pos hf]at h;cases hc:pq ds k.toNat with
    | none=>rw[hc]at h;exact nk h
    | some es =>
     rw[hc]at h;cases h;obtain rfl:f=.ow:=by cases f<;>first | rfl | (cases hf;done)
     obtain⟨gs,h1,rfl⟩:=A5 hc;exact⟨k,ds,gs,rfl,hk,h1,.inr ⟨rfl,rfl⟩⟩
   ·rw[if_neg hf]at h;cases h
 ·have h:(if 0<=k then(match x with
   | .tup ds=>(match pq ds k.toNat with | some es=>ok (.tup es) | none=>none)
   | .lst f ds=>if cL f then(match pq ds k.toNat with | some es=>ok (.lst f es) | none=>none)else none
   | _=>none)else none)=ok d:=h0
  rw[if_neg hk]at h;cases h
def vV(_:Scope)(_:List Str)(st:Stmt):Option (Expr×List Expr):=match tM ("clear" : Str) st with
 | some z=>if z.2=[]then(match ny z.1 with
  | some y=>some (y.1,[y.2])
  | none=>none)else none
 | none=>none
theorem Cw{sc:Scope}{bl:List Str}(h:vV sc bl st=some (o,args)):∃ k p0 p1 p2 pos,args=[k]/\st=.Expr (.Call (.Attribute (.Subscript o k p0) ("clear" : Str) p1) [] [] p2) pos/\(p1.endLine==p2.line)=true:=by
 unfold vV at h;cases h1:tM ("clear" : Str) st with
 | none=>rw[h1]at h;exact nk h
 | some z =>
  obtain⟨b,as⟩:=z;rw[h1]at h;have h:(if as=[]then(match ny b with | some y=>some (y.1,[y.2]) | none=>none)else none)=some (o,args):=h;by_cases ha:as=[]
  ·rw[if_pos ha]at h;cases h2:ny b with
   | none=>rw[h2]at h;exact nk h
   | some y =>
    obtain⟨a,k⟩:=y;rw[h2]at h;cases h;subst ha;obtain⟨p0,rfl⟩:=me h2;obtain⟨p1,p2,pos,rfl,hl⟩:=wy h1;exact⟨k,p0,p1,p2,pos,rfl,rfl,hl⟩
  ·rw[if_neg ha]at h;cases h
theorem Od{n:Nat}(hΦ:Φ n=F0){sc:Scope}{bl:List Str}{k:Nat}(L:PX X sc bl k)(hN:X.N.Nodup)(sT:∀ x,X.fn x=true){x:Str}(he:vV sc bl st=some (.Name x pos,args))
  {i:Nat} (hi:X.N[i]?=some x) (hl:L2.Loc X.env.scope x) (pe:PE X (.Name x pos) (uM i)) (hs:sH X F Φ cs args):PS X st (wJ X F Φ (.mut n i cs)):=by
 obtain⟨ke,p0,p1,p2,pos',rfl,rfl,ET⟩:=Cw he;cases cs with
 | nil=>exact hs.elim
 | cons c cs=>cases cs with
  | cons _ _=>exact hs.2.2.2.elim
  | nil =>
   refine PS.imp (pT (LL PySem.F.plainAttrs_list PySem.F.slot_list_clear PySem.F.type_list_clear Ep (D9 (AE.or ED) pe hs.1 hs.2.2.1) (hline:=ET))) λD σ H hq=>?_;obtain⟨R,τ,ρ,r,Si,ev,hq⟩:=hq;obtain⟨xs,bV,ev⟩:=af ev;obtain⟨y,ey,bV⟩:=af bV;cases bV;have key:∃(k:Int) (d0 d1:DI.D) (ds gs:List DI.D),y=.int k/\ρ[i]?=some (some d0)/\0<=k/\ds[k.toNat]?=some (.lst .ow gs)/\((d0=.tup ds/\d1=.tup (Bv k.toNat (.lst .ow []) 0 ds))\/(d0=.lst .ow ds/\d1=.lst .ow (Bv k.toNat (.lst .ow []) 0 ds)))/\r=(.nx,ρ.set i (some d1)):=by
    cases hz:av bE [y]with
    | true =>
     obtain⟨d,d',h⟩:=En ev hz;rw[hΦ]at h;obtain⟨k,ds,gs,h3,_⟩:=A6 h;cases y<;>first | exact nk h3 | (cases h3;done) | (cases hz;done)
    | false =>
     obtain⟨d,d',h,h',rfl⟩:=Au ev hz;rw[hΦ]at h';obtain⟨k,ds,gs,rfl,h3,h4,h5⟩:=A6 h';exact⟨k,d,d',ds,gs,rfl,h,h3,h4,h5,rfl⟩
   obtain⟨k,d0,d1,ds,gs,rfl,ho,hk,hg,hd,rfl⟩:=key;obtain⟨v,hv,_⟩:=Si.rep i _ ho;refine⟨v,hv,tD.intro Si ey λu H1 e1 ru=>?_⟩;cases ru.isInt;have we:=Si.go e1;obtain⟨v',RI,rv⟩:=we.rep i _ ho;rw[hv]at RI;cases RI;have at_:∀ {xs:List V},ah (aG X.K H1) (nd X.K R (λ_=>False) τ H1) [i] 0 xs ds->∃(p:Addr) (zs:List V),xs[k.toNat]?=some (.ref p)/\H1 p=some (.lst zs)/\τ p=some [k.toNat,i]/\Ks xs k=some (.ref p):=by
    intro xs rs;obtain⟨w,hw,mB⟩:=rs.get hg;rw[Nat.zero_add]at mB;cases mB with
    | @lst _ p zs _ _ h _ =>
     refine⟨p,zs,hw,h.1,h.2,?_⟩;have jI:k.toNat<xs.length:=by
      by_cases z:k.toNat<xs.length
      ·exact z
      ·rw[List.getElem?_eq_none (by left)]at hw;cases hw
     unfold Ks L2.B0;rw[if_pos hk,if_pos (by left)];exact hw
   have go:∀ {xs:List V} {p:Addr} {zs:List V},ah (aG X.K H1) (nd X.K R (λ_=>False) τ H1) [i] 0 xs ds->xs[k.toNat]?=some (.ref p)->H1 p=some (.lst zs)->τ p=some [k.toNat,i]->ah (aG X.K (upd H1 p (.lst []))) (nd X.K R (λ_=>False) τ (upd H1 p (.lst []))) [i] 0 xs (Bv k.toNat (.lst .ow []) 0 ds):=by
    intro xs p zs rs hx hp ht;refine ah.Bv (λ_ _ h=>uP hp h) (λc m a n f hm h=>we.V6 hp ht (λz=>?_) h) rs λm w hw hm=>?_
    ·have:=aaS List.reverse z;simp at this;exact hm this.1
    ·rw[Nat.zero_add]at hm;subst hm;rw[hx]at hw;cases hw;exact .lst ⟨aH,ht⟩ .nil
   rcases hd with ⟨rfl,rfl⟩ | ⟨rfl,rfl⟩
   ·cases rv with
    | @tup _ a xs _ hn rs =>
     obtain⟨p,zs,h1,h2,h3,h4⟩:=at_ rs;refine .inr ⟨a,xs,k,_,rfl,rfl,hn,h4,.inl ⟨rfl,_,cV.of h2⟩,p,zs,rfl,rfl,h2,?_⟩;exact hq σ _ R τ (we.clr ho h2 h3 hv (.tup (uP h2 hn) (go rs h1 h2 h3))) (vj (n:=.l _) we e1 (λ_ h=>h) h2 h3)
   ·obtain⟨a,xs,rfl,hn,rs⟩:=rv.uG;obtain⟨p,zs,h1,h2,h3,h4⟩:=at_ rs;refine .inl ⟨a,xs,k,_,rfl,rfl,hn.sq,h4,.inl ⟨rfl,_,cV.of h2⟩,p,zs,rfl,rfl,h2,?_⟩;refine hq σ _ R τ (we.clr ho h2 h3 hv (.lst (we.V6 h2 h3 (λz=>?_) hn) (go rs h1 h2 h3))) (vj (n:=.l _) we e1 (λ_ h=>h) h2 h3);have:=aaS List.length z;simp at this
section
variable {prog:Program}{w:World}{A:Around}{E:Value->Shared->Prop}{s:Shared}
noncomputable def Ends(prog:Program)(w:World)(A:Around)(it:Addr)(S:Heap->Prop):Prop:=∀(s:Shared) (Q E:Value->Shared->Prop),S s.heap->(∀ h' e,Heap.ExtBut it s.heap h'->(∃ o,h'.get? e=some o/\o.cls=.type "StopIteration")->E (.ref e) { s with heap:=h' })->wpAny (model prog w) A (Builtin.SmallTypes.nextOf (.ref it)) Q E s
structure YE(z TI TO i1 i2:Addr)(f1 f2:List Addr):Prop where
 n1:TI≠z/\TO≠z/\i1≠z/\i2≠z
 n2:TI≠TO/\TI≠i1/\TI≠i2/\TO≠i1/\TO≠i2/\i1≠i2
 f1:z∉f1/\TO∉f1/\i2∉f1
 f2:z∉f2/\TO∉f2/\i1∉f2
section
variable {z TI TO i1 i2:Addr}{f1 f2:List Addr}{n1 n2 k:Nat}{P1 P2:Nat->Value->Prop}{S1 S2:Nat->Heap->Prop}{a b:Value}
end
end
noncomputable abbrev wc(h:Heap)(z TI TO a:Addr)(f:Bool):Prop :=
 h.get? z=some { cls:=.type "zip",dict:=none,data:=.fields #[rawInt a,.bool f,.bool false,.ref TI,.ref TO],slots:=#[] }
variable {oa:Obj}
section
variable {prog:Program}{w:World}{A:Around}{E:Value->Shared->Prop}{s:Shared}
theorem CW{a:Addr}{o:Obj}{Q:Option Obj->Shared->Prop}(ho:s.heap.get? a=some o)(h:Q (some o) s):wpAny (model prog w) A (loadIfAlive a) Q E s:=by
 have h':Q (s.heap.get? a) s:=by rw[ho];exact h
 exact λ_ _ _=>h'
theorem zK{z TI TO a:Addr}{f:Bool}{Q:Bool->Shared->Prop}(hz:wc s.heap z TI TO a f)(ha:s.heap.get? a=some oa)(hQ:∀ h',wc h' z TI TO a true->Heap.SameBut z s.heap h'->Q false { s with heap:=h' }):
  wpAny (model prog w) A (Builtin.SmallTypes.ownedTupleIsFree (.ref z)) Q E s:=by
 unfold Builtin.SmallTypes.ownedTupleIsFree;refine aah (abF hz rfl (x:=rawInt a) rfl ?_);show wpAny _ _ (loadIfAlive ((a:Int).toNat) >>= _) _ _ _;rw[Int.toNat_natCast];refine aah (CW ha ?_);simp only[Option.isNone_some,Bool.false_eq_true,if_false];refine aah (abF hz rfl (x:=.bool f) rfl ?_);cases f with
 | true =>
  rw[if_neg (show ¬ ((Value.bool true != Value.bool true)=true) from Bool.false_ne_true)];exact aaq (hQ s.heap hz (Heap.SameBut.refl _ _))
 | false =>
  rw[if_pos (show(Value.bool false != Value.bool true)=true from rfl)];exact aah (wpAny_setField_rec hz (by simp) λh₃ Sd oV=>aaq (hQ h₃ Sd oV))
theorem wu{z TI TO a:Addr}{f:Bool}{xs ys:Array Value}{x y:Value}{Q:Value->Shared->Prop}(D:ZipApart z TI TO i1 i2 l1 l2)
  (hz:wc s.heap z TI TO a f) (ha:s.heap.get? a=some oa) (Gz:IsPair s.heap TI (.ref i1) (.ref i2))
  (h1:s.heap.IsListIter i1 l1 k1) (h2:s.heap.IsListIter i2 l2 k2) (Gw:s.heap.IsList l1 xs) (Gv:s.heap.IsList l2 ys) (hx:xs[k1]?=some x) (hy:ys[k2]?=some y)
  (hQ:∀ h',wc h' z TI TO a true->h'.IsListIter i1 l1 (k1+1)->h'.IsListIter i2 l2 (k2+1)->IsPair h' s.heap.objs.size x y->h'.objs.size=s.heap.objs.size+1 ->
   (∀ c o,c≠z->c≠i1->c≠i2->s.heap.get? c=some o->h'.get? c=some o)->Q (.ref s.heap.objs.size) { s with heap:=h' }) :
  wpAny (model prog w) A (Builtin.«zip.__next__» ⟨[.ref z],[]⟩) (λfin s'=>∃ v,fin=.done (.ret v)/\Q v s') E s:=by
 show wpAny _ _ (field (.ref z) 2 >>= _) _ _ _;refine aah (abF hz rfl (x:=.bool false) rfl ?_);show wpAny _ _ (field (.ref z) 3 >>= _) _ _ _;refine aah (abF hz rfl (x:=.ref TI) rfl ?_);refine aah (wpAny_seqItems Gz rfl ?_);show wpAny _ _ (Builtin.SmallTypes.ownedTupleIsFree (.ref z) >>= _) _ _ _;refine aah (zK hz ha λh₁ J9 fU=>?_);simp only[Bool.false_eq_true,if_false];refine aah ?_;rw[<- Array.forIn_toList];simp only[List.forIn_cons,List.forIn_nil];refine aah (aah (aaO ?_));show wpAny _ _ (Builtin.SmallTypes.nextOf (.ref i1) >>= _) _ _ _;refine aah (abG (h1.extBut fU.extBut D.i1z) (Gw.extBut fU.extBut D.l1z) hx λh₂ Kc jZ=>aaq ?_);refine aaq ?_;refine aah (aah (aaO ?_));show wpAny _ _ (Builtin.SmallTypes.nextOf (.ref i2) >>= _) _ _ _;refine aah (abG ((h2.extBut fU.extBut D.i2z).extBut jZ.extBut D.i12.symm) ((Gv.extBut fU.extBut D.l2z).extBut jZ.extBut D.l2i1) hy λh₃ SE oV=>aaq ?_);refine aaq ?_;refine aaq ?_;have hsz:h₃.objs.size=s.heap.objs.size:=by rw[oV.1,jZ.1,fU.1]
 refine aah (wpAny_newTuple ?_ (by show 2<=_;rw[sizeLine_eq];decide));refine aaq ⟨_,rfl,?_⟩;show Q (.ref h₃.objs.size) _;have jI:∀ {c o},h₃.get? c=some o->c≠h₃.objs.size:=λe=>aat (aap e);have hk:∀ c o,c≠z->c≠i1->c≠i2->s.heap.get? c=some o->(h₃.push { cls:=.type "tuple",data:=.seq #[x,y] }).get? c=some o:=λc o c1 c2 c3 e=>aar _ (oV.extBut _ _ c3 (jZ.extBut _ _ c2 (fU.extBut _ _ c1 e)));rw[hsz];refine hQ _ (aar _ (oV.extBut _ _ D.i2z.symm (jZ.extBut _ _ D.i1z.symm J9))) ((Kc.extBut oV.extBut D.i12).at λo e=>aar _ e) (SE.at λo e=>aar _ e) ?_ (by rw[Heap.size_push,hsz]) hk;rw[<- hsz];exact aaw _ rfl
theorem yp{z TI TO a:Addr}{f:Bool}{xs ys:Array Value}{Q:Fin->Shared->Prop}(hh:A.handled=none)(D:ZipApart z TI TO i1 i2 l1 l2)
  (hz:wc s.heap z TI TO a f) (ha:s.heap.get? a=some oa) (Gz:IsPair s.heap TI (.ref i1) (.ref i2))
  (h1:s.heap.IsListIter i1 l1 k1) (h2:s.heap.IsListIter i2 l2 k2) (Gw:s.heap.IsList l1 xs) (Gv:s.heap.IsList l2 ys) (xx:xs[k1]?=none\/ys[k2]?=none)
  (hE:∀ h' e,(∀ c o,c≠z->c≠i1->c≠i2->s.heap.get? c=some o->h'.get? c=some o)->(∃ o,h'.get? e=some o/\o.cls=.type "StopIteration")->E (.ref e) { s with heap:=h' }) :
  wpAny (model prog w) A (Builtin.«zip.__next__» ⟨[.ref z],[]⟩) Q E s:=by
 show wpAny _ _ (field (.ref z) 2 >>= _) _ _ _;refine aah (abF hz rfl (x:=.bool false) rfl ?_);show wpAny _ _ (field (.ref z) 3 >>= _) _ _ _;refine aah (abF hz rfl (x:=.ref TI) rfl ?_);refine aah (wpAny_seqItems Gz rfl ?_);show wpAny _ _ (Builtin.SmallTypes.ownedTupleIsFree (.ref z) >>= _) _ _ _;refine aah (zK hz ha λh₁ J9 fU=>?_);simp only[Bool.false_eq_true,if_false];refine aah ?_;rw[<- Array.forIn_toList];simp only[List.forIn_cons,List.forIn_nil];refine aah (aah (aaO ?_));show wpAny _ _ (Builtin.SmallTypes.nextOf (.ref i1) >>= _) _ _ _;cases hx:xs[k1]? with
 | none =>
  refine aah (wpAny_nextOf_list_end hh (h1.extBut fU.extBut D.i1z) (Gw.extBut fU.extBut D.l1z) hx λh₂ e jZ he=>?_);exact hE h₂ e (λc o c1 c2 c3 x=>jZ _ _ c2 (fU.extBut _ _ c1 x)) he
 | some x =>
  have hy:ys[k2]?=none:=by rcases xx with h | h;rw[hx]at h;cases h;exact h
  refine aah (abG (h1.extBut fU.extBut D.i1z) (Gw.extBut fU.extBut D.l1z) hx λh₂ Kc jZ=>aaq ?_);refine aaq ?_;refine aah (aah (aaO ?_));show wpAny _ _ (Builtin.SmallTypes.nextOf (.ref i2) >>= _) _ _ _;refine aah (wpAny_nextOf_list_end hh ((h2.extBut fU.extBut D.i2z).extBut jZ.extBut D.i12.symm) ((Gv.extBut fU.extBut D.l2z).extBut jZ.extBut D.l2i1) hy λh₃ e oV he=>?_);exact hE h₃ e (λc o c1 c2 c3 x=>oV _ _ c3 (jZ.extBut _ _ c2 (fU.extBut _ _ c1 x))) he
theorem qh{z TI TO a:Addr}{f:Bool}{xs ys:Array Value}{x y:Value}{Q:Option Value->Shared->Prop}(D:ZipApart z TI TO i1 i2 l1 l2)
  (hz:wc s.heap z TI TO a f) (ha:s.heap.get? a=some oa) (Gz:IsPair s.heap TI (.ref i1) (.ref i2))
  (h1:s.heap.IsListIter i1 l1 k1) (h2:s.heap.IsListIter i2 l2 k2) (Gw:s.heap.IsList l1 xs) (Gv:s.heap.IsList l2 ys) (hx:xs[k1]?=some x) (hy:ys[k2]?=some y)
  (hQ:∀ h',wc h' z TI TO a true->h'.IsListIter i1 l1 (k1+1)->h'.IsListIter i2 l2 (k2+1)->IsPair h' s.heap.objs.size x y->h'.objs.size=s.heap.objs.size+1 ->
   (∀ c o,c≠z->c≠i1->c≠i2->s.heap.get? c=some o->h'.get? c=some o)->Q (some (.ref s.heap.objs.size)) { s with heap:=h' }) :
  wpAny (model prog w) A (pyNext (.ref z)) Q E s:=by
 have hT:s.TypeIs (.ref z) "zip":=⟨_,hz,rfl⟩
 unfold pyNext;exact aah (acg (abe (name:=Str.ofString "__next__") hT abl
  (aa5 abl hT PySem.F.entry_zip_next
   (wu D hz ha Gz h1 h2 Gw Gv hx hy λh' a1 a2 a3 a4 a5 a6=>aaq (hQ h' a1 a2 a3 a4 a5 a6)) (PySem.F.args_zip_next_1 _))))
theorem sJ{z TI TO a:Addr}{f:Bool}{xs ys:Array Value}{Q:Option Value->Shared->Prop}(hh:A.handled=none)(D:ZipApart z TI TO i1 i2 l1 l2)
  (hz:wc s.heap z TI TO a f) (ha:s.heap.get? a=some oa) (Gz:IsPair s.heap TI (.ref i1) (.ref i2))
  (h1:s.heap.IsListIter i1 l1 k1) (h2:s.heap.IsListIter i2 l2 k2) (Gw:s.heap.IsList l1 xs) (Gv:s.heap.IsList l2 ys) (xx:xs[k1]?=none\/ys[k2]?=none)
  (hQ:∀ h',(∀ c o,c≠z->c≠i1->c≠i2->s.heap.get? c=some o->h'.get? c=some o)->Q none { s with heap:=h' }):wpAny (model prog w) A (pyNext (.ref z)) Q E s:=by
 have hT:s.TypeIs (.ref z) "zip":=⟨_,hz,rfl⟩
 unfold pyNext;refine aah (acg (abe (name:=Str.ofString "__next__") hT abl
  (aa5 abl hT PySem.F.entry_zip_next (yp hh D hz ha Gz h1 h2 Gw Gv xx λh' e hk he=>?_) (PySem.F.args_zip_next_1 _))))
 obtain⟨o,ho,hc⟩:=he;refine aah (wpAny_isInstance (T:="StopIteration") (b:=true) ⟨o,ho,hc⟩ isSubtype_stop ?_);exact aaq (hQ _ hk)
end
theorem Kx:typeLookup (.type "zip") "__len__" = pure none:=by rw[typeLookup_type,builtinLookup_eq_fast];kernel_rfl
theorem Pn:typeLookup (.type "zip") "__length_hint__" = pure none:=by rw[typeLookup_type,builtinLookup_eq_fast];kernel_rfl
section
variable {prog:Program}{w:World}{A:Around}{E:Value->Shared->Prop}{s:Shared}
theorem GJ{z:Addr}(hT:s.TypeIs (.ref z) "zip"){Q:Bool->Shared->Prop}(h:Q true s):wpAny (model prog w) A (Builtin.List.listLengthHint (.ref z)) Q E s:=by
 unfold Builtin.List.listLengthHint;refine aah (wpAny_specialOf hT Kx ?_);refine wpAny_ite_split (λxJ=>absurd xJ (by decide)) (λ_=>?_);refine wpAny_ite_split (λxJ=>absurd xJ (by decide)) (λ_=>?_);refine aah (wpAny_specialOf hT Pn ?_);exact aaq h
end
structure Zl(h:Heap)(z TI TO i1 i2 l1 l2 S:Addr)(xs ys:Array Value)(i:Nat):Prop where
 st:(IsZip h z TI TO .none/\∃ a b,IsPair h TO a b)\/∃ a f oa,wc h z TI TO a f/\h.get? a=some oa/\S<a
 ti:IsPair h TI (.ref i1) (.ref i2)
 w1:h.IsListIter i1 l1 i
 w2:h.IsListIter i2 l2 i
 q1:h.IsList l1 xs
 q2:h.IsList l2 ys
structure Below(z TI TO i1 i2 l1 l2 S:Addr):Prop where
 D:ZipApart z TI TO i1 i2 l1 l2
 z:z<S
 TI:TI<S
 TO:TO<S
 i1:i1<S
 i2:i2<S
 l1:l1<S
 l2:l2<S
section
variable {prog:Program}{w:World}{A:Around}{E:Value->Shared->Prop}{s:Shared}{z TI TO i1 i2 l1 l2 S:Addr}{xs ys:Array Value}{i:Nat}
theorem Zl.keep{h:Heap}(B:Below z TI TO i1 i2 l1 l2 S)(Z:Zl h z TI TO i1 i2 l1 l2 S xs ys i)(hk:∀ b o,b≠S->h.get? b=some o->h'.get? b=some o):Zl h' z TI TO i1 i2 l1 l2 S xs ys i:=by
 have n:∀ {b},b<S->b≠S:=λh=>aat h;refine⟨?_,hk _ _ (n B.TI) Z.ti,Z.w1.at λo e=>hk _ o (n B.i1) e,Z.w2.at λo e=>hk _ o (n B.i2) e,Z.q1.at λo e=>hk _ o (n B.l1) e,Z.q2.at λo e=>hk _ o (n B.l2) e⟩;rcases Z.st with ⟨h1,a,b,h2⟩ | ⟨a,f,oa,h1,h2,h3⟩
 ·exact .inl ⟨hk _ _ (n B.z) h1,a,b,hk _ _ (n B.TO) h2⟩
 ·exact .inr ⟨a,f,oa,hk _ _ (n B.z) h1,hk _ _ (aaD h3) h2,h3⟩
theorem GH{x y:Value}{Q:Option Value->Shared->Prop}(B:Below z TI TO i1 i2 l1 l2 S)(Z:Zl s.heap z TI TO i1 i2 l1 l2 S xs ys i)(hS:S<s.heap.objs.size)(hx:xs[i]?=some x)(hy:ys[i]?=some y)
  (hQ:∀ h',Zl h' z TI TO i1 i2 l1 l2 S xs ys (i+1)->IsPair h' s.heap.objs.size x y->h'.objs.size=s.heap.objs.size+1->(∀ c o,c≠z->c≠TO->c≠i1->c≠i2->s.heap.get? c=some o->h'.get? c=some o)->Q (some (.ref s.heap.objs.size)) { s with heap:=h' }) :
  wpAny (model prog w) A (pyNext (.ref z)) Q E s:=by
 have D:=B.D;rcases Z.st with ⟨hz,a,b,O9⟩ | ⟨a,f,oa,hz,ha,hSa⟩
 ·refine wpAny_pyNext_zip_item D hz Z.ti O9 Z.w1 Z.w2 Z.q1 Z.q2 hx hy λh' z1 o1 a1 b1 t1 TU k1=>hQ h' ?_ t1 TU k1;exact⟨.inr ⟨s.heap.objs.size,false,_,z1,t1,hS⟩,k1 _ _ D.TIz D.TITO D.TIi1 D.TIi2 Z.ti,a1,b1,Z.q1.at λo e=>k1 _ o D.l1z D.l1TO D.l1i1 D.l1i2 e,Z.q2.at λo e=>k1 _ o D.l2z D.l2TO D.l2i1 D.l2i2 e⟩
 ·refine qh D hz ha Z.ti Z.w1 Z.w2 Z.q1 Z.q2 hx hy λh' z1 a1 b1 t1 TU k1=>hQ h' ?_ t1 TU λc o c1 _ c3 c4 e=>k1 c o c1 c3 c4 e;have n:∀ {b},b<S->a≠b:=λh=>aaD (abu h hSa);exact⟨.inr ⟨a,true,oa,z1,k1 _ _ (n B.z) (n B.i1) (n B.i2) ha,hSa⟩,k1 _ _ D.TIz D.TIi1 D.TIi2 Z.ti,a1,b1,Z.q1.at λo e=>k1 _ o D.l1z D.l1i1 D.l1i2 e,Z.q2.at λo e=>k1 _ o D.l2z D.l2i1 D.l2i2 e⟩
theorem GL{Q:Option Value->Shared->Prop}(hh:A.handled=none)(B:Below z TI TO i1 i2 l1 l2 S)(Z:Zl s.heap z TI TO i1 i2 l1 l2 S xs ys i)(xx:xs[i]?=none\/ys[i]?=none)
  (hQ:∀ h',(∀ c o,c≠z->c≠TO->c≠i1->c≠i2->s.heap.get? c=some o->h'.get? c=some o)->Q none { s with heap:=h' }):wpAny (model prog w) A (pyNext (.ref z)) Q E s:=by
 have D:=B.D;rcases Z.st with ⟨hz,a,b,O9⟩ | ⟨a,f,oa,hz,ha,hSa⟩
 ·exact wpAny_pyNext_zip_end hh D hz Z.ti O9 Z.w1 Z.w2 Z.q1 Z.q2 xx hQ
 ·exact sJ hh D hz ha Z.ti Z.w1 Z.w2 Z.q1 Z.q2 xx λh' k=>hQ h' λc o c1 _ c3 c4 e=>k c o c1 c3 c4 e
end
structure Tu(xs ys:Array Value)(lo:Addr)(h:Heap)(as:List Addr):Prop where
 above:∀ a∈as,lo<a
 nd:as.Nodup
 pairs:∀(j:Nat) (a:Addr),as[j]?=some a->∃ x y,xs[j]?=some x/\ys[j]?=some y/\IsPair h a x y
section
variable {prog:Program}{w:World}{A:Around}{s:Shared}{R:Result->Shared->Prop}{z TI TO i1 i2 l1 l2 S:Addr}{xs ys:Array Value}
theorem GG(hh:A.handled=none)(B:Below z TI TO i1 i2 l1 l2 S)(hn:min xs.size ys.size<=sizeLine)(res:Value) 
  (hR:∀ h' tk acc c as,(∀ b o,b≠S->b≠z->b≠TO->b≠i1->b≠i2->h₁.get? b=some o->h'.get? b=some o)->h'.get? S=some { cls:=.type "list",dict:=none,data:=.seq acc c,slots:=#[] }->as.length=min xs.size ys.size->Tu xs ys S h' as ->
   acc.toList=as.map Value.ref->R (.ok (.ret res)) { s with heap:=h',toks:=tk }) :
  ∀(k i:Nat) (h:Heap) (tk c:Nat) (acc:Array Value) (as:List Addr),min xs.size ys.size - i=k->i<=min xs.size ys.size->Zl h z TI TO i1 i2 l1 l2 S xs ys i->(∀ b o,b≠S->b≠z->b≠TO->b≠i1->b≠i2->h₁.get? b=some o->h.get? b=some o) ->
   h.get? S=some { cls:=.type "list",dict:=none,data:=.seq acc c,slots:=#[] }->acc.toList=as.map Value.ref->as.length=i->Tu xs ys S h as ->
   codeAny (model prog w) A (.builtin "list.extend.loop" ⟨[.ref S,.ref z,res],[]⟩) R { s with heap:=h,toks:=tk }:=by
 have nz:S≠z:=aaD B.z;have nO:S≠TO:=aaD B.TO;have n1:S≠i1:=aaD B.i1;have n2:S≠i2:=aaD B.i2;have YI:∀ {a:Addr},S<a->a≠z/\a≠TO/\a≠i1/\a≠i2:=λh=>⟨aaD (abu B.z h),aaD (abu B.TO h),aaD (abu B.i1 h),aaD (abu B.i2 h)⟩
 intro k;induction k with
 | zero =>
  intro i h tk c acc as hk hi Z EV hS gU Sw hG;refine abg PySem.F.entry_extend_loop ?_;rw[Around.under_plainId PySem.F.plain_extend_loop _];show wpAny _ A.in1 (pyNext (.ref z) >>= _) _ _ _;have xx:xs[i]?=none\/ys[i]?=none:=by
   rcases Nat.le_total xs.size ys.size with q | q
   ·exact .inl (Array.getElem?_eq_none (by left))
   ·exact .inr (Array.getElem?_eq_none (by left))
  refine aah (GL (s:={ s with heap:=h,toks:=tk }) (A:=A.in1) hh B Z xx λh' he=>?_);refine aaq (hR h' tk acc c as (λb o h1 h2 h3 h4 h5 e=>he b o h2 h3 h4 h5 (EV b o h1 h2 h3 h4 h5 e)) (he S _ nz nO n1 n2 hS) (by left) ⟨hG.above,hG.nd,λj a hj=>?_⟩ gU);obtain⟨x,y,e1,e2,e3⟩:=hG.pairs j a hj;obtain⟨a1,a2,a3,a4⟩:=YI (hG.above a (aaB hj));exact⟨x,y,e1,e2,he a _ a1 a2 a3 a4 e3⟩
 | succ k ih =>
  intro i h tk c acc as hk hi Z EV hS gU Sw hG;have jI:i<min xs.size ys.size:=by left
  have hx:xs[i]?=some (xs[i]'(by left)):=aba _;have hy:ys[i]?=some (ys[i]'(by left)):=aba _;have hsz:acc.size=i:=by rw[<- Array.length_toList,gU,List.length_map,Sw]
  have W_:S<h.objs.size:=aap hS;refine abg PySem.F.entry_extend_loop ?_;rw[Around.under_plainId PySem.F.plain_extend_loop _];show wpAny _ A.in1 (pyNext (.ref z) >>= _) _ _ _;refine aah (GH (s:={ s with heap:=h,toks:=tk }) B Z W_ hx hy λh' Z' ht hz O1=>?_);dsimp only at ht hz O1 ⊢;have Cc:=O1 S _ nz nO n1 n2 hS;have up:∀ b o,b≠S->h'.get? b=some o->(h'.update S (Obj.mapSeq (·.push (Value.ref h.objs.size)))).get? b=some o:=λb o hb e=>(aaQ _ _ (abv hb)).trans e;show wpAny _ A.in1 (updateSeq S (·.push (Value.ref h.objs.size)) >>= _) _ _ _;refine aah ?_;refine ab3 Cc rfl (aaq ⟨plainId_quiet PySem.F.plain_extend_loop _,ih (i+1) _ tk _ (acc.push (Value.ref h.objs.size)) (as++[h.objs.size]) (by left) jI (Z'.keep B up)
   (λb o h1 h2 h3 h4 h5 e=>up b o h1 (O1 b o h2 h3 h4 h5 (EV b o h1 h2 h3 h4 h5 e))) (aa_ _ Cc rfl) (by rw[Array.toList_push,gU,List.map_append];rfl) (by rw[List.length_append,Sw];rfl) ⟨?_,?_,?_⟩⟩) (by rw[hsz];left) (by show(acc.push (Value.ref h.objs.size)).size<=sizeLine+1;rw[Array.size_push,hsz];left)
  ·intro a ha;rcases List.mem_append.mp ha with ha | ha
   ·exact hG.above a ha
   ·rw[List.mem_singleton.mp ha];exact W_
  ·refine List.nodup_append.mpr ⟨hG.nd,List.nodup_cons.mpr ⟨List.not_mem_nil,abx⟩,λa ha b hb e=>?_⟩;rw[List.mem_singleton.mp hb]at e;subst e;obtain⟨j,hj⟩:=List.mem_iff_getElem?.mp ha;obtain⟨_,_,_,_,e⟩:=hG.pairs j _ hj;exact absurd (aap e) (aaF _)
  ·intro j b hj;rcases Nat.lt_trichotomy j as.length with q | q | q
   ·rw[List.getElem?_append_left q]at hj;obtain⟨x',y',e1,e2,e3⟩:=hG.pairs j b hj;have hb:=hG.above b (aaB hj);obtain⟨a1,a2,a3,a4⟩:=YI hb;exact⟨x',y',e1,e2,up b _ (aaD hb) (O1 b _ a1 a2 a3 a4 e3)⟩
   ·subst q;have hb:h.objs.size=b:=by simpa using hj
    subst hb;exact⟨_,_,by rw[Sw];exact hx,by rw[Sw];exact hy,up _ _ (aaD W_) ht⟩
   ·have RY:(as++[h.objs.size])[j]?=none:=List.getElem?_eq_none (by rw[List.length_append,List.length_singleton];left);rw[RY]at hj;exact nk hj
theorem Br(hh:A.handled=none)(B:Below z TI TO i1 i2 l1 l2 S)(hn:min xs.size ys.size<=sizeLine)(Z:Zl s.heap z TI TO i1 i2 l1 l2 S xs ys 0)(OV:IsZip s.heap z TI TO .none)(res:Value)(c₀:Nat)(hS:s.heap.get? S=some { cls:=.type "list",data:=.seq #[] c₀ })
  (hR:∀ h' tk acc c as,(∀ b o,b≠S->b≠z->b≠TO->b≠i1->b≠i2->s.heap.get? b=some o->h'.get? b=some o)->h'.get? S=some { cls:=.type "list",dict:=none,data:=.seq acc c,slots:=#[] }->as.length=min xs.size ys.size->Tu xs ys S h' as ->
   acc.toList=as.map Value.ref->R (.ok (.ret res)) { s with heap:=h',toks:=tk }) :
  wpAny (model prog w) A.in1 (Builtin.List.listExtendWith (.ref S) (.ref z) res)
   (λfin s'=>match fin with | .done f=>R (.ok f) s' | .again c'=>c'.quiet=true/\codeAny (model prog w) A c' R s') (λe s'=>R (.error e) s') s:=by
 have hSz:S≠z:=aaD B.z;have hT:s.TypeIs (.ref z) "zip":=⟨_,OV,rfl⟩
 unfold Builtin.List.listExtendWith;refine aah (wpAny_typeOf (T:="zip") hT ?_);have h1:Builtin.List.listSameRef (.ref S) (.ref z)=false:=by simp[Builtin.List.listSameRef,hSz]
 have h2:(Value.type "zip" == Value.type "list")=false:=by decide
 have h3:(Value.type "zip" == Value.type "tuple")=false:=by decide
 simp only[h1,h2,h3,Bool.or_false,Bool.false_eq_true,if_false];refine aah (wpAny_pyIter_zip OV ?_);refine aah (aaO (GJ hT ?_));refine wpAny_ite_split (λ_=>?_) (λxJ=>absurd rfl xJ);refine aah (wpAny_rule ?_);refine aah ?_;show wpAny _ _ (updateSeq S (·.push .none) >>= λ_=>updateSeq S (·.pop)) _ _ _;refine aah (ab3 hS rfl ?_);have AK:=aa_ (Obj.mapSeq (·.push Value.none)) hS rfl;refine ab3 (hz:=by seq_fits) AK rfl ?_;have Sz:=aa_ (Obj.mapSeq (·.pop)) AK rfl;have OG:∀ b o,b≠S->s.heap.get? b=some o->((s.heap.update S (Obj.mapSeq (·.push Value.none))).update S (Obj.mapSeq (·.pop))).get? b=some o:=λb o hb e=>(aaQ _ _ (abv hb)).trans ((aaQ _ _ (abv hb)).trans e);refine aaq ⟨plainId_quiet PySem.F.plain_extend_loop _,?_⟩;exact GG hh B hn res (s:=s) (h₁:=s.heap) hR (min xs.size ys.size) 0 _ s.toks _ #[] [] (Nat.sub_zero _) (aaP _) (Z.keep B OG) (λb o h1 _ _ _ _ e=>OG b o h1 e) Sz rfl rfl ⟨(λ_ ha=>nomatch ha),abx,λj a hj=>by simp at hj⟩
theorem GI(hh:A.handled=none)(B:Below z TI TO i1 i2 l1 l2 S)(hn:min xs.size ys.size<=sizeLine)(Z:Zl s.heap z TI TO i1 i2 l1 l2 S xs ys 0)(OV:IsZip s.heap z TI TO .none)(hS:s.heap.get? S=some { cls:=.type "list",data:=.seq #[] })
  (hR:∀ h' tk acc c as,(∀ b o,b≠S->b≠z->b≠TO->b≠i1->b≠i2->s.heap.get? b=some o->h'.get? b=some o)->h'.get? S=some { cls:=.type "list",dict:=none,data:=.seq acc c,slots:=#[] }->as.length=min xs.size ys.size->Tu xs ys S h' as ->
   acc.toList=as.map Value.ref->R (.ok (.ret .none)) { s with heap:=h',toks:=tk }) :
  wpAny (model prog w) A.in1 (Builtin.«list.__init__» ⟨[.ref S,.ref z],[]⟩)
   (λfin s'=>match fin with | .done f=>R (.ok f) s' | .again c'=>c'.quiet=true/\codeAny (model prog w) A c' R s') (λe s'=>R (.error e) s') s:=by
 show wpAny _ _ (do let old <- Builtin.List.listItems (.ref S);Builtin.List.listUpdate (.ref S) (λ_=>#[]);letGo old.toList.reverse;Builtin.List.listExtendWith (.ref S) (.ref z) .none) _ _ s;refine aah ?_;unfold Builtin.List.listItems;refine aah (wpAny_seqItems hS rfl (aaq ?_));show wpAny _ _ (updateSeq S (λ_=>#[]) >>= λ_=>letGo (#[]:Array Value).toList.reverse >>= λ_=>Builtin.List.listExtendWith (.ref S) (.ref z) .none) _ _ s;refine aah (ab3 hS rfl ?_);have AK:=aa_ (Obj.mapSeq (λ_=>(#[]:Array Value))) hS rfl;have OG:∀ b o,b≠S->s.heap.get? b=some o->(s.heap.update S (Obj.mapSeq (λ_=>(#[]:Array Value)))).get? b=some o :=
  λb o hb e=>(aaQ _ _ (abv hb)).trans e
 refine aah (wpAny_letGo ?_);refine Br hh B hn (Z.keep B OG) (OG _ _ (aat B.z) OV) .none _ AK λh' tk acc c as hk Cc hl hG gU=>?_;exact hR h' tk acc c as (λb o h1 h2 h3 h4 h5 e=>hk b o h1 h2 h3 h4 h5 (OG b o h1 e)) Cc hl hG gU
end
section
variable {prog:Program}{w:World}{A:Around}{E:Value->Shared->Prop}{s:Shared}{z TI TO i1 i2 l1 l2:Addr}{xs ys:Array Value}
theorem GN{Q:Value->Shared->Prop}(hh:A.handled=none)(D:ZipApart z TI TO i1 i2 l1 l2)(hn:min xs.size ys.size<=sizeLine)(hz:IsZip s.heap z TI TO .none)(Gz:IsPair s.heap TI (.ref i1) (.ref i2)){a b:Value}(O9:IsPair s.heap TO a b)(h1:s.heap.IsListIter i1 l1 0)(h2:s.heap.IsListIter i2 l2 0)(q1:s.heap.IsList l1 xs)(q2:s.heap.IsList l2 ys)
  (hQ:∀ h' tk acc c as,(∀ b o,b≠z->b≠TO->b≠i1->b≠i2->s.heap.get? b=some o->h'.get? b=some o)->h'.get? s.heap.objs.size=some { cls:=.type "list",dict:=none,data:=.seq acc c,slots:=#[] }->as.length=min xs.size ys.size->Tu xs ys s.heap.objs.size h' as ->
   acc.toList=as.map Value.ref->Q (.ref s.heap.objs.size) { s with heap:=h',toks:=tk }) :
  wpAny (model prog w) A (call (.type "list") [.ref z]) Q E s:=by
 refine callType_codes (Q₁:=λobj s₁=>obj=.ref s.heap.objs.size/\s₁={ s with heap:=s.heap.push { cls:=.type "list",data:=.seq #[] } }) PySem.F.called_list (PySem.F.typeCall_list_1 _) PySem.F.entry_list_init
  (code_list_new _ ⟨rfl,rfl⟩) λobj s₁ h₁=>?_
 obtain⟨rfl,rfl⟩:=h₁;have hS:(s.heap.push { cls:=.type "list",data:=.seq #[] }).get? s.heap.objs.size=some { cls:=.type "list",data:=.seq #[] }:=aaw _ rfl;have up:∀ b o,s.heap.get? b=some o->(s.heap.push { cls:=.type "list",data:=.seq #[] }).get? b=some o:=λb o e=>aar _ e;have B:Below z TI TO i1 i2 l1 l2 s.heap.objs.size:=⟨D,aap hz,aap Gz,aap O9,(by obtain⟨_,e,_⟩:=h1;exact aap e),(by obtain⟨_,e,_⟩:=h2;exact aap e),(by obtain⟨_,e,_⟩:=q1;exact aap e),(by obtain⟨_,e,_⟩:=q2;exact aap e)⟩
 refine⟨⟨_,hS,rfl⟩,PySem.F.args_list_init_2 _ _,GI (A:=A.in1) hh B hn ⟨.inl ⟨up _ _ hz,a,b,up _ _ O9⟩,up _ _ Gz,h1.at λo e=>up _ o e,h2.at λo e=>up _ o e,q1.at λo e=>up _ o e,q2.at λo e=>up _ o e⟩ (up _ _ hz) hS λh' tk acc c as hk Cc hl hG gU=>?_⟩;exact⟨rfl,hQ h' tk acc c as (λb o h2 h3 h4 h5 e=>hk b o (aat (aap e)) h2 h3 h4 h5 (up b o e)) Cc hl hG gU⟩
end
theorem Inv.Rv{pins:List (Addr×Obj)}{s:Shared}(I:Inv X pins σ H s)(k:∀ b u,s.heap.get? b=some u->h'.get? b=some u)(up:∀ b u,H b=some u->H' b=some u)
  (nw:∀ b u,H' b=some u->H b=some u\/(s.heap.objs.size<=b/\b7 X.prog X.w H' h' b u)):Inv X pins σ H' { s with heap:=h',toks:=t' }:=by
 refine I.step (g':=s.gens) (d':=s.drawn) (ch:=[]) (λb hb=>nomatch hb) (λb o _ _ _ e _=>k b o e) (λb o _ _ _ e _=>⟨o.slots,k b o e⟩) (λb u _ e n=>?_)
  (λb o _ e=>⟨o,k b o e⟩) (λ_ _ e=>up _ _ e) (λ_ _ _ e=>up _ _ e) (λb ps e=>⟨#[],by rw[up _ _ e];simp⟩) (λm hm=>?_) (λb u e=>?_) I.bare
 ·cases q:H' b with
  | none=>rfl
  | some v =>
   rcases nw b v q with z | ⟨z,_⟩
   ·rw[n]at z;exact nk z
   ·exact absurd (aap e) (Nat.not_lt.mpr z)
 ·obtain⟨o,es,ep,ho,r⟩:=hm;exact⟨o,es,ep,k _ o ho,r⟩
 ·rcases nw b u e with e | ⟨_,e⟩
  ·exact(I.bQ b u e).jO (λc v _ q=>k c v q) (λ_ q=>up _ _ q) λ_ _ q=>up _ _ q
  ·exact e
def sS(H:Hp):List (Addr×V×V)->Hp
 | []=>H
 | q::r=>upd (sS H r) q.1 (.tup [q.2.1,q.2.2])
theorem mI{H:Hp}{b:Addr}{u:HO}(e:H b=some u):∀ {r:List (Addr×V×V)},(∀ q∈r,H q.1=none)->sS H r b=some u
 | [],_=>e
 | q::r,h=>by
  have hn:b≠q.1:=λz=>by rw[z,h q List.mem_cons_self]at e;cases e
  show upd (sS H r) q.1 _ b=_;rw[aA hn];exact mI e λq hq=>h q (aam _ hq)
theorem AD{H:Hp}:∀ {r:List (Addr×V×V)},(r.map (·.1)).Nodup->∀ q∈r,sS H r q.1=some (.tup [q.2.1,q.2.2])
 | [],_,_,h=>nomatch h
 | q'::r,hn,q,h=>by
  show upd (sS H r) q'.1 _ q.1=_;have AJ:=List.nodup_cons.mp hn;rcases List.mem_cons.mp h with rfl | h
  ·exact aH
  ·have:q.1≠q'.1:=λz=>AJ.1 (by show q'.1∈_;rw[<- z];exact aaL h);rw[aA this];exact AD AJ.2 q h
theorem xo{H:Hp}{b:Addr}{u:HO}:∀ {r:List (Addr×V×V)},sS H r b=some u->H b=some u\/∃ q∈r,q.1=b/\u=.tup [q.2.1,q.2.2]
 | [],e=>.inl e
 | q::r,e=>by
  replace e:upd (sS H r) q.1 (.tup [q.2.1,q.2.2]) b=some u:=e;by_cases z:b=q.1
  ·subst z;rw[aH]at e;cases e;exact .inr ⟨q,aao,rfl,rfl⟩
  ·rw[aA z]at e;rcases xo e with h | ⟨q',h1,h2⟩
   ·exact .inl h
   ·exact .inr ⟨q',aam _ h1,h2⟩
def tLZ(K:PySem.W.Frag)(ta:TA):TE:=λσ H Q=>ta σ H λvs H1=>∃ a b xs ys,vs=[.ref a,.ref b]/\cV K H1 a xs/\cV K H1 b ys /\
 ∀(l:Addr) (r:List (Addr×V×V)),H1 l=none->(∀ q∈r,H1 q.1=none)->(r.map (·.1)).Nodup->l∉r.map (·.1)->r.map (·.2)=xs.zip ys->Q (.ref l) (upd (sS H1 r) l (.lst (r.map λq=>V.ref q.1)))
theorem HI{p:Pos}(hc:X.calm=true)(WZ:Gl X "list")(hml:X.mg "list" = none)(hg:Gl X "zip")(hm:X.mg "zip" = none)(ha:PA X [e1,e2] ta)(hs:∀ es,starEach (e1::es) X.env=(false,eval e1 X.env)::starEach es X.env)(OW:∀ es,starEach (e2::es) X.env=(false,eval e2 X.env)::starEach es X.env):
  PE X (.Call (.Name "list" p') [.Call (.Name "zip" p) [e1,e2] [] pos] [] pos') (tLZ X.K ta):=by
 intro pins s σ H Q I h;refine aa7 (gT I WZ hml boot_list ?_);refine aaH ?_;show wpAny _ _ (spliced ((false,eval (.Call (.Name "zip" p) [e1,e2] [] pos) X.env)::backTo pos' (starEach [] X.env))) _ _ s;refine ab_ ?_;refine Call_ (gT I hg hm boot_zip (aaH (cI (ha pos pins s σ H _ I h) λus s1 ⟨vs,H1,I1,r1,q1⟩=>?_) (hs _) (by rw[OW];rfl)));obtain⟨a,b,xs,ys,e,q1,q2,hq⟩:=q1;subst e;obtain⟨u,v,rfl,ru,rv⟩:=vals2 r1;cases ru;cases rv;obtain⟨ao,rx,p1,Zv⟩:=I1.list q1;obtain⟨its',ry,p2,Us⟩:=I1.list q2;refine call_zip_2 p1.isList p2.isList λh' z t o l1 l2 sz k=>ach ?_;have Gw:h'.IsList a ao.toArray:=p1.isList.at λo e=>k _ o e;have Gv:h'.IsList b its'.toArray:=p2.isList.at λo e=>k _ o e;have cls:∀ {x y:Addr} {o u:Obj},h'.get? x=some o->h'.get? y=some u->o.cls≠u.cls->x≠y:=λh1 h2 h3=>cD h1 h2 h3;have al:@LT.lt Nat _ a s1.heap.objs.size:=by obtain⟨_,e,_⟩:=p1.isList;exact aap e
 have bl:@LT.lt Nat _ b s1.heap.objs.size:=by obtain⟨_,e,_⟩:=p2.isList;exact aap e
 have D:ZipApart (s1.heap.objs.size+4) (s1.heap.objs.size+2) (s1.heap.objs.size+3) s1.heap.objs.size (s1.heap.objs.size+1) a b:=by
  constructor<;>first | exact aat (by left) | exact aaD (by left)
 have lx:=rx.length;have ly:=ry.length;have hn:min ao.toArray.size its'.toArray.size<=sizeLine:=by simp;left
 refine GN (s:={ s1 with heap:=h' }) (I1.ok.hd hc) D hn z t o l1 l2 Gw Gv λZW tk acc c as hk hS hl hG gU=>?_;dsimp only at hk hS hG ⊢;have hlen:as.length=(xs.zip ys).length:=by rw[hl,List.length_zip];simp;left
 have keep:∀ b o,s1.heap.get? b=some o->ZW.get? b=some o:=λb o e=>by
  have:@LT.lt Nat _ b s1.heap.objs.size:=aap e;exact hk b o (aat (by left)) (aat (by left)) (aat (by left)) (aat (by left)) (k b o e)
 have fresh:∀ c,s1.heap.objs.size<=c->H1 c=none:=λc h=>I1.bQ.fresh h;have hS5:h'.objs.size=s1.heap.objs.size+5:=sz
 let r:List (Addr×V×V):=as.zip (xs.zip ys)
 have r1:r.map (·.1)=as:=List.map_fst_zip (by left);have r2:r.map (·.2)=xs.zip ys:=List.map_snd_zip (by left);have xJ:∀ c∈as,@LT.lt Nat _ h'.objs.size c:=hG.above;have WD:∀ q∈r,H1 q.1=none:=λq hq=>fresh _ (by have:=xJ q.1 (by rw[<- r1];exact aaL hq);left);have ET:H1 h'.objs.size=none:=fresh _ (by left);have MS:h'.objs.size∉r.map (·.1):=by rw[r1];exact λz=>absurd (xJ _ z) (aaF _)
 have Gu:(r.map (·.1)).Nodup:=by rw[r1];exact hG.nd
 have EU:(as.map V.ref)=r.map λq=>V.ref q.1:=by rw[<- r1,List.map_map];rfl
 refine⟨.ref h'.objs.size,upd (sS H1 r) h'.objs.size (.lst (r.map λq=>V.ref q.1)),?_,rfl,hq _ r ET WD Gu MS r2⟩;refine Inv.Rv (s:=s1) (t':=tk) I1 keep (λb u e=>?_) λb u e=>?_
 ·rw[aA λz=>by rw[z,ET]at e;cases e];exact mI e WD
 ·by_cases zb:b=h'.objs.size
  ·subst zb;rw[aH]at e;cases e;refine .inr ⟨by left,?_,acc.toList,c,?_,by rw[Array.toArray_toList];exact hS⟩
   ·rw[<- EU,List.length_map,hlen,List.length_zip];left
   ·rw[<- EU,gU];clear gU EU hG hl hlen r1 xJ Gu r r2 WD MS hS hk keep;induction as with
    | nil=>exact .nil
    | cons a as ih=>exact .cons rfl ih
  ·rw[aA zb]at e;rcases xo e with e | ⟨q,hq,rfl,rfl⟩
   ·exact .inl e
   ·have hm:q.1∈as:=by rw[<- r1];exact aaL hq
    refine .inr ⟨by have:=xJ _ hm;left,?_⟩;obtain⟨j,hj⟩:=List.mem_iff_getElem?.mp hq;have R8:as[j]?=some q.1/\(xs.zip ys)[j]?=some q.2:=by
     have:=List.getElem?_zip_eq_some.mp hj;exact this
    obtain⟨x,y,ex,ey,hp⟩:=hG.pairs j q.1 R8.1;obtain⟨e1,e2⟩:xs[j]?=some q.2.1/\ys[j]?=some q.2.2:=List.getElem?_zip_eq_some.mp R8.2;obtain⟨u1,WA,VD⟩:=rx.get e1;obtain⟨u2,hu2,VC⟩:=ry.get e2;rw[List.getElem?_toArray,WA]at ex;rw[List.getElem?_toArray,hu2]at ey;cases ex;cases ey;exact zP VD VC hp
noncomputable def pairD(x y:D):D:=.tup [x,y]
def ON(xs:List D):O D:=match two xs with
 | some z=>match z.1 with
  | .lst _ a=>match z.2 with
   | .lst _ b=>ok (.lst .ow (ag aR (List.zipWith pairD a b)))
   | _=>none
  | _=>none
 | none=>none
theorem Mh{x y d:D}(h:ON [x,y]=ok d):∃ f a g b,x=.lst f a/\y=.lst g b/\d=.lst .ow (ag aR (List.zipWith pairD a b)):=by
 cases x<;>first | exact nk h | (cases h;done) | skip
 cases y<;>first | exact nk h | (cases h;done) | skip
 cases h;exact⟨_,_,_,_,rfl,rfl,rfl⟩
def A8(sc:Scope)(bl:List Str)(e:Expr):Option (List Expr):=match eH e with
 | some z=>match one z.2 with
  | some i=>if z.1=("list" : Str)/\fV sc z.1=true/\z.1∈bl then j8 sc bl i else none
  | none=>none
 | none=>none
theorem F4{sc:Scope}{bl:List Str}{e:Expr}(h:A8 sc bl e=some args):∃ p pos i,e=.Call (.Name ("list" : Str) p) [i] [] pos/\fV sc ("list" : Str)=true/\("list" : Str)∈bl/\j8 sc bl i=some args:=by
 unfold A8 at h;cases hv:eH e with
 | none=>rw[hv]at h;exact nk h
 | some z =>
  obtain⟨x,as⟩:=z;rw[hv]at h;obtain⟨p,pos,rfl⟩:=b_ hv;have h2:(match one as with | some i=>if x=("list" : Str)/\fV sc x=true/\x∈bl then j8 sc bl i else none | none=>none)=some args:=h;clear h;cases hw:one as with
  | none=>rw[hw]at h2;exact nk h2
  | some a =>
   rw[hw]at h2;have h3:(if x=("list" : Str)/\fV sc x=true/\x∈bl then j8 sc bl a else none)=some args:=h2;clear h2;obtain rfl:=b8 hw;by_cases hc:x=("list" : Str)/\fV sc x=true/\x∈bl
   ·rw[if_pos hc]at h3;obtain⟨rfl,h1,h2⟩:=hc;exact⟨_,_,_,rfl,h1,h2,h3⟩
   ·rw[if_neg hc]at h3;cases h3
theorem wY{T:pH}{N:ir}(hN:∀ k k' p xs f,N k p xs f->N k' p xs f):∀ {r:List (Addr×V×V)} {xs ys:List V} {a b:List D} {k1 k2 k:aL} {n1 n2 n:Nat},ah T N k1 n1 xs a->ah T N k2 n2 ys b->r.map (·.2)=xs.zip ys->(∀ q∈r,T q.1 [q.2.1,q.2.2])->ah T N k n (r.map λq=>V.ref q.1) (List.zipWith pairD a b)
 | [],xs,ys,a,b,_,_,_,_,_,_,r1,r2,e,_=>by
  have l1:=r1.length;have l2:=r2.length;have e':=aaS List.length e;rw[List.length_zip]at e';have:List.zipWith pairD a b=[]:=List.eq_nil_of_length_eq_zero (by rw[List.length_zipWith];simp at e';left);rw[this];exact .nil
 | q::r,xs,ys,a,b,k1,k2,k,n1,n2,n,r1,r2,e,ht=>by
  cases r1 with
  | nil=>cases e
  | cons h1 t1=>cases r2 with
   | nil=>cases e
   | cons h2 t2 =>
    have e1:q.2=(_,_):=(abJ e).1;have e2:=(abJ e).2;refine .cons (.tup (ht q aao) ?_) (wY hN t1 t2 e2 λq hq=>ht q (aam _ hq));rw[e1];have m1:=Rep.jX (T':=T) (N':=N) (g:=id) (λ_ _ h=>h) hN h1 (0::n::k);have m2:=Rep.jX (T':=T) (N':=N) (g:=id) (λ_ _ h=>h) hN h2 (1::n::k);rw[fB]at m1 m2;exact .cons m1 (.cons m2 .nil)
theorem dy(g:Fl->Fl):∀ a b:List D,ag g (List.zipWith pairD a b)=List.zipWith pairD (ag g a) (ag g b)
 | [],_=>by cases ‹List D› <;> rfl
 | _::_,[]=>rfl
 | x::a,y::b=>by
  show aq g (pairD x y)::ag g (List.zipWith pairD a b)=_;rw[dy g a b];rfl
theorem Rj{n:Nat}(hΦ:Φ n=ON){sc:Scope}{bl:List Str}{k:Nat}(L:PX X sc bl k){e:Expr}(he:A8 sc bl e=some args)(hs:sH X F Φ cs args):PE X e (tD X F Φ (.cw n cs))/\PT X e (iK X F Φ (.cw n cs)):=by
 obtain⟨p,pos,i,rfl,h1,h2,hz⟩:=F4 he;obtain⟨p',pos',a,b,rfl,rfl,h3,h4⟩:=uy hz;obtain⟨⟨c,d,rfl,_,_⟩,pa,s1,s2⟩:=qH hs;have this:PE X (.Call (.Name ("list" : Str) p) [.Call (.Name ("zip" : Str) p') [a,b] [] pos'] [] pos) (tD X F Φ (.cw n [c,d])):=by
  refine PE.imp (HI L.calm (L.gl h1) (L.bl _ h2) (L.gl h3) (L.bl _ h4) pa s1 s2) λσ H Q hq=>?_;obtain⟨R,τ,ρ,d',Si,ev,hq⟩:=hq;obtain⟨xs,bV,ev⟩:=af ev;rw[hΦ]at ev;refine⟨R,τ,ρ,xs,Si,bV,λvs H1 e1 r1=>?_⟩;obtain⟨τt,fr,rs⟩:=r1;have hl:∃ x y,xs=[x,y]:=by
   unfold ON at ev;cases hw:two xs with
   | none=>rw[hw]at ev;exact nk ev
   | some z=>exact⟨z.1,z.2,jM hw⟩
  obtain⟨x,y,rfl⟩:=hl;obtain⟨f,da,g,db,rfl,rfl,rfl⟩:=Mh ev;obtain⟨v,w,rfl,rx,ry⟩:=rs.two;cases rx with
  | lst hx ax=>cases ry with
   | lst hy ay =>
    refine⟨_,_,_,_,rfl,hx.sq,hy.sq,λl r hl hr hn MS hz=>hq _ _ ?_ ?_⟩
    ·intro b o e;have e':=e1 b o e;rw[aA λz=>by rw[z,hl]at e';cases e'];exact mI e' hr
    ·have sm:ak H1 (upd (sS H1 r) l (.lst (r.map λq=>V.ref q.1))):=λb o e=>by
      rw[aA λz=>by rw[z,hl]at e;cases e];exact mI e hr
     refine bM.BQ (e1.free hl) (e1.trans sm) aH ?_;rw[dy];refine wY nd.AS ((ax.m8 Si fr (k':=[]) (n':=0)).imp (λ_ _ h=>aG.same sm h) λ_ _ _ _ h=>nd.same sm h) ((ay.m8 Si fr (k':=[]) (n':=0)).imp (λ_ _ h=>aG.same sm h) λ_ _ _ _ h=>nd.same sm h) hz λq hq=>?_;have AG:q.1≠l:=λz=>MS (by rw[<- z];exact aaL hq);exact aG.of (by rw[aA AG];exact AD hn q hq)
 exact⟨this,cP this λ_=>rfl⟩
theorem ah.Kj{T:pH}{N:ir}{k:aL}:∀(j:Nat) {n:Nat} {vs:List V} {ds:List D},ah T N k n vs ds->ah T N k (n+j) (vs.drop j) (ds.drop j)
 | 0,_,_,_,h=>h
 | j+1,_,_,_,.nil=>.nil
 | j+1,n,_,_,.cons h t=>by
  rw[show n+(j+1)=n+1+j by left];exact ah.Kj j t
theorem ah.JI{T:pH}{N:ir}{k:aL}:∀(j:Nat) {n:Nat} {vs:List V} {ds:List D},ah T N k n vs ds->ah T N k n (vs.take j) (ds.take j)
 | 0,_,_,_,_=>by rw[List.take_zero,List.take_zero];exact .nil
 | j+1,_,_,_,.nil=>.nil
 | j+1,n,_,_,.cons h t=>.cons h (ah.JI j t)
noncomputable def sW{α:Type}(b:Bool)(k:Nat)(xs:List α):List α:=if b then xs.drop k else xs.take k
def QE(K:PySem.W.Frag)(b:Bool):V->Option Int->Option Int->Hp->VK->Prop:=λx lo hi H Q=>∃(a:Addr) (xs:List V) (k:Nat),x=.ref a/\cV K H a xs/\lo=(if b then some (k:Int)else none)/\hi=(if b then none else some (k:Int))/\k<=xs.length/\∀ p,H p=none->Q (.ref p) (upd H p (.lst (sW b k xs)))
theorem zV(b:Bool):Yr X (QE X.K b):=by
 intro pins s σ H x v vl vu lo hi sl Q I rx hs pl pu h;obtain⟨a,xs,k,rfl,hx,rfl,rfl,hk,q⟩:=h;cases rx;obtain⟨ao,r,JW,hz⟩:=I.list hx;have hl:=d_ JW;have hlen:ao.length=xs.length:=r.length.symm;refine⟨"list",_,slot_list_getitem.lookup,hl.typeIs,wpAny_getItem_list_slice hl hs pl pu .none (by simp) ?_ (by rw[List.size_toArray,hlen];exact hz)⟩;have e:slicePick ao.toArray (if b then some (k:Int)else none) (if b then none else some (k:Int)) none=(sW b k ao).toArray:=by
  cases b with
  | true=>exact slicePick_from ao.toArray k (by simp;left)
  | false=>exact slicePick_upto ao.toArray k (by simp;left)
 have rc:Vals (sW b k xs) (sW b k ao):=by
  cases b with
  | true=>exact r.drop k
  | false=>exact r.take k
 have lc:(sW b k xs).length<=xs.length:=by
  cases b with
  | true=>show(xs.drop k).length<=_;rw[List.length_drop];left
  | false=>show(xs.take k).length<=_;rw[List.length_take];left
 rw[e];exact⟨.ref s.heap.objs.size,_,I.Mm (t':=s.toks) rc (aaI lc hz),rfl,q _ I.fresh⟩
def cutD(b:Bool)(xs:List D):O D:=match two xs with
 | some z=>match z.1 with
  | .lst _ ds=>match z.2 with
   | .int k=>if 0<=k/\k<=ds.length then ok (.lst .ow (ag aR (sW b k.toNat ds)))else none
   | _=>none
  | _=>none
 | none=>none
theorem Jj{b:Bool}{x y d:D}(h:cutD b [x,y]=ok d):∃(f:Fl) (ds:List D) (k:Nat),x=.lst f ds/\y=.int k/\k<=ds.length/\d=.lst .ow (ag aR (sW b k ds)):=by
 cases x<;>first | exact nk h | (cases h;done) | (cases y<;>first | exact nk h | (cases h;done) | skip)
 obtain⟨⟨h1,h2⟩,h3⟩:=wq h;rename_i f ds k;exact⟨f,ds,k.toNat,rfl,by rw[Int.toNat_of_nonneg h1],by left,h3.symm⟩
noncomputable def GX(b:Bool)(e:Expr):Option Expr:=match e with
 | .Slice lo hi st _=>match st with
  | none=>match b with
   | true=>match hi with
    | none=>lo
    | some _=>none
   | false=>match lo with
    | none=>hi
    | some _=>none
  | some _=>none
 | _=>none
theorem GW{b:Bool}{e k:Expr}(h:GX b e=some k):∃ p,e=.Slice (if b then some k else none) (if b then none else some k) none p:=by
 cases e<;>first | exact nk h | (cases h;done) | skip
 rename_i lo hi st p;cases st with
 | some _=>cases h
 | none=>cases b with
  | true=>cases hi with
   | some _=>cases h
   | none=>cases h;exact⟨p,rfl⟩
  | false=>cases lo with
   | some _=>cases h
   | none=>cases h;exact⟨p,rfl⟩
def vT(b:Bool)(_:Scope)(_:List Str)(e:Expr):Option (List Expr):=match ny e with
 | some z=>match GX b z.2 with
  | some k=>some [z.1,k]
  | none=>none
 | none=>none
theorem Cv{b:Bool}{sc:Scope}{bl:List Str}{e:Expr}(h:vT b sc bl e=some args):∃ a k p pos,e=.Subscript a (.Slice (if b then some k else none) (if b then none else some k) none p) pos/\args=[a,k]:=by
 unfold vT at h;cases hv:ny e with
 | none=>rw[hv]at h;exact nk h
 | some z =>
  obtain⟨a,s⟩:=z;rw[hv]at h;obtain⟨pos,rfl⟩:=me hv;have h:(match GX b s with | some k=>some [a,k] | none=>none)=some args:=h;cases hw:GX b s with
  | none=>rw[hw]at h;exact nk h
  | some k =>
   rw[hw]at h;cases h;obtain⟨p,rfl⟩:=GW hw;exact⟨a,k,p,pos,rfl,rfl⟩
theorem N_{b:Bool}{n:Nat}(hΦ:Φ n=cutD b){sc:Scope}{bl:List Str}{k:Nat}(L:PX X sc bl k){e:Expr}(he:vT b sc bl e=some args)(hs:sH X F Φ cs args):PE X e (tD X F Φ (.cw n cs))/\PT X e (iK X F Φ (.cw n cs)):=by
 obtain⟨a,ke,p,pos,rfl,rfl⟩:=Cv he;cases cs with
 | nil=>exact hs.elim
 | cons c cs=>cases cs with
  | nil=>exact hs.2.2.2.elim
  | cons c' cs=>cases cs with
   | cons _ _=>exact hs.2.2.2.2.2.2.elim
   | nil =>
    obtain⟨h1,_,_,h2,_,_,_⟩:=hs;have this:PE X (.Subscript a (.Slice (if b then some ke else none) (if b then none else some ke) none p) pos) (tD X F Φ (.cw n [c,c'])):=by
     have go:∀ {tl th:TO},PO X (if b then some ke else none) tl->PO X (if b then none else some ke) th->(∀(H1:Hp) (R:Addr->Prop) (τ:Addr->Option aL) (ρ:aD) (k:Nat) (σ:St) (Q:Option Int->Option Int->Hp->Prop),SI X F R τ ρ σ H1->aK Φ c' ρ=ok (.int k)->(∀ H2,ak H1 H2->Q (if b then some (k:Int)else none) (if b then none else some (k:Int)) H2)->tl σ H1 λl H2=>th σ H2 λu H3=>Q l u H3)->PE X (.Subscript a (.Slice (if b then some ke else none) (if b then none else some ke) none p) pos) (tD X F Φ (.cw n [c,c'])):=by
      intro tl th pl pu hh;refine PE.imp (D4 (zV b) h1 pl pu) λσ H Q hq=>?_;obtain⟨R,τ,ρ,d,Si,ev,hq⟩:=hq;obtain⟨xs,bV,ev⟩:=af ev;obtain⟨x,ex,bV⟩:=af bV;obtain⟨ys,rE,bV⟩:=af bV;cases bV;obtain⟨y,ey,rE⟩:=af rE;cases rE;rw[hΦ]at ev;obtain⟨f,ds,j,rfl,rfl,hj,rfl⟩:=Jj ev;refine tD.intro Si ex λv H1 e1 r1=>hh H1 R τ ρ j σ (λl u H3=>QE X.K b v l u H3 Q) (Si.go e1) ey λH2 e2=>?_;have r2:=(r1.go e2).mono (fv':=iB (.cw n [c,c'])) λi hi=>aaG _ hi;obtain⟨τt,fr,rp⟩:=r2;obtain⟨q,xs,rfl,hn,rs⟩:=rp.uG;have ee:=e1.trans e2;refine⟨q,xs,j,rfl,hn.sq,rfl,rfl,by rw[rs.length];exact hj,λl hl=>hq _ _ (ee.trans (ak.upd hl)) (bM.BQ (ee.free hl) (ee.trans (ak.upd hl)) aH ?_)⟩;have rc:∃ n',ah (aG X.K H2) (nd X.K R (lM (gP X F) τ (iB (.cw n [c,c']))) τt H2) [] n' (sW b j xs) (sW b j ds):=by
       cases b with
       | true=>exact⟨_,rs.Kj j⟩
       | false=>exact⟨_,rs.JI j⟩
      obtain⟨n',rc⟩:=rc;exact(rc.m8 Si fr).imp (λ_ _ h=>aG.same (ak.upd hl) h) λ_ _ _ _ h=>nd.same (ak.upd hl) h
     cases b with
     | true =>
      refine go (Ai h2) Aj λH1 R τ ρ k σ Q Si ek hk=>tD.intro Si ek λv H2 e2 r2=>?_;cases r2.isInt;exact⟨k,rfl,hk H2 e2⟩
     | false =>
      refine go Aj (Ai h2) λH1 R τ ρ k σ Q Si ek hk=>tD.intro Si ek λv H2 e2 r2=>?_;cases r2.isInt;exact⟨k,rfl,hk H2 e2⟩
    exact⟨this,cP this λ_=>by cases b<;>rfl⟩
section
open PySem.SeqAt
open PySem.AutoSeq1 (wpAny_loadPart')
open PySem.MeetsSeq PySem.MeetsSeq2 PySem.MeetsSeq3
theorem DQ(A:Around)(s:Shared)(a:Int)(t:Tok)(c:Int)(u:Tok)(prog:Program)(w:World)(E:Value->Shared->Prop)(Q:Value->Shared->Prop)(h:Q (.bool (decide (a ≥ c))) s):wpAny (model prog w) A (richCompare .GtE (.int a t) (.int c u)) Q E s :=
 (PyProof.Rows.ge_int h:wpAny (model prog w) A (compareOp .GtE (.int a t) (.int c u)) Q E s)
theorem Ie{vs ws:List Value}{ms:List Int}{m n:Nat}(h1:IntsAre vs ns)(h2:IntsAre ws ms)(hz:vs.zip ws=[])(hl:ns.length+n=ms.length+m):(!HT.lexLt ns ms)=decide (m ≥ n):=by
 cases h1 with
 | nil=>cases h2 with
  | nil=>simp only[List.length_nil]at hl;exact(aaT (by left)).symm
  | cons c u h=>simp only[List.length_nil,List.length_cons]at hl;exact(aaX (by left)).symm
 | cons a t h=>cases h2 with
  | nil=>simp only[List.length_nil,List.length_cons]at hl;exact(aaT (by left)).symm
  | cons c u h=>rw[List.zip_cons_cons]at hz;cases hz
theorem sM(l b:Addr)(items cT:Array Value)(n n2:Nat)(dd Co:Option Addr)(sl zW:Array (Option Value))(ns ms:List Int)(hi:IntsAre items.toList ns)(hj:IntsAre cT.toList ms):
  Meets (Builtin.«tuple.__ge__» ⟨[.ref l,.ref b],[]⟩) (λ_ R s=>s.heap.get? l=some { cls:=.type "tuple",dict:=dd,data:=.seq items n,slots:=sl }/\s.heap.get? b=some { cls:=.type "tuple",dict:=Co,data:=.seq cT n2,slots:=zW }/\R (.ok (.ret (.bool (!HT.lexLt ns ms)))) s) :=
 .of_wp λprog w A R s h=>by
  obtain⟨hp,g,d,tk,os⟩:=s;obtain⟨hl,hb,h⟩:=h;have f2:=AutoSeq1.sub_tuple_tuple;have z1:items.size=ns.length:=by rw[<- hi.length];simp
  have z2:cT.size=ms.length:=by rw[<- hj.length];simp
  wp_walk using wpAny_loadPart' hl,wpAny_loadPart' hb,wpAny_forIn_list _ (λrest b s'=>b.1=none/\s'=⟨hp,g,d,tk,os⟩/\∃(vs ws:List Value) (nq CL:List Int),rest=vs.zip ws/\IntsAre vs nq/\IntsAre ws CL/\nq.length+cT.size=CL.length+items.size/\R (.ok (.ret (.bool (!HT.lexLt nq CL)))) ⟨hp,g,d,tk,os⟩) _
  case turn =>
   rintro ⟨y,x⟩ rest b s' ⟨xG,rfl,vs,ws,nq,CL,hz,MI,J_,hlen,hR⟩;cases MI with
   | nil=>rw[List.zip_nil_left]at hz;cases hz
   | cons a t hvi'=>cases J_ with
    | nil=>rw[List.zip_nil_right]at hz;cases hz
    | cons c u hwi' =>
     rw[List.zip_cons_cons]at hz;injection hz with Wv EO
     injection Wv with hy hx
     subst hy hx;rw[HT.dq]at hR;simp only[List.length_cons]at hlen;obtain⟨e,he,EW⟩:=HT.xO A.in1 ⟨hp,g,d,tk,os⟩ a t c u;refine aah (he prog w _ _ ?_);cases e with
     | true =>
      rw[if_pos (EW.mp rfl)]at hR
      wp_walk
      exact⟨rfl,rfl,_,_,_,_,EO,hvi',hwi',by left,hR⟩
     | false =>
      have AI:¬ a=c:=λq=>absurd (EW.mpr q) aal;rw[if_neg AI,show(!decide (a<c))=decide (a ≥ c) by by_cases q:a<c<;>simp[q]<;>left]at hR;have WE:=DQ A.in1 ⟨hp,g,d,tk,os⟩ a t c u prog w
      wp_walk using WE
      exact⟨_,rfl,by simpa using hR⟩
  case fin =>
   rintro ⟨b1,b2⟩ s' ⟨xG,rfl,vs,ws,nq,CL,hz,MI,J_,hlen,hR⟩;simp only at xG;subst xG;rw[Ie MI J_ hz.symm hlen]at hR
   wp_walk
   exact⟨_,rfl,by simpa [Builtin.Tuple.tupleCompareSizes]using hR⟩
  case h=>exact⟨rfl,rfl,items.toList,cT.toList,ns,ms,rfl,hi,hj,by left,h⟩
end
def QD(K:PySem.W.Frag):R2:=λx y H Q=>∃ a b ns ms,x=.ref a/\y=.ref b/\aG K H a (ns.map V.int)/\aG K H b (ms.map V.int)/\Q (.bl (!HT.lexLt ns ms)) H
theorem Ed(hu:X.A.units<cLine):lh X (compareOp .GtE) (QD X.K):=by
 intro pins s σ H x y v u Q I rx ry h;obtain⟨a,b,ns,ms,rfl,rfl,ha,hb,q⟩:=h;cases rx;cases ry;obtain⟨ao,r1,⟨⟨cls,dd,data,sl⟩,ho,hc,n,hd⟩,_⟩:=I.tuple ha;obtain⟨EE,r2,⟨⟨Oc,Co,data2,zW⟩,yk,hc2,n2,hd2⟩,_⟩:=I.tuple hb;simp only at hc hd hc2 hd2;subst hc hd hc2 hd2;exact richCompare_meets_room (op:=.GtE) ⟨_,ho,rfl⟩ ⟨_,yk,rfl⟩ PySem.F.slot_tuple_ge PySem.F.entry_tuple_ge (PySem.F.args_tuple_ge_2 _ _) (sM a b ao.toArray EE.toArray n n2 dd Co sl zW ns ms (intsAre_of r1) (intsAre_of r2))
  ⟨ho,yk,show Value.bool (!HT.lexLt ns ms)≠Value.notImplemented/\EP X pins σ Q (.bool (!HT.lexLt ns ms)) s from⟨(λx=>nomatch x),⟨.bl _,H,I,rfl,q⟩⟩⟩ hu
def Nh(xs:List D):O D:=match two xs with
 | some z=>match z.1 with
  | .tup a=>match z.2 with
   | .tup b=>match intsOf a with
    | some ns=>match intsOf b with
     | some ms=>ok (.bl (!HT.lexLt ns ms))
     | none=>none
    | none=>none
   | _=>none
  | _=>none
 | none=>none
theorem Ng{x y d:D}(h:Nh [x,y]=ok d):∃ ns ms:List Int,x=.tup (ns.map D.int)/\y=.tup (ms.map D.int)/\d=.bl (!HT.lexLt ns ms):=by
 cases x<;>first | exact nk h | (cases h;done) | (cases y<;>first | exact nk h | (cases h;done) | skip)
 rename_i a b;have h:(match intsOf a with | some ns=>(match intsOf b with | some ms=>ok (D.bl (!HT.lexLt ns ms)) | none=>none) | none=>none)=ok d:=h;cases h1:intsOf a with
 | none=>rw[h1]at h;exact nk h
 | some ns=>cases h2:intsOf b with
  | none=>rw[h1,h2]at h;cases h
  | some ms =>
   rw[h1,h2]at h;cases h;exact⟨ns,ms,by rw[dR h1],by rw[dR h2],rfl⟩
def A9(_:Scope)(_:List Str)(e:Expr):Option (List Expr):=match wz e with
 | some z=>match one z.2.2 with
  | some r=>if z.2.1=[.GtE]then some [z.1,r]else none
  | none=>none
 | none=>none
theorem F7{sc:Scope}{bl:List Str}{e:Expr}(h:A9 sc bl e=some args):∃ l r p,e=.Compare l [.GtE] [r] p/\args=[l,r]:=by
 unfold A9 at h;cases hv:wz e with
 | none=>rw[hv]at h;exact nk h
 | some z =>
  obtain⟨l,os,rs⟩:=z;rw[hv]at h;obtain⟨p,rfl⟩:=pI hv;replace h:(match one rs with | some r=>if os=[.GtE]then some [l,r]else none | none=>none)=some args:=h;cases hw:one rs with
  | none=>rw[hw]at h;exact nk h
  | some r =>
   rw[hw]at h;replace h:(if os=[.GtE]then some [l,r]else none)=some args:=h;obtain rfl:=b8 hw;by_cases hc:os=[.GtE]
   ·rw[if_pos hc]at h;cases h;subst hc;exact⟨l,r,p,rfl,rfl⟩
   ·rw[if_neg hc]at h;cases h
theorem SK{n:Nat}(hΦ:Φ n=Nh){sc:Scope}{bl:List Str}{k:Nat}(L:PX X sc bl k){e:Expr}(he:A9 sc bl e=some args)(hs:sH X F Φ cs args):PE X e (tD X F Φ (.cw n cs))/\PT X e (iK X F Φ (.cw n cs)):=by
 obtain⟨l,r,p,rfl,rfl⟩:=F7 he;have hu:X.A.units<cLine:=by have:=L.room.units;left
 cases cs with
 | nil=>exact hs.elim
 | cons c cs=>cases cs with
  | nil=>exact hs.2.2.2.elim
  | cons c' cs=>cases cs with
   | cons _ _=>exact hs.2.2.2.2.2.2.elim
   | nil =>
    obtain⟨h1,_,_,h2,_,_,_⟩:=hs;have key:∀ {σ:St} {H:Hp} {R:Addr->Prop} {τ:Addr->Option aL} {ρ:aD} {d:D} {Q:VK},SI X F R τ ρ σ H->aK Φ (.cw n [c,c']) ρ=ok d->(∀ b H2,d=.bl b->ak H H2->Q (.bl b) H2)->Gp (QD X.K) (tD X F Φ c) (tD X F Φ c') σ H Q:=by
     intro σ H R τ ρ d Q Si ev hq;obtain⟨xs,bV,ev⟩:=af ev;obtain⟨x,ex,bV⟩:=af bV;obtain⟨ys,rE,bV⟩:=af bV;cases bV;obtain⟨y,ey,rE⟩:=af rE;cases rE;rw[hΦ]at ev;obtain⟨ns,ms,rfl,rfl,rfl⟩:=Ng ev;refine tD.intro Si ex λv H1 e1 r1=>tD.intro (Si.go e1) ey λu H2 e2 r2=>?_;obtain⟨_,_,p1⟩:=r1.go e2;obtain⟨_,_,p2⟩:=r2;cases p1 with
     | tup t1 s1=>cases p2 with
      | tup t2 s2 =>
       cases s1.ofInts;cases s2.ofInts;exact⟨_,_,ns,ms,rfl,rfl,t1,t2,hq _ H2 rfl (e1.trans e2)⟩
    refine⟨PE.imp (pU (Ed hu) h1 h2 (Ei _)) λσ H Q hq=>?_,PT.imp (pS (Ed hu) h1 h2 (Ei _)) λσ H Q hq=>?_⟩
    ·obtain⟨R,τ,ρ,d,Si,ev,hq⟩:=hq;exact key Si ev λb H2 e es=>hq _ H2 es (by subst e;exact .bl)
    ·obtain⟨R,τ,ρ,b,Si,ev,hq⟩:=hq;obtain⟨d,ed,et⟩:=af ev;refine key Si ed λb' H2 e es=>?_;subst e;cases et;exact⟨_,rfl,hq H2 es⟩
noncomputable def lC:D->Bool
 | .bh=>true
 | _=>false
noncomputable def lA:D->Bool
 | .bh=>true
 | .tup _=>true
 | _=>false
def yN:List D->O D
 | [.bh,.lst _ ds]=>if ds.all lA then ok (.bl (ds.any lC))else none
 | _=>none
theorem HW{x y d:D}(h:yN [x,y]=ok d):∃ f ds,x=.bh/\y=.lst f ds/\ds.all lA=true/\d=.bl (ds.any lC):=by
 cases x with
 | bh=>cases y with
  | lst f ds =>
   replace h:(if ds.all lA then ok (D.bl (ds.any lC))else none)=ok d:=h;by_cases e:ds.all lA=true
   ·rw[if_pos e]at h;cases h;exact⟨f,ds,rfl,rfl,e,rfl⟩
   ·rw[if_neg e]at h;cases h
  | _=>cases h
 | _=>cases h
noncomputable def yZ:V->Bool
 | .bh=>true
 | _=>false
noncomputable def UK:Value->Bool
 | .none=>true
 | _=>false
def QC(K:PySem.W.Frag):R2:=λx y H Q=>∃ p xs,x=.bh/\y=.ref p/\cV K H p xs/\(∀ v∈xs,v=.bh\/∃ a ys,v=.ref a/\aG K H a ys)/\Q (.bl (xs.any yZ)) H
theorem zL:∀ {xs:List V} {us:List Value},Vals xs us->∀ u∈us,∃ x∈xs,RelV x u
 | _,_,.nil=>λu hu=>by cases hu
 | x::xs,u::us,.cons r t=>λv hv=>by
  rcases List.mem_cons.mp hv with rfl | hv
  ·exact⟨x,aao,r⟩
  ·obtain⟨y,hy,ry⟩:=zL t v hv;exact⟨y,aam _ hy,ry⟩
theorem Bi:∀ {xs:List V} {us:List Value},Vals xs us->(∀ v∈xs,v=.bh\/∃ a,v=.ref a)->us.any UK=xs.any yZ
 | _,_,.nil,_=>rfl
 | x::xs,u::us,.cons r t,h=>by
  rw[List.any_cons,List.any_cons,Bi t λv hv=>h v (List.mem_cons_of_mem _ hv)];rcases h x aao with rfl | ⟨a,rfl⟩
  ·cases r;rfl
  ·cases r;rfl
section
variable {X:Cx}
theorem Ec(hu:X.A.units+1<cLine):lh X (compareOp .In) (QC X.K):=by
 intro pins s σ H x y v u Q I rx ry h;obtain⟨p,xs,rfl,rfl,hq,hv,q⟩:=h;cases rx;cases ry;obtain⟨ao,r,pl,hz⟩:=I.list hq;refine SeqAt.in_listAt UK pl.isList (λw hw=>?_) ⟨.bl _,H,I,rfl,?_⟩
 ·obtain⟨x,hx,rx⟩:=zL r w (by simpa using hw);rcases hv x hx with rfl | ⟨a,ys,rfl,ht⟩
  ·cases rx;exact abf _
  ·cases rx;obtain⟨_,_,tl,_⟩:=I.tuple ht;exact SeqAt.EqAt.tuple_none tl hu
 ·rw[show ao.toArray.any UK=ao.any UK by simp,Bi r λv h=>by
   rcases hv v h with h | ⟨a,_,h,_⟩
   ·exact .inl h
   ·exact .inr ⟨a,h⟩]
  exact q
end
theorem w6{T:pH}{N:ir}{k:aL}:∀ {n:Nat} {xs:List V} {ds:List D},ah T N k n xs ds->ds.all lA=true->(∀ v∈xs,v=.bh\/∃ a ys,v=.ref a/\T a ys)/\xs.any yZ=ds.any lC
 | _,[],[],_,_=>⟨(λv h=>nomatch h),rfl⟩
 | n,x::xs,d::ds,.cons h t,ha=>by
  rw[List.all_cons,Bool.and_eq_true]at ha;obtain⟨i1,i2⟩:=w6 t ha.2;cases d with
  | bh =>
   cases h;exact⟨λv hv=>by
    rcases List.mem_cons.mp hv with rfl | hv
    ·exact .inl rfl
    ·exact i1 v hv,by rw[List.any_cons,List.any_cons,i2];rfl⟩
  | tup ys =>
   obtain⟨_,_,rfl,ht,_⟩:=h.C2;exact⟨λv hv=>by
    rcases List.mem_cons.mp hv with rfl | hv
    ·exact .inr ⟨_,_,rfl,ht⟩
    ·exact i1 v hv,by rw[List.any_cons,List.any_cons,i2];rfl⟩
  | _=>cases ha.1
def vR(_:Scope)(_:List Str)(e:Expr):Option (List Expr):=match wz e with
 | some z=>match one z.2.2 with
  | some r=>if z.2.1=[.In]/\ff r=true then some [z.1,r]else none
  | none=>none
 | none=>none
theorem Cu{sc:Scope}{bl:List Str}{e:Expr}(h:vR sc bl e=some args):∃ l r p,e=.Compare l [.In] [r] p/\args=[l,r]/\ff r=true:=by
 unfold vR at h;cases hv:wz e with
 | none=>rw[hv]at h;exact nk h
 | some z =>
  obtain⟨l,os,rs⟩:=z;rw[hv]at h;obtain⟨p,rfl⟩:=pI hv;replace h:(match one rs with | some r=>if os=[.In]/\ff r=true then some [l,r]else none | none=>none)=some args:=h;cases hw:one rs with
  | none=>rw[hw]at h;exact nk h
  | some r =>
   rw[hw]at h;replace h:(if os=[.In]/\ff r=true then some [l,r]else none)=some args:=h;obtain rfl:=b8 hw;by_cases hc:os=[.In]/\ff r=true
   ·rw[if_pos hc]at h;cases h;obtain⟨hc,hn⟩:=hc;subst hc;exact⟨l,r,p,rfl,rfl,hn⟩
   ·rw[if_neg hc]at h;cases h
theorem Mb{n:Nat}(hΦ:Φ n=yN){sc:Scope}{bl:List Str}{k:Nat}(L:PX X sc bl k){e:Expr}(he:vR sc bl e=some args)(hs:sH X F Φ cs args):PE X e (tD X F Φ (.cw n cs))/\PT X e (iK X F Φ (.cw n cs)):=by
 obtain⟨l,r,p,rfl,rfl,hn⟩:=Cu he;have hu:X.A.units+1<cLine:=by have:=L.room.units;left
 cases cs with
 | nil=>exact hs.elim
 | cons c cs=>cases cs with
  | nil=>exact hs.2.2.2.elim
  | cons c' cs=>cases cs with
   | cons _ _=>exact hs.2.2.2.2.2.2.elim
   | nil =>
    obtain⟨h1,_,_,h2,_,_,_⟩:=hs;have key:∀ {σ:St} {H:Hp} {R:Addr->Prop} {τ:Addr->Option aL} {ρ:aD} {d:D} {Q:VK},SI X F R τ ρ σ H->aK Φ (.cw n [c,c']) ρ=ok d->(∀ b H2,d=.bl b->ak H H2->Q (.bl b) H2)->Gp (QC X.K) (tD X F Φ c) (tD X F Φ c') σ H Q:=by
     intro σ H R τ ρ d Q Si ev hq;obtain⟨xs,bV,ev⟩:=af ev;obtain⟨x,ex,bV⟩:=af bV;obtain⟨ys,rE,bV⟩:=af bV;cases bV;obtain⟨y,ey,rE⟩:=af rE;cases rE;rw[hΦ]at ev;obtain⟨f,ds,rfl,rfl,ha,rfl⟩:=HW ev;refine tD.intro Si ex λv H1 e1 r1=>tD.intro (Si.go e1) ey λu H2 e2 r2=>?_;obtain⟨_,_,p1⟩:=r1.go e2;obtain⟨_,_,p2⟩:=r2;cases p1;obtain⟨_,_,rfl,t2,s2⟩:=p2.uG;obtain⟨k1,k2⟩:=w6 s2 ha;exact⟨_,_,rfl,rfl,t2.sq,k1,by rw[k2];exact hq _ H2 rfl (e1.trans e2)⟩
    refine⟨PE.imp (pU (Ec hu) h1 h2 (nK hn)) λσ H Q hq=>?_,PT.imp (pS (Ec hu) h1 h2 (nK hn)) λσ H Q hq=>?_⟩
    ·obtain⟨R,τ,ρ,d,Si,ev,hq⟩:=hq;exact key Si ev λb H2 e es=>hq _ H2 es (by subst e;exact .bl)
    ·obtain⟨R,τ,ρ,b,Si,ev,hq⟩:=hq;obtain⟨d,ed,et⟩:=af ev;refine key Si ed λb' H2 e es=>?_;subst e;cases et;exact⟨_,rfl,hq H2 es⟩
end DI
end
section
namespace DI
open PySem PySem.Spec PyProof.Rows L2 PySem.W
noncomputable def cn{α:Type}(lt:Nat->Nat->Bool):KasT α->α
 | .ret a=>a
 | .ask i j k=>cn lt (k (lt i j))
theorem iD{α β:Type}(lt:Nat->Nat->Bool)(f:α->KasT β):∀ t:KasT α,cn lt (t.bind f)=cn lt (f (cn lt t))
 | .ret a=>rfl
 | .ask i j k=>iD lt f (k (lt i j))
section
noncomputable def kX{α:Type}(n:Nat)(lt:Nat->Nat->Bool):KasT α->Prop
 | .ret _=>True
 | .ask i j k=>i<n/\j<n/\kX n lt (k (lt i j))
end
theorem Be{α:Type}{cmp:Nat->Nat->(Bool->Shared->Prop)->Shared->Prop}{lt:Nat->Nat->Bool}{s:Shared}{n:Nat}(hc:∀ i j C,i<n->j<n->C (lt i j) s->cmp i j C s){Q:α->Shared->Prop}:
  ∀(t:KasT α),kX n lt t->Q (cn lt t) s->t.kasWp cmp Q s
 | .ret a,_,h=>h
 | .ask i j k,⟨h1,h2,h3⟩,h=>hc i j _ h1 h2 (Be hc (k (lt i j)) h3 h)
theorem fL{α β:Type}{lt:Nat->Nat->Bool}{n:Nat}{f:α->KasT β}:∀ {t:KasT α},kX n lt t->kX n lt (f (cn lt t))->kX n lt (t.bind f)
 | .ret _,_,h=>h
 | .ask i j k,⟨h1,h2,h3⟩,h=>⟨h1,h2,fL h3 h⟩
structure Ord(lt:Nat->Nat->Bool)(n:Nat):Prop where
 tr:∀ a b c,a<n->b<n->c<n->lt a b=true->lt b c=true->lt a c=true
 as:∀ a b,a<n->b<n->lt a b=true->lt b a=false
 TM:∀ a b,a<n->b<n->a≠b->lt a b=true\/lt b a=true
structure Arr(p:Array Nat)(n:Nat):Prop where
 sz:p.size=n
 pm:p.toList.Perm (List.range n)
section
variable {lt:Nat->Nat->Bool}{n:Nat}{p:Array Nat}
theorem Arr.bd(h:Arr p n){i:Nat}(hi:i<n):p.getD i 0<n:=by
 have mM:i<p.size:=by rw[h.sz];exact hi
 have:p.getD i 0=p[i]:=by simp[Array.getD,mM]
 rw[this];have hm:p[i]∈p.toList:=Array.getElem_mem_toList mM;exact List.mem_range.mp (h.pm.mem_iff.mp hm)
theorem Arr.inj(h:Arr p n){i j:Nat}(hi:i<n)(hj:j<n)(e:p.getD i 0=p.getD j 0):i=j:=by
 have mM:i<p.toList.length:=by rw[Array.length_toList,h.sz];exact hi
 have R8:j<p.toList.length:=by rw[Array.length_toList,h.sz];exact hj
 have nd:p.toList.Nodup:=h.pm.nodup_iff.mpr List.nodup_range;have e1:p.getD i 0=p.toList[i]:=by simp[Array.getD,show i<p.size by rw[h.sz];exact hi]
 have e2:p.getD j 0=p.toList[j]:=by simp[Array.getD,show j<p.size by rw[h.sz];exact hj]
 rw[e1,e2]at e;exact(acm nd).mp e
noncomputable def Up(lt:Nat->Nat->Bool)(p:Array Nat)(k:Nat):Prop:=∀ i j,i<j->j<k->lt (p.getD i 0) (p.getD j 0)=true
noncomputable def Dn(lt:Nat->Nat->Bool)(p:Array Nat)(k:Nat):Prop:=∀ i j,i<j->j<k->lt (p.getD j 0) (p.getD i 0)=true
theorem Up.snoc(O:Ord lt n)(h:Arr p n){k:Nat}(hk:k<n)(h1:1<=k)(u:Up lt p k)(hl:lt (p.getD (k - 1) 0) (p.getD k 0)=true):Up lt p (k+1):=λi j la hj=>by
 by_cases e:j=k
 ·subst e;by_cases e2:i=j - 1
  ·subst e2;exact hl
  ·exact O.tr _ _ _ (h.bd (by left)) (h.bd (by left)) (h.bd hk) (u i (j - 1) (by left) (by left)) hl
 ·exact u i j la (by left)
theorem Dn.snoc(O:Ord lt n)(h:Arr p n){k:Nat}(hk:k<n)(h1:1<=k)(u:Dn lt p k)(hl:lt (p.getD k 0) (p.getD (k - 1) 0)=true):Dn lt p (k+1):=λi j la hj=>by
 by_cases e:j=k
 ·subst e;by_cases e2:i=j - 1
  ·subst e2;exact hl
  ·exact O.tr _ _ _ (h.bd hk) (h.bd (by left)) (h.bd (by left)) hl (u i (j - 1) (by left) (by left))
 ·exact u i j la (by left)
theorem wa(O:Ord lt n)(h:Arr p n):∀(f k:Nat),1<=k->k+f<=n->Up lt p k->kX n lt (kas_asc p f k)/\k<=cn lt (kas_asc p f k)/\cn lt (kas_asc p f k)<=k+f/\Up lt p (cn lt (kas_asc p f k))
 | 0,k,_,_,u=>⟨trivial,aas _,aas _,u⟩
 | f+1,k,h1,hf,u=>by
  have a1:p.getD k 0<n:=h.bd (by left);have a2:p.getD (k - 1) 0<n:=h.bd (by left);cases c:lt (p.getD k 0) (p.getD (k - 1) 0)with
  | true =>
   have e:cn lt (kas_asc p (f+1) k)=k:=by
    show cn lt (if lt (p.getD k 0) (p.getD (k - 1) 0)=true then .ret k else kas_asc p f (k+1))=k;rw[c];rfl
   refine⟨⟨a1,a2,?_⟩,by rw[e];exact aas _,by rw[e];left,by rw[e];exact u⟩;show kX n lt (if lt (p.getD k 0) (p.getD (k - 1) 0)=true then .ret k else kas_asc p f (k+1));rw[c];trivial
  | false =>
   have e:cn lt (kas_asc p (f+1) k)=cn lt (kas_asc p f (k+1)):=by
    show cn lt (if lt (p.getD k 0) (p.getD (k - 1) 0)=true then .ret k else kas_asc p f (k+1))=_;rw[c];rfl
   have hl:lt (p.getD (k - 1) 0) (p.getD k 0)=true:=by
    rcases O.TM _ _ a2 a1 (λz=>absurd (h.inj (by left) (by left) z) (by left))with z | z
    ·exact z
    ·rw[c]at z;cases z
   obtain⟨b1,b2,b3,b4⟩:=wa O h f (k+1) (by left) (by left) (u.snoc O h (by left) h1 hl);refine⟨⟨a1,a2,?_⟩,by rw[e];left,by rw[e];left,by rw[e];exact b4⟩;show kX n lt (if lt (p.getD k 0) (p.getD (k - 1) 0)=true then .ret k else kas_asc p f (k+1));rw[c];exact b1
theorem A3(O:Ord lt n)(h:Arr p n):∀(f k:Nat),1<=k->k+f<=n->Dn lt p k->kX n lt (kas_desc f p k 0)/\∃ m,cn lt (kas_desc f p k 0)=(p,m,0)/\k<=m/\m<=k+f/\Dn lt p m
 | 0,k,_,_,u=>⟨trivial,k,rfl,aas _,aas _,u⟩
 | f+1,k,h1,hf,u=>by
  have a1:p.getD k 0<n:=h.bd (by left);have a2:p.getD (k - 1) 0<n:=h.bd (by left);cases c:lt (p.getD k 0) (p.getD (k - 1) 0)with
  | true =>
   obtain⟨b1,m,b2,b3,b4,b5⟩:=A3 O h f (k+1) (by left) (by left) (u.snoc O h (by left) h1 c);have e:kas_desc (f+1) p k 0=.ask (p.getD k 0) (p.getD (k - 1) 0) λc=>if c=true then(if (0:Nat)>0 then kas_desc f (kas_rev p (k - (0+1)) k) (k+1) 0 else kas_desc f p (k+1) 0)else .ask (p.getD (k - 1) 0) (p.getD k 0) λd=>if d=true then .ret (p,k,0)else kas_desc f p (k+1) (0+1):=rfl
   rw[e];refine⟨⟨a1,a2,?_⟩,m,?_,by left,by left,b5⟩
   ·rw[c];exact b1
   ·show cn lt (if lt (p.getD k 0) (p.getD (k - 1) 0)=true then _ else _)=_;rw[c];exact b2
  | false =>
   have hl:lt (p.getD (k - 1) 0) (p.getD k 0)=true:=by
    rcases O.TM _ _ a2 a1 (λz=>absurd (h.inj (by left) (by left) z) (by left))with z | z
    ·exact z
    ·rw[c]at z;cases z
   have e:kas_desc (f+1) p k 0=.ask (p.getD k 0) (p.getD (k - 1) 0) λc=>if c=true then(if (0:Nat)>0 then kas_desc f (kas_rev p (k - (0+1)) k) (k+1) 0 else kas_desc f p (k+1) 0)else .ask (p.getD (k - 1) 0) (p.getD k 0) λd=>if d=true then .ret (p,k,0)else kas_desc f p (k+1) (0+1):=rfl
   rw[e];refine⟨⟨a1,a2,?_⟩,k,?_,aas _,by left,u⟩
   ·rw[c];exact⟨a2,a1,by rw[hl];trivial⟩
   ·show cn lt (if lt (p.getD k 0) (p.getD (k - 1) 0)=true then _ else _)=_;rw[c];show cn lt (if lt (p.getD (k - 1) 0) (p.getD k 0)=true then _ else _)=_;rw[hl];rfl
theorem p4{p q:Array Nat}{i j:Nat}(h:p[i]?=q[j]?):p.getD i 0=q.getD j 0:=by
 rw[Array.getD_eq_getD_getElem?,Array.getD_eq_getD_getElem?,h]
theorem Lu(h:Arr p n){m:Nat}(hm:m<=n):Arr (kas_rev p 0 m) n/\(Dn lt p m->Up lt (kas_rev p 0 m) m):=by
 have hs:(kas_rev p 0 m).size=p.size:=mirror_size _ _ _ _;refine⟨⟨by rw[hs];exact h.sz,?_⟩,λu i j la hj=>?_⟩
 ·have:=(mirror_perm p 0 m ((m - 0) / 2)).toList;exact this.trans h.pm
 ·have g:∀ k,k<m->(kas_rev p 0 m).getD k 0=p.getD (m - 1 - k) 0:=λk hk=>by
   refine p4 ?_;rw[show kas_rev p 0 m=mirror p 0 m ((m - 0) / 2) from rfl,getElem?_mirror_all (by rw[h.sz];exact hm),if_pos ⟨Nat.zero_le _,hk⟩];congr 1;left
  rw[g i (by left),g j hj];exact u (m - 1 - j) (m - 1 - i) (by left) (by left)
theorem Dd(O:Ord lt n)(h:Arr p n){m:Nat}(h1:1<=m)(hm:m<=n)(u:Dn lt p m):kX n lt (kas_tail3 m n p)/\∃ r,cn lt (kas_tail3 m n p)=r/\Arr r.2 n/\1<=r.1/\r.1<=n/\Up lt r.2 r.1:=by
 obtain⟨a1,a2⟩:=Lu (lt:=lt) h hm;obtain⟨b1,b2,b3,b4⟩:=wa O a1 (n - m) m h1 (by left) (a2 u);unfold kas_tail3;refine⟨fL b1 trivial,_,rfl,?_⟩;rw[iD];exact⟨a1,aaI h1 b2,by show cn lt _<=n;left,b4⟩
theorem FZ(O:Ord lt n)(h:Arr p n)(hn:2<=n):kX n lt (kas_count n p)/\∃ r,cn lt (kas_count n p)=r/\Arr r.2 n/\1<=r.1/\r.1<=n/\Up lt r.2 r.1:=by
 obtain⟨b1,b2,b3,b4⟩:=wa O h (n - 1) 1 (aas _) (by left) (λi j _ _=>by left);generalize hk:cn lt (kas_asc p (n - 1) 1)=k at *;have key:∀ t:KasT (Nat×Array Nat),t=(if (k==n)=true then .ret (k,p)else if k>1 then .ask (p.getD 0 0) (p.getD (k - 1) 0) λc=>if c=true then .ret (k,p)else kas_descPart k n (kas_rev p 0 k)else kas_descPart k n p) ->
   kX n lt t/\∃ r,cn lt t=r/\Arr r.2 n/\1<=r.1/\r.1<=n/\Up lt r.2 r.1:=by
  intro t ht;by_cases e:k=n
  ·rw[if_pos (by simpa using e)]at ht;subst ht;exact⟨trivial,(k,p),rfl,h,b2,by show k<=n;left,b4⟩
  ·rw[if_neg (by simpa using e)]at ht;by_cases e1:k>1
   ·rw[if_pos e1]at ht;subst ht;have hl:lt (p.getD 0 0) (p.getD (k - 1) 0)=true:=b4 0 (k - 1) (by left) (by left);refine⟨⟨h.bd (by left),h.bd (by left),by rw[hl];trivial⟩,(k,p),?_,h,b2,by left,b4⟩;show cn lt (if lt (p.getD 0 0) (p.getD (k - 1) 0)=true then _ else _)=_;rw[hl];rfl
   ·rw[if_neg e1]at ht;have hk1:k=1:=by left
    subst hk1;subst ht;have hl:lt (p.getD 1 0) (p.getD 0 0)=true:=by
     have a1:p.getD 1 0<n:=h.bd (by left);have a0:p.getD 0 0<n:=h.bd (by left);cases c:lt (p.getD 1 0) (p.getD 0 0)with
     | true=>rfl
     | false =>
      exfalso;obtain⟨f,hf⟩:∃ f,n - 1=f+1:=⟨n - 2,by left⟩
      rw[hf]at hk;have e':cn lt (kas_asc p (f+1) 1)=cn lt (kas_asc p f 2):=by
       show cn lt (if lt (p.getD 1 0) (p.getD (1 - 1) 0)=true then .ret 1 else kas_asc p f 2)=_;rw[show(1 - 1:Nat)=0 from rfl,c];rfl
      rw[e']at hk;have u2:Up lt p 2:=λi j la hj=>by
       have:i=0/\j=1:=by left
       obtain⟨rfl,rfl⟩:=this;rcases O.TM _ _ a0 a1 (λz=>absurd (h.inj (by left) (by left) z) (by left))with z | z
       ·exact z
       ·rw[c]at z;cases z
      obtain⟨_,c2,_,_⟩:=wa O h f 2 (by left) (by left) u2;left
    have d2:Dn lt p 2:=λi j la hj=>by
     have:i=0/\j=1:=by left
     obtain⟨rfl,rfl⟩:=this;exact hl
    obtain⟨c1,m,c2,c3,c4,c5⟩:=A3 O h (n - 2) 2 (by left) (by left) d2;obtain⟨t1,r,t2,t3⟩:=Dd O h (m:=m) (by left) (by left) c5;unfold kas_descPart;refine⟨fL c1 ?_,r,?_,t3⟩
    ·rw[show(1+1:Nat)=2 from rfl,show n - 2=n - 2 from rfl,c2];exact t1
    ·rw[iD,show(1+1:Nat)=2 from rfl,c2];exact t2
 have e:=key _ rfl;refine⟨?_,?_⟩
 ·unfold kas_count;exact fL b1 (by rw[hk];exact e.1)
 ·unfold kas_count;rw[iD,hk];exact e.2
theorem Arr.or(O:Ord lt n)(h:Arr p n){i j:Nat}(hi:i<n)(hj:j<n)(e:i≠j)(c:lt (p.getD i 0) (p.getD j 0)=false):lt (p.getD j 0) (p.getD i 0)=true:=by
 rcases O.TM _ _ (h.bd hi) (h.bd hj) (λz=>e (h.inj hi hj z))with z | z
 ·rw[c]at z;cases z
 ·exact z
theorem qF(O:Ord lt n)(h:Arr p n){k:Nat}(hk:k<n)(u:Up lt p k):∀(f l r:Nat),l<=r->r<=k->r - l<=f->(∀ i,i<l->lt (p.getD i 0) (p.getD k 0)=true)->(∀ i,r<=i->i<k->lt (p.getD k 0) (p.getD i 0)=true) ->
  kX n lt (kas_place p k f l r)/\∃ m,cn lt (kas_place p k f l r)=m/\m<=k/\(∀ i,i<m->lt (p.getD i 0) (p.getD k 0)=true)/\∀ i,m<=i->i<k->lt (p.getD k 0) (p.getD i 0)=true
 | 0,l,r,hl,hr,hf,a,b=>by
  have:l=r:=by left
  subst this;exact⟨trivial,l,rfl,hr,a,b⟩
 | f+1,l,r,hl,hr,hf,a,b=>by
  have e:kas_place p k (f+1) l r=if l ≥ r then .ret l else .ask (p.getD k 0) (p.getD ((l+r) / 2) 0) λc=>if c=true then kas_place p k f l ((l+r) / 2)else kas_place p k f ((l+r) / 2+1) r:=rfl
  rw[e];by_cases MS:l ≥ r
  ·rw[if_pos MS];have:l=r:=by left
   subst this;exact⟨trivial,l,rfl,hr,a,b⟩
  ·rw[if_neg MS];have hm:l<=(l+r) / 2/\(l+r) / 2<r:=by left
   generalize (l+r) / 2=m at *;have b1:p.getD k 0<n:=h.bd hk;have b2:p.getD m 0<n:=h.bd (by left);cases c:lt (p.getD k 0) (p.getD m 0)with
   | true =>
    obtain⟨c1,m',c2,c3⟩:=qF O h hk u f l m hm.1 (by left) (by left) a λi h1 h2=>by
     by_cases e:i=m
     ·subst e;exact c
     ·exact O.tr _ _ _ b1 b2 (h.bd (by left)) c (u m i (by left) h2)
    refine⟨⟨b1,b2,by rw[c];exact c1⟩,m',?_,c3⟩;show cn lt (if lt (p.getD k 0) (p.getD m 0)=true then _ else _)=_;rw[c];exact c2
   | false =>
    have vp:=h.or O hk (by left) (by left) c;obtain⟨c1,m',c2,c3⟩:=qF O h hk u f (m+1) r (by left) hr (by left) (λi hi=>by
     by_cases e:i=m
     ·subst e;exact vp
     ·exact O.tr _ _ _ (h.bd (by left)) b2 b1 (u i m (by left) (by left)) vp) b
    refine⟨⟨b1,b2,by rw[c];exact c1⟩,m',?_,c3⟩;show cn lt (if lt (p.getD k 0) (p.getD m 0)=true then _ else _)=_;rw[c];exact c2
theorem CC(h:Arr p n){k m:Nat}(hk:k<n)(hm:m<=k)(u:Up lt p k)(a:∀ i,i<m->lt (p.getD i 0) (p.getD k 0)=true)(b:∀ i,m<=i->i<k->lt (p.getD k 0) (p.getD i 0)=true):
  Arr (bubble p k (k - m)) n/\Up lt (bubble p k (k - m)) (k+1):=by
 have hs:(bubble p k (k - m)).size=p.size:=bubble_size _ _ _;refine⟨⟨by rw[hs];exact h.sz,(bubble_perm p k (k - m)).toList.trans h.pm⟩,λi j la hj=>?_⟩;have g:∀ t,(bubble p k (k - m)).getD t 0=if t=m then p.getD k 0 else if m<t/\t<=k then p.getD (t - 1) 0 else p.getD t 0:=λt=>by
  have e:=getElem?_bubble (xs:=p) (src:=k) (by rw[h.sz];exact hk) (k - m) (Nat.sub_le _ _) t;rw[show k - (k - m)=m by left]at e;by_cases h1:t=m
  ·rw[if_pos h1]at e ⊢;exact p4 e
  ·rw[if_neg h1]at e ⊢;by_cases h2:m<t/\t<=k
   ·rw[if_pos h2]at e ⊢;exact p4 e
   ·rw[if_neg h2]at e ⊢;exact p4 e
 rw[g i,g j];by_cases i1:i=m
 ·rw[if_pos i1,if_neg (by left),if_pos (by left)];exact b (j - 1) (by left) (by left)
 ·rw[if_neg i1];by_cases i2:m<i/\i<=k
  ·rw[if_pos i2,if_neg (by left),if_pos (by left)];exact u (i - 1) (j - 1) (by left) (by left)
  ·rw[if_neg i2];by_cases j1:j=m
   ·rw[if_pos j1];exact a i (by left)
   ·rw[if_neg j1];by_cases j2:m<j/\j<=k
    ·rw[if_pos j2];by_cases e:i=j - 1
     ·left
     ·exact u i (j - 1) (by left) (by left)
    ·rw[if_neg j2];exact u i j la (by left)
end
theorem Gb{lt:Nat->Nat->Bool}{n:Nat}(O:Ord lt n):∀(f:Nat) {p:Array Nat} {k:Nat},Arr p n->k+f=n->Up lt p k->kX n lt (kas_bin f p k)/\Arr (cn lt (kas_bin f p k)) n/\Up lt (cn lt (kas_bin f p k)) n
 | 0,p,k,h,hk,u=>⟨trivial,h,by rw[<- hk];exact u⟩
 | f+1,p,k,h,hk,u=>by
  obtain⟨a1,m,a2,a3,a4,a5⟩:=qF O h (k:=k) (by left) u k 0 k (aaP _) (aas _) (aas _) (λi hi=>by left) (λi h1 h2=>by left);obtain⟨b1,b2⟩:=CC h (by left) a3 u a4 a5;obtain⟨c1,c2,c3⟩:=Gb O f b1 (by left) b2;have e:kas_bin (f+1) p k=(kas_place p k k 0 k).bind λl=>kas_bin f (bubble p k (k - l)) (k+1):=rfl;rw[e];refine⟨fL a1 (by rw[a2];exact c1),?_⟩;rw[iD,a2];exact⟨c2,c3⟩
theorem Hl{lt:Nat->Nat->Bool}{n:Nat}(O:Ord lt n)(hn:2<=n):kX n lt (kas_sort n)/\Arr (cn lt (kas_sort n)) n/\Up lt (cn lt (kas_sort n)) n:=by
 have h0:Arr (List.toArray (List.range n)) n:=⟨by simp,by simp⟩
 obtain⟨a1,r,a2,a3,a4,a5,a6⟩:=FZ O h0 hn;unfold kas_sort;have key:∀ t,t=(if r.1<n then kas_bin (n - max r.1 1) r.2 (max r.1 1)else .ret r.2)->kX n lt t/\Arr (cn lt t) n/\Up lt (cn lt t) n:=by
  intro t ht;by_cases h:r.1<n
  ·rw[if_pos h]at ht;subst ht;rw[show max r.1 1=r.1 by left];exact Gb O _ a3 (by left) a6
  ·rw[if_neg h]at ht;subst ht;have:r.1=n:=by left
   exact⟨trivial,a3,by rw[this]at a6;exact a6⟩
 have e:=key _ rfl;refine⟨fL a1 (by rw[a2];exact e.1),?_⟩;rw[iD,a2];exact e.2
end DI
end
section
namespace DI
open PySem PySem.Spec PyProof.Rows L2
noncomputable def tG(h:Heap)(vs:List Value)(nss:List (List Int)):Prop:=vs.length=nss.length/\∀(i:Nat) (ns:List Int),nss[i]?=some ns->∃ t ao,vs[i]?=some (.ref t)/\IsTup h t ao.toArray/\IntsAre ao ns
variable {h':Heap}{nss:List (List Int)}{vs:List Value}
theorem tG.mono{h:Heap}(k:∀ b o,h.get? b=some o->h'.get? b=some o)(t:tG h vs nss):tG h' vs nss :=
 ⟨t.1,λi ns e=>let ⟨a,ao,e1,⟨o,ho,r⟩,e3⟩:=t.2 i ns e;⟨a,ao,e1,⟨o,k _ _ ho,r⟩,e3⟩⟩
theorem tG.mem{h:Heap}(t:tG h vs nss){v:Value}(hv:v∈vs):∃ a ao ns,v=.ref a/\IsTup h a ao.toArray/\IntsAre ao ns:=by
 obtain⟨i,hi⟩:=List.mem_iff_getElem?.mp hv;have hl:i<nss.length:=by rw[<- t.1];exact(List.getElem?_eq_some_iff.mp hi).1
 obtain⟨a,ao,e1,e2,e3⟩:=t.2 i _ (aay hl);rw[hi]at e1;cases e1;exact⟨a,ao,_,rfl,e2,e3⟩
section
variable {prog:Program}{w:World}{A:Around}{E:Value->Shared->Prop}{s:Shared}
theorem rC:∀ {vs:List Value} {nss:List (List Int)} {Q:List (Option Value)->Shared->Prop},tG s.heap vs nss->(∀ fs:List (Option Value),fs.length=vs.length->(∀ f∈fs,∀ v,f=some v->∃ n t,v=.int n t)->Q fs s)->wpAny (model prog w) A (vs.mapM firstOfTuple') Q E s
 | [],_,_,_,h=>by rw[List.mapM_nil];exact aaq (h [] rfl λ_ h=>nomatch h)
 | v::vs,[],_,t,_=>by have:=t.1;simp at this
 | v::vs,ns::nss,Q,t,h=>by
  obtain⟨a,ao,e,⟨o,ho,hc,n,hd⟩,hi⟩:=t.2 0 ns rfl;cases e;rw[List.mapM_cons];refine aah ?_;rw[PySem.W.kas_first_eq];refine aah (PySem.W.Looks.here (show PySem.W.Looks (model prog w) s.heap (typeOf (.ref a)) o.cls from(PySem.W.Looks.ld ho).andThen .now) ?_);rw[hc,if_neg (by first | decide | simp)];refine aah (listItems_at ho hd (aaq ?_));refine aah (rC (vs:=vs) (nss:=nss) ⟨by simpa using t.1,λi ms e=>t.2 (i+1) ms e⟩ λfs h1 h2=>aaq (h _ (by simp[h1]) λf hf v hv=>?_));rcases List.mem_cons.mp hf with rfl | hf
  ·cases hi with
   | nil=>simp at hv
   | cons a' tk hi=>simp at hv;exact⟨_,_,hv.symm⟩
  ·exact h2 f hf v hv
noncomputable def Ku(κ:SortKind):Prop:=κ=tuples' true\/κ=general'\/κ=oneType'
theorem kind_any{Q:SortKind->Shared->Prop}(t:tG s.heap vs nss)(AI:vs≠[])(h:∀ κ,Ku κ->Q κ s):wpAny (model prog w) A (keyKind' vs.toArray) Q E s:=by
 obtain⟨v0,vr,rfl⟩:∃ v0 vr,vs=v0::vr:=by
  cases vs with
  | nil=>exact absurd rfl AI
  | cons v0 vr=>exact⟨v0,vr,rfl⟩
 rw[kat_kind_eq,List.mapM_toArray,map_eq_pure_bind];refine aah (aah (rC t λfs hl hf=>aaq ?_));by_cases ha:(fs.toArray.all λx=>x.isSome)=true
 ·rw[if_pos ha];refine aah (wpAny_rule ?_);obtain⟨gs,hg,hgi⟩:∃ gs:List Value,fs=gs.map some/\∀ v∈gs,∃ n t,v=.int n t:=by
   clear h hl t;induction fs with
   | nil=>exact⟨[],rfl,λ_ h=>nomatch h⟩
   | cons f fs ih =>
    simp only[List.all_toArray,List.all_cons,Bool.and_eq_true]at ha;obtain⟨gs,e1,e2⟩:=ih (λf hf'=>hf f (aam _ hf')) (by simpa using ha.2);cases f with
    | none=>simp at ha
    | some v =>
     exact⟨v::gs,by rw[e1];rfl,λu hu=>by
      rcases List.mem_cons.mp hu with rfl | hu
      ·exact hf _ aao _ rfl
      ·exact e2 u hu⟩
  subst hg;obtain⟨g0,gr,rfl⟩:∃ g0 gr,gs=g0::gr:=by
   cases gs with
   | nil=>simp at hl
   | cons a b=>exact⟨a,b,rfl⟩
  have hfm:(((g0::gr).map some).toArray.filterMap id)=(g0::gr).toArray:=by simp
  rw[hfm,oneTypeOnly'_eq,List.mapM_toArray,map_eq_pure_bind];refine aah (aah (aah (PySem.W.kas_mapM (r:=Value.type "int") _ (λv hv Q' hq=>by
   obtain⟨n,t,rfl⟩:=hgi v hv;exact(PySem.W.Looks.of_pure (M:=model prog w) rfl).here hq) (aaq ?_))))
  have Fd:((List.map (λ_=>Value.type "int") (g0::gr)).toArray.all λx=>x==Value.type "int")=true:=by
   simp only[List.all_toArray,List.all_map,List.all_eq_true];intro _ _;show(Value.type "int" == Value.type "int")=true;decide
  have h0:(List.map (λ_=>Value.type "int") (g0::gr)).toArray[0]?=some (Value.type "int"):=by simp
  rw[h0];simp only[Fd,if_true];exact aaq (aaq (h _ (.inl rfl)))
 ·rw[if_neg ha];by_cases hb:((fs.toArray[0]?.bind id).isSome)=true
  ·rw[if_pos hb];exact aaq (h _ (.inr (.inl rfl)))
  ·rw[if_neg hb];rw[oneTypeOnly'_eq,List.mapM_toArray,map_eq_pure_bind];refine aah (aah (aah (PySem.W.kas_mapM (r:=Value.type "tuple") _ (λv hv Q' hq=>by
    obtain⟨a,ao,ns,rfl,⟨o,ho,hc,_⟩,_⟩:=t.mem hv;refine PySem.W.Looks.here (show PySem.W.Looks (model prog w) s.heap (typeOf (.ref a)) o.cls from(PySem.W.Looks.ld ho).andThen .now) ?_;rw[hc];exact hq) (aaq ?_))))
   have Fd:((List.map (λ_=>Value.type "tuple") (v0::vr)).toArray.all λx=>x==Value.type "tuple")=true:=by
    simp only[List.all_toArray,List.all_map,List.all_eq_true];intro _ _;show(Value.type "tuple" == Value.type "tuple")=true;decide
   have h0:(List.map (λ_=>Value.type "tuple") (v0::vr)).toArray[0]?=some (Value.type "tuple"):=by simp
   rw[h0];simp only[Fd,if_true];exact aaq (aaq (h _ (.inr (.inr rfl))))
theorem Mi{κ:SortKind}(hk:Ku κ)(hu:A.units<cLine){a b:Addr}{ao Ii:List Value}{ns ms:List Int}{Q:Bool->Shared->Prop}(ha:IsTup s.heap a ao.toArray)(hb:IsTup s.heap b Ii.toArray)(hi:IntsAre ao ns)(hj:IntsAre Ii ms)(h:Q (HT.lexLt ns ms) s):
  wpAny (model prog w) A (keyLt' κ (.ref a) (.ref b)) Q E s:=by
 rcases hk with rfl | rfl | rfl
 ·obtain⟨o,ho,_,n,hd⟩:=ha;obtain⟨o',gE,_,n',Gx⟩:=hb;exact PySem.W.kat_lt ho hd gE Gx (xn 0 hi hj (by simp) h)
 ·exact PySem.W.kat_one _ _ (HT.yT ha hb (by simpa using hi) (by simpa using hj) hu h)
 ·show wpAny (model prog w) A (oneLt' true (.ref a) (.ref b)) Q E s;rw[oneLt'_eq];simp only[if_true];refine aah (wpAny_cRoomFor hu ?_);obtain⟨⟨cls,dd,data,sl⟩,ho,hc,n,hd⟩:=id ha;obtain⟨⟨Oc,Co,data2,zW⟩,yk,hc2,n2,hd2⟩:=id hb;simp only at hc hd hc2 hd2;subst hc hd hc2 hd2;refine aah (wpAny_callSpecialIfBound?_slot (name:=Str.ofString "__lt__") ⟨_,ho,rfl⟩ abN (abw abN ⟨_,ho,rfl⟩ PySem.F.entry_tuple_lt (PySem.F.args_tuple_lt_2 _ _) (HT.kY a b _ _ n n2 dd Co sl zW ns ms (by simpa using hi) (by simpa using hj)) ⟨ho,yk,?_⟩));exact aaZ h
end
noncomputable def wm(h:Heap)(d:Addr)(es:Array DictEntry)(ep:Nat):Prop:=∃ o,h.get? d=some o/\o.ExactDict/\o.data=.dict es ep
variable {Q:Value->Shared->Prop}
section
variable {prog:Program}{w:World}{A:Around}{E:Value->Shared->Prop}{s:Shared}{d it:Addr}{es:Array DictEntry}{ep i:Nat}
theorem wm.typeIs(h:wm s.heap d es ep):s.TypeIs (.ref d) "dict":=let ⟨o,ho,hx,_⟩:=h;⟨o,ho,hx.1⟩
theorem A2(hd:(d==sysModules)=false)(hm:wm s.heap d es ep)
  (hQ:Q (.ref s.heap.objs.size) { s with heap:=s.heap.push { cls:=.type "dict_keyiterator",data:=.fields #[.ref d,.int 0 0,.int es.size 0,.int ep 0] } }):wpAny (model prog w) A (pyIter (.ref d)) Q E s:=by
 have hT:=hm.typeIs;obtain⟨o,ho,hx,Sk⟩:=hm;refine wpAny_pyIter_slot hT PySem.F.slot_dict_iter (aa5 PySem.F.slot_dict_iter hT PySem.F.entry_dict_iter ?_ (PySem.F.args_dict_iter_1 _));unfold Builtin.«dict.__iter__» Builtin.Dict.dictSlotNone;refine aah (aah (wpAny_notOrdered_dict hT (aaq ?_)));show wpAny _ _ (Builtin.Dict.showsAll d >>= _) _ _ s;unfold Builtin.Dict.showsAll;rw[if_neg (by rw[hd];exact Bool.false_ne_true)];refine aah (aaq (aah (ack ho Sk (aah (wpAny_dictEpoch ho Sk ?_)))));exact aah (abj (aaq ⟨_,rfl,"dict_keyiterator",_,⟨_,aaw _ rfl,rfl⟩,PySem.F.slot_dict_keyiterator_next.lookup,hQ⟩))
theorem A1{Q:Option Value->Shared->Prop}(hit:s.heap.IsKeyIter it d i es.size ep)(hm:wm s.heap d es ep)(jI:i<es.size)
  (hQ:∀ h',h'.IsKeyIter it d (i+1) es.size ep->Heap.SameBut it s.heap h'->Q (some es[i].key) { s with heap:=h' }):wpAny (model prog w) A (pyNext (.ref it)) Q E s:=by
 obtain⟨o,ho,hc,hd⟩:=id hit;obtain⟨od,RW,xA,Sg⟩:=hm;unfold pyNext;refine aah (acg (abe (name:=Str.ofString "__next__") hit.typeIs aaW (aa5 aaW hit.typeIs PySem.F.entry_dict_keyiterator_next ?_ (PySem.F.args_dict_keyiterator_next_1 _))));refine aah (aaq (aah (aah ?_)))
 first | refine aah (aa1 hit.typeIs (aaq ?_)) | refine aah (abc hit.typeIs (aaq ?_))
 refine aah (wpAny_fieldsOf ho hd ?_);simp only[show Builtin.Dict_items.ownsTuple "dict_keyiterator" = false by decide,Bool.false_eq_true,if_false];show wpAny _ _ (if (Value.ref d==Value.none)=true then _ else _) _ _ s;rw[if_neg (show ¬ ((Value.ref d==Value.none)=true) from Bool.false_ne_true)];refine aah (aaq (aah (ack RW Sg ?_)));rw[if_neg (by simp)];refine aah (aaq (aah (wpAny_dictEpoch RW Sg ?_)));rw[if_neg (by simp)];refine aaq ?_;simp only[show ¬ ((i:Int)<0) from by left,if_false,Int.toNat_natCast,Array.getElem?_eq_getElem jI];refine aah ?_
 first | refine aah (aa1 hit.typeIs (aaq ?_)) | refine aah (abc hit.typeIs (aaq ?_))
 refine aah (wpAny_isOneOf_keyiter hit.typeIs ?_);show wpAny _ _ (setField (.ref it) 1 (rawInt ((i:Int)+1)) >>= _) _ _ s;refine aah (wpAny_setField ho hd (by simp) ?_);have Iv:(s.heap.update it (Obj.mapFields (·.setIfInBounds 1 (rawInt ((i:Int)+1))))).IsKeyIter it d (i+1) es.size ep :=
  ⟨_,aa_ _ ho (Obj.isFreed_of_fields (Obj.data_mapFields hd _)),(Obj.cls_mapFields ..).trans hc,by rw[Obj.data_mapFields hd];simp[rawInt]⟩
 refine aah (aaO (aah (wpAny_isOneOf_keyiter (s:={ s with heap:=s.heap.update it (Obj.mapFields (·.setIfInBounds 1 (rawInt ((i:Int)+1)))) }) Iv.typeIs ?_)));show wpAny _ _ (pure es[i].key) _ _ _;exact aaq (aaq ⟨_,rfl,aaq (hQ _ Iv (Heap.SameBut.update ..))⟩)
theorem FU{Q:Option Value->Shared->Prop}(hh:A.handled=none)(hit:s.heap.IsKeyIter it d i es.size ep)(hm:wm s.heap d es ep)(hge:es.size<=i)
  (hQ:∀ h',Heap.ExtBut it s.heap h'->Q none { s with heap:=h' }):wpAny (model prog w) A (pyNext (.ref it)) Q E s:=by
 obtain⟨o,ho,hc,hd⟩:=id hit;obtain⟨od,RW,xA,Sg⟩:=hm;unfold pyNext;refine aah (acg (abe (name:=Str.ofString "__next__") hit.typeIs aaW (aa5 aaW hit.typeIs PySem.F.entry_dict_keyiterator_next ?_ (PySem.F.args_dict_keyiterator_next_1 _))));refine aah (aaq (aah (aah ?_)))
 first | refine aah (aa1 hit.typeIs (aaq ?_)) | refine aah (abc hit.typeIs (aaq ?_))
 refine aah (wpAny_fieldsOf ho hd ?_);simp only[show Builtin.Dict_items.ownsTuple "dict_keyiterator" = false by decide,Bool.false_eq_true,if_false];show wpAny _ _ (if (Value.ref d==Value.none)=true then _ else _) _ _ s;rw[if_neg (show ¬ ((Value.ref d==Value.none)=true) from Bool.false_ne_true)];refine aah (aaq (aah (ack RW Sg ?_)));rw[if_neg (by simp)];refine aah (aaq (aah (wpAny_dictEpoch RW Sg ?_)));rw[if_neg (by simp)];refine aaq ?_;simp only[show ¬ ((i:Int)<0) from by left,if_false,Int.toNat_natCast,Array.getElem?_eq_none hge];refine aah ?_
 first | refine aah (aa1 hit.typeIs (aaq ?_)) | refine aah (abc hit.typeIs (aaq ?_))
 show wpAny _ _ (setField (.ref it) 0 .none >>= _) _ _ s;refine aah (wpAny_setField ho hd (by simp) ?_);show wpAny _ _ (newExc (.type "StopIteration") [] >>= _) _ _ _;refine aah ?_;simp only[newExc,newTuple];refine aah (abj ?_ (by size_fits));refine aah (m:=firstArgMember _ _) (wpAny_of_eq (a:=Value.none) (by first | rfl | (simp only[firstArgMember];rfl)) ?_);refine abj ?_ (by size_fits);simp only[raiseNew];refine aah (wpAny_handled ?_);rw[show A.in1.handled=none from hh];refine aah (aaq (wpAny_throw ?_));refine aah (wpAny_isInstance (T:="StopIteration") (b:=true) ⟨_,aaw _ rfl,rfl⟩ isSubtype_stop ?_);exact aaq (hQ _ (((Heap.SameBut.update ..).extBut.push _).push _))
end
theorem yW:∀ a b c:List Int,HT.lexLt a b=true->HT.lexLt b c=true->HT.lexLt a c=true
 | [],[],_,h,_=>by rw[HT.k_]at h;cases h
 | [],_::_,[],_,h=>by rw[HT.cx]at h;cases h
 | [],_::_,_::_,_,_=>rfl
 | _::_,[],_,h,_=>by rw[HT.cx]at h;cases h
 | _::_,_::_,[],_,h=>by rw[HT.cx]at h;cases h
 | x::a,y::b,z::c,h1,h2=>by
  rw[HT.dq]at *;by_cases e1:x=y
  ·subst e1;rw[if_pos rfl]at h1;by_cases e2:x=z
   ·subst e2;rw[if_pos rfl]at h2 ⊢;exact yW a b c h1 h2
   ·rw[if_neg e2]at h2 ⊢;exact h2
  ·rw[if_neg e1]at h1;have l1:x<y:=aak h1;by_cases e2:y=z
   ·subst e2;rw[if_neg (by left)];exact aaT l1
   ·rw[if_neg e2]at h2;have l2:y<z:=aak h2;rw[if_neg (by left)];exact aaT (by left)
theorem vh:∀ a b:List Int,HT.lexLt a b=true->HT.lexLt b a=false
 | [],[],_=>rfl
 | [],_::_,_=>rfl
 | _::_,[],h=>by rw[HT.cx]at h;cases h
 | x::a,y::b,h=>by
  rw[HT.dq]at *;by_cases e:x=y
  ·subst e;rw[if_pos rfl]at h ⊢;exact vh a b h
  ·rw[if_neg e]at h;have l:x<y:=aak h;rw[if_neg (by left)];exact aaX (by left)
theorem pY:∀ a b:List Int,a≠b->HT.lexLt a b=true\/HT.lexLt b a=true
 | [],[],h=>absurd rfl h
 | [],_::_,_=>.inl rfl
 | _::_,[],_=>.inr rfl
 | x::a,y::b,h=>by
  rw[HT.dq,HT.dq];by_cases e:x=y
  ·subst e;rw[if_pos rfl,if_pos rfl];exact pY a b λz=>h (by rw[z])
  ·rw[if_neg e,if_neg (Ne.symm e)];rcases Int.lt_or_gt_of_ne e with l | l
   ·exact .inl (aaT l)
   ·exact .inr (aaT l)
def bj(nss:List (List Int)):List (List Int):=nss.mergeSort λa b=>!HT.lexLt b a
def zJ(nss:List (List Int)):Prop:=nss.Pairwise λa b=>HT.lexLt a b=true
theorem Ab:∀ {l m:List (List Int)},zJ l->zJ m->l.Perm m->l=m
 | [],m,_,_,p=>(List.perm_nil.mp p.symm).symm
 | a::l,[],_,_,p=>by have:=p.length_eq;simp at this
 | a::l,b::m,h1,h2,p=>by
  have e:a=b:=by
   have ha:a∈b::m:=p.mem_iff.mp aao;have hb:b∈a::l:=p.mem_iff.mpr aao;rcases List.mem_cons.mp ha with e | ha
   ·exact e
   ·rcases List.mem_cons.mp hb with e | hb
    ·exact e.symm
    ·have l1:=(List.pairwise_cons.mp h2).1 a ha;have l2:=(List.pairwise_cons.mp h1).1 b hb;rw[vh _ _ l1]at l2;cases l2
  subst e;rw[Ab (List.pairwise_cons.mp h1).2 (List.pairwise_cons.mp h2).2 (List.perm_cons a |>.mp p)]
theorem lp(h:nss.Nodup):zJ (bj nss):=by
 have p:(bj nss).Perm nss:=aa4 _ _;have nd:(bj nss).Nodup:=p.nodup_iff.mpr h;have sd:(bj nss).Pairwise λa b=>(!HT.lexLt b a)=true:=List.pairwise_mergeSort (λa b c h1 h2=>by
  cases e:HT.lexLt c a with
  | false=>rfl
  | true =>
   exfalso;by_cases xJ:b=c
   ·subst xJ;rw[e]at h1;cases h1
   ·rcases pY b c xJ with l | l
    ·rw[yW _ _ _ l e]at h1;cases h1
    ·rw[l]at h2;cases h2) (λa b=>by
  cases e:HT.lexLt b a with
  | false=>rfl
  | true=>rw[vh _ _ e];rfl) nss
 exact(sd.and nd).imp λ{a b} ⟨h1,h2⟩=>by
  rcases pY a b h2 with l | l
  ·exact l
  ·rw[l]at h1;cases h1
theorem Dt{l:List (List Int)}(h:nss.Nodup)(hr:zJ l)(p:l.Perm nss):l=bj nss:=Ab hr (lp h) (p.trans (aa4 _ _).symm)
def ltN(nss:List (List Int))(i j:Nat):Bool:=HT.lexLt (nss.getD i []) (nss.getD j [])
theorem LX(h:nss.Nodup):Ord (ltN nss) nss.length :=
 ⟨λa b c _ _ _ h1 h2=>yW _ _ _ h1 h2,λa b _ _ h=>vh _ _ h,λa b ha hb xJ=>pY _ _ λe=>xJ (by
  have e1:nss.getD a []=nss[a]:=by simp[ha]
  have e2:nss.getD b []=nss[b]:=by simp[hb]
  rw[e1,e2]at e;exact(acm h).mp e)⟩
theorem tQ(h:nss.Nodup){p:Array Nat}(ha:Arr p nss.length)(hu:Up (ltN nss) p nss.length):(p.toList.map λi=>nss.getD i [])=bj nss:=by
 refine Dt h ?_ ?_
 ·refine List.pairwise_iff_getElem.mpr λi j hi hj la=>?_;simp only[List.length_map,Array.length_toList]at hi hj;have:=hu i j la (by rw[<- ha.sz];exact hj);unfold ltN at this;have e:∀ k (hk:k<p.size),p.getD k 0=p[k]:=λk hk=>by simp[Array.getD,hk]
  rw[e i hi,e j hj]at this;simpa using this
 ·have e:nss=(List.range nss.length).map λi=>nss.getD i []:=by
   refine abM (by simp) λi h1 h2=>?_;simp[h1]
  refine(ha.pm.map λi=>nss.getD i []).trans ?_;rw[<- e]
variable {ep:Nat}
section
variable {prog:Program}{w:World}{A:Around}{E:Value->Shared->Prop}{s:Shared}
theorem Ds{a:Addr}{n:Nat}{P:PySem.Fin->Shared->Prop}(hu:A.units<cLine)(ho:s.heap.get? a=some (seqObj "list" vs.toArray n))(wt:vs.length<64)(Gu:nss.Nodup)
  (ht:tG (((s.heap.update a (Obj.mapSeq λ_=>#[])).push (seqObj "tuple" vs.toArray 0)).push (seqObj "list" #[] 0)) vs nss)
  (h:∀ p:Array Nat,Arr p vs.length->(p.toList.map λi=>nss.getD i [])=bj nss->P (.done (.ret .none)) { s with heap:=sortedHeap s.heap a vs (List.toArray (p.toList.map λi=>vs.getD i Value.none)) }) :
  wpAny (model prog w) A (Builtin.«list.sort» ⟨[.ref a],[]⟩) P E s:=by
 rw[list_sort_plain];have ha:a<s.heap.objs.size:=aap ho;have hsz:vs.toArray.size=vs.length:=by simp
 have hz:vs.length<=sizeLine:=by rw[sizeLine_eq];left
 have hl:=ht.1;refine aah (listItems_at ho rfl (aah (listUpdate_at ho rfl ?_ (by rw[hsz];exact hz) (aaP _))));obtain⟨e1,O0⟩:∃ e1,(s.heap.update a (Obj.mapSeq λ_=>#[])).get? a=some (seqObj "list" #[] e1):=⟨_,get?_update_seq ho (λ_=>#[])⟩
 refine aah (seqEpoch_at O0 rfl (aah (wpAny_newTuple (aah (acf (aaO ?_) (aaP _))) (by simpa using hz))));have ZA:(((s.heap.update a (Obj.mapSeq λ_=>#[])).push (seqObj "tuple" vs.toArray 0)).push (seqObj "list" #[] 0)).get? a=some (seqObj "list" #[] e1):=aar _ (aar _ O0);show wpAny (model prog w) A _ P E ({ s with heap:=((s.heap.update a (Obj.mapSeq λ_=>#[])).push (seqObj "tuple" vs.toArray 0)).push (seqObj "list" #[] 0) }:Shared);dsimp only;have fin:∀(o8:SortSt) (p:Array Nat),Arr p vs.length->(p.toList.map λi=>nss.getD i [])=bj nss->(arrOf o8).map (·.2)=List.toArray (p.toList.map λi=>vs.getD i Value.none)->failedOf o8=none->wpAny (model prog w) A (do
   let touched:=(<- seqEpoch a) != e1
   Builtin.List.listUpdate (.ref a) λ_=>(arrOf o8).map (·.2)
   if let some e:=failedOf o8 then rule "list.sort.comparison-raised";throw e
   if touched then rule "list.sort.modified";raiseError "ValueError" "list modified during sort"
   ret .none) P E ({ s with heap:=((s.heap.update a (Obj.mapSeq λ_=>#[])).push (seqObj "tuple" vs.toArray 0)).push (seqObj "list" #[] 0) }:Shared):=by
  intro o8 p hp hs hA hF;refine aah (seqEpoch_at ZA rfl ?_);rw[hA];refine aah (listUpdate_at ZA rfl ?_ (aaP _) (by rw[List.size_toArray,List.length_map,Array.length_toList,hp.sz];exact aci hz));rw[hF];simp only[bne_self_eq_false,Bool.false_eq_true,if_false];exact aaq (h p hp hs)
 by_cases h2:vs.toArray.size<2
 ·rw[if_pos h2,if_pos h2];refine aah (aaq ?_);rw[StateT.run_pure];refine aah (aaq ?_);rw[hsz]at h2;have W8:Arr (List.toArray (List.range vs.length)) vs.length:=⟨by simp,by simp⟩
  refine fin (SortSt.mk' general' (vs.toArray.zip vs.toArray) #[] 7 none) (List.toArray (List.range vs.length)) W8 ?_ ?_ rfl
  ·rw[hl]at W8 ⊢;exact tQ Gu W8 λi j la hj=>by left
  ·apply Array.toList_inj.mp;show(Array.map (·.2) (vs.toArray.zip vs.toArray)).toList=_;rw[Array.toList_map,show(vs.toArray.zip vs.toArray)=pairsOf vs from rfl,pairsOf_toList,List.map_snd_zip (Nat.le_refl _)];refine abM (by simp) λi h1 h2=>?_;simp[h1]
 ·rw[if_neg h2,if_neg h2];rw[hsz]at h2;refine aah (kind_any ht (λz=>by rw[z]at h2;simp at h2) λκ hk=>?_);have ok:=Hl (LX Gu) (by rw[<- hl];left);refine aah (aaC (PySem.W.kat_run (ks:=vs) (vs:=vs) (κ:=κ) (Q:=λo8 s'=>s'=({ s with heap:=((s.heap.update a (Obj.mapSeq λ_=>#[])).push (seqObj "tuple" vs.toArray 0)).push (seqObj "list" #[] 0) }:Shared)/\∃ p,Arr p vs.length/\(p.toList.map λi=>nss.getD i [])=bj nss/\(arrOf o8).map (·.2)=List.toArray (p.toList.map λi=>vs.getD i Value.none)/\failedOf o8=none)
   (G:=λp s'=>s'=({ s with heap:=((s.heap.update a (Obj.mapSeq λ_=>#[])).push (seqObj "tuple" vs.toArray 0)).push (seqObj "list" #[] 0) }:Shared)/\Arr p vs.length/\(p.toList.map λi=>nss.getD i [])=bj nss) rfl (by left) wt (λp o8 s' hps har hf hG=>⟨hG.1,p,hG.2.1,hG.2.2,PySem.W.kat_snds rfl har,hf⟩) ?_) (λr s' ⟨e,p,hp,hs,hA,hF⟩=>?_) λ_ _ e=>e)
  rotate_left
  ·subst e;exact fin r.2 p hp hs hA hF
  ·rw[hl];refine Be (lt:=ltN nss) (n:=nss.length) (λi j C hi hj hC=>?_) _ ok.1 ⟨rfl,ok.2.1,tQ Gu ok.2.1 ok.2.2⟩;obtain⟨x,ao,e1,i1,i2⟩:=ht.2 i _ (aay hi);obtain⟨y,Ii,e2,j1,j2⟩:=ht.2 j _ (aay hj);unfold PySem.W.kas_ask;rw[show vs.getD i Value.none=.ref x by simp[e1],show vs.getD j Value.none=.ref y by simp[e2]];refine Mi hk hu i1 j1 i2 j2 ?_;have e3:nss.getD i []=nss[i]:=by simp[hi]
   have e4:nss.getD j []=nss[j]:=by simp[hj]
   have ZU:C (HT.lexLt (nss.getD i []) (nss.getD j [])) _:=hC;rw[e3,e4]at ZU;exact ZU
theorem FT{es:Array DictEntry}(hh:A.handled=none)(I d:Addr)(AI:d≠I):Walks prog w A I [I,d] [I] es.size (λi v=>∃ e,es[i]?=some e/\v=e.key) (λi h=>h.IsKeyIter I d i es.size ep/\wm h d es ep) where
 sub:=λb hb=>by simp at hb;simp[hb]
 frame:=λ_ _ _ st hk=>⟨st.1.at λo e=>hk I (by simp) o e,let ⟨o,ho,r⟩:=st.2;⟨o,hk d (by simp) o ho,r⟩⟩
 item:=λi s Q E hi st hQ=>A1 st.1 st.2 hi λh' Iv Uu=>hQ _ h' s.toks ⟨es[i],aba hi,rfl⟩ ⟨Iv,let ⟨o,ho,r⟩:=st.2;⟨o,Uu.extBut d o AI ho,r⟩⟩ λb o hb e=>Uu.extBut b o (λh=>hb (by simp[h])) e
 done:=λs Q E st hQ=>FU hh st.1 st.2 (aas _) λh' he'=>hQ h' s.toks λb o hb e=>he' b o (λh=>hb (by simp[h])) e
 self:=λ_ _ _ _ st hQ=>wpAny_pyIter_keyiter st.1 hQ
theorem N6{d:Addr}{es:Array DictEntry}(lo:(d==sysModules)=false):PySem.W.KdlSrc prog w "dict" d d es.size (λi v=>∃ e,es[i]?=some e/\v=e.key) (λh=>wm h d es ep) where
 type:=λ_ hm=>hm.typeIs
 there:=λ_ hm=>let ⟨_,ho,_⟩:=hm;⟨aap ho,aap ho⟩
 keep:=λ_ _ hm hk=>let ⟨o,ho,r⟩:=hm;⟨o,hk d (.inl rfl) o ho,r⟩
 notList:=by decide
 notTuple:=by decide
 hint:=λ_ _ _ _ hm hq=>PySem.W.kdl_hint_dict hm.typeIs hq
 iter:=λ_ _ hh hm=>⟨_,_,(λ_ _ hq=>A2 lo hm hq),FT hh _ d (let ⟨_,ho,_⟩:=hm;aat (aap ho)),⟨⟨_,aaw _ rfl,rfl,rfl⟩,let ⟨o,ho,r⟩:=hm;⟨o,aar _ ho,r⟩⟩⟩
theorem wO{d:Addr}{es:Array DictEntry}(hh:A.handled=none)(hu:A.units+2<cLine)(lo:(d==sysModules)=false)(hm:wm s.heap d es ep)(wt:es.size<64)(Gu:nss.Nodup)(ht:tG s.heap (es.toList.map (·.key)) nss)
  (h:∀(S:Addr) (h':Heap) (tk e:Nat) (p:Array Nat),s.heap.get? S=none->(∀ b o,s.heap.get? b=some o->h'.get? b=some o)->Arr p es.size->(p.toList.map λi=>nss.getD i [])=bj nss ->
   h'.get? S=some (seqObj "list" (List.toArray (p.toList.map λi=>(es.toList.map (·.key)).getD i Value.none)) e)->Q (.ref S) { s with heap:=h',toks:=tk }) :
  wpAny (model prog w) A (call (.builtin "sorted") [.ref d]) Q E s:=by
 refine Calls.call_function_entry kind_sorted plain_sorted entry_sorted (args_sorted1 _) ?_;unfold Builtin.«sorted»;have hz:es.size<=sizeLine:=by rw[sizeLine_eq];left
 refine aah (m:=checkCount "sorted" 1 1 _) (aaq (aah (PySem.W.kdu_collect (A:=A.in1) (N6 lo) hh hm hz λh1 tk acc hk gU=>?_)));have Sy:acc.toList=es.toList.map (·.key):=by
  refine acj λi=>?_;rw[List.getElem?_map,Array.getElem?_toList,Array.getElem?_toList];by_cases hi:i<es.size
  ·have ZE:i<acc.size:=by rw[gU.1];exact hi
   obtain⟨e,he,hv⟩:=gU.2 i acc[i] (aba ZE);rw[Array.getElem?_eq_getElem ZE,he,hv];rfl
  ·rw[Array.getElem?_eq_none (by rw[gU.1];left),Array.getElem?_eq_none (by left)];rfl
 rw[Sy];generalize Wy:es.toList.map (·.key)=vs at *;have Ir:vs.length=es.size:=by rw[<- Wy];simp
 refine aah (acf ?_ (by rw[Ir];exact hz));show wpAny _ _ _ _ _ ({ s with heap:=h1.push (seqObj "list" vs.toArray 0),toks:=tk }:Shared);have RX:(h1.push (seqObj "list" vs.toArray 0)).get? h1.objs.size=some (seqObj "list" vs.toArray 0):=aaw _ rfl;have k6:∀ b o,s.heap.get? b=some o->((((h1.push (seqObj "list" vs.toArray 0)).update h1.objs.size (Obj.mapSeq λ_=>#[])).push (seqObj "tuple" vs.toArray 0)).push (seqObj "list" #[] 0)).get? b=some o:=λb o e=>by
  refine aar _ (aar _ ?_);rw[Heap.get?_update_other _ _ (Nat.ne_of_gt (Heap.lt_size (hk b o e)))];exact aar _ (hk b o e)
 have hle:s.heap.get? h1.objs.size=none:=by
  cases q:s.heap.get? h1.objs.size with
  | none=>rfl
  | some o=>exact absurd (aap (hk _ o q)) (aaF _)
 refine aah (aaO (aa5 slot_list_sort ⟨_,RX,rfl⟩ entry_list_sort (Ds (s:={ s with heap:=h1.push (seqObj "list" vs.toArray 0),toks:=tk }) (nss:=nss) (show A.in1.in1.units<cLine by show A.units+1+1<cLine;left) RX (by rw[Ir];exact wt) Gu (ht.mono k6) λp hp hs=>⟨_,rfl,?_⟩) (args_list_sort _)));obtain⟨e,he⟩:=sortedHeap_at (out:=List.toArray (p.toList.map λi=>vs.getD i Value.none)) RX;refine aaq ⟨_,rfl,h h1.objs.size _ tk e p hle (λb o e=>?_) (by rw[<- Ir];exact hp) hs he⟩;have jI:=aap (hk b o e);rw[sortedHeap_old (Nat.ne_of_lt jI) (by rw[size_push'];exact Nat.lt_succ_of_lt jI)];exact aar _ (hk b o e)
end
section
variable {α β:Type}
noncomputable def bO:List (List Int)->List α->List Int->Option α
 | c'::cs,v::vs,c=>if c'=c then some v else bO cs vs c
 | _,_,_=>none
noncomputable def setC:List (List Int)->List α->List Int->α->List α
 | c'::cs,v'::vs,c,v=>(if c'=c then v else v')::setC cs vs c v
 | _,_,_,_=>[]
noncomputable def cy(cs:List (List Int))(c:List Int):List (List Int):=if c∈cs then cs else cs++[c]
noncomputable def ye(cs:List (List Int))(as:List α)(c:List Int)(a:α):List α:=if c∈cs then as else as++[a]
def bw(cs:List (List Int))(vs:List α)(c:List Int)(v:α):List α:=if c∈cs then setC cs vs c v else vs++[v]
end
section
variable {zs:List (List Int×Addr×Value)}{c:List Int}
theorem om:∀(zs:List (List Int×Addr×Value)) (c:List Int),(atKey zs c).map (·.2)=bO (zs.map (·.1)) (zs.map (·.2.2)) c
 | [],_=>rfl
 | z::zs,c=>by
  have ih:=om zs c;unfold atKey at ih ⊢;rw[List.find?_cons];show _=if z.1=c then some z.2.2 else bO (zs.map (·.1)) (zs.map (·.2.2)) c
  by_cases e:z.1=c
  ·rw[decide_eq_true e,if_pos e];rfl
  ·rw[decide_eq_false e,if_neg e];exact ih
theorem dX:∀(zs:List (List Int×Addr×Value)) (c:List Int),(atKey zs c).isSome=true ↔ c∈zs.map (·.1)
 | [],c=>by simp[atKey]
 | z::zs,c=>by
  have ih:=dX zs c;unfold atKey at ih ⊢;rw[List.find?_cons,List.map_cons,List.mem_cons];by_cases e:z.1=c
  ·rw[decide_eq_true e];simp[e]
  ·rw[decide_eq_false e];rw[ih];exact⟨.inr,λh=>h.resolve_left λz=>e z.symm⟩
theorem oM(a:Addr)(v:Value):(storedH zs c a v).map (·.1)=cy (zs.map (·.1)) c:=by
 unfold storedH cy;by_cases h:c∈zs.map (·.1)
 ·rw[if_pos ((dX zs c).mpr h),if_pos h,List.map_map];refine aaz λz _=>?_;show(putAt c v z).1=z.1;unfold putAt;split<;>rfl
 ·rw[if_neg (λz=>h ((dX zs c).mp z)),if_neg h,List.map_append];rfl
theorem wL(a:Addr)(v:Value):(storedH zs c a v).map (·.2.1)=ye (zs.map (·.1)) (zs.map (·.2.1)) c a:=by
 unfold storedH ye;by_cases h:c∈zs.map (·.1)
 ·rw[if_pos ((dX zs c).mpr h),if_pos h,List.map_map];refine aaz λz _=>?_;show(putAt c v z).2.1=z.2.1;unfold putAt;split<;>rfl
 ·rw[if_neg (λz=>h ((dX zs c).mp z)),if_neg h,List.map_append];rfl
theorem w_(v:Value):∀ zs:List (List Int×Addr×Value),(zs.map (putAt c v)).map (·.2.2)=setC (zs.map (·.1)) (zs.map (·.2.2)) c v
 | []=>rfl
 | z::zs=>by
  show(putAt c v z).2.2::((zs.map (putAt c v)).map (·.2.2))=(if z.1=c then v else z.2.2)::setC (zs.map (·.1)) (zs.map (·.2.2)) c v;rw[w_ v zs];unfold putAt;by_cases e:z.1=c
  ·rw[if_pos e,if_pos e]
  ·rw[if_neg e,if_neg e]
theorem wK(a:Addr)(v:Value):(storedH zs c a v).map (·.2.2)=bw (zs.map (·.1)) (zs.map (·.2.2)) c v:=by
 unfold storedH bw;by_cases h:c∈zs.map (·.1)
 ·rw[if_pos ((dX zs c).mpr h),if_pos h];exact w_ v zs
 ·rw[if_neg (λz=>h ((dX zs c).mp z)),if_neg h,List.map_append];rfl
end
theorem wx{c:List Int}{v:V}{u:Value}(r:RelV v u):∀ {cs:List (List Int)} {xs:List V} {us:List Value},Vals xs us->Vals (setC cs xs c v) (setC cs us c u)
 | [],_,_,h=>by cases h<;>exact .nil
 | c'::cs,_,_,h=>by
  cases h with
  | nil=>exact .nil
  | cons h t =>
   refine .cons ?_ (wx r t);show RelV (if c'=c then v else _) (if c'=c then u else _);by_cases e:c'=c
   ·rw[if_pos e,if_pos e];exact r
   ·rw[if_neg e,if_neg e];exact h
theorem tL{v:V}{u:Value}(r:RelV v u):∀ {xs:List V} {us:List Value},Vals xs us->Vals (xs++[v]) (us++[u])
 | _,_,.nil=>.cons r .nil
 | _,_,.cons h t=>.cons h (tL r t)
theorem C3{cs:List (List Int)}{xs:List V}{us:List Value}(h:Vals xs us){c:List Int}{v:V}{u:Value}(r:RelV v u):Vals (bw cs xs c v) (bw cs us c u):=by
 unfold bw;by_cases e:c∈cs
 ·rw[if_pos e,if_pos e];exact wx r h
 ·rw[if_neg e,if_neg e];exact tL r h
theorem ql:∀ {cs:List (List Int)} {xs:List V} {us:List Value} (_:Vals xs us) (c:List Int),sj (bO cs xs c) (bO cs us c)
 | [],_,_,_,_=>by cases ‹Vals _ _› <;> exact True.intro
 | c'::cs,_,_,h,c=>by
  cases h with
  | nil=>exact True.intro
  | cons h t =>
   show sj (if c'=c then some _ else _) (if c'=c then some _ else _);by_cases e:c'=c
   ·rw[if_pos e,if_pos e];exact h
   ·rw[if_neg e,if_neg e];exact ql t c
variable {pos pos':Pos}
section
variable {X:Cx}{pins:List (Addr×Obj)}{σ:St}{H:Hp}{s:Shared}{p b:Addr}{cs:List (List Int)}{as:List Addr}{xs:List V}{ep:Nat}{c:List Int}{A:Around}{E:Value->Shared->Prop}
theorem items_int:∀ {c:List Int} {ao:List Value},Vals (c.map V.int) ao->ItemsAre (intKind X.prog X.w) c ao
 | [],_,h=>by cases h;exact .nil
 | i::c,_,h=>by
  cases h with
  | cons h t =>
   obtain⟨t',rfl⟩:=h;exact .cons (by simp[intKind,Value.isInt]) (items_int t)
theorem vk(I:Inv X pins σ H s)(h:aG X.K H b (c.map V.int)):(tupleKind (intKind X.prog X.w)).is s.heap c b:=by
 obtain⟨ao,rv,⟨o,h1,h2,n,h3⟩,_⟩:=I.tuple h;exact⟨o,ao.toArray,n,h1,h2,h3,by simpa using items_int rv⟩
theorem vE(I:Inv X pins σ H s)(h:H p=some (.ext (DO p cs as xs ep)))(k:eK (aG X.K H) as cs):
  ∃(zs:List (List Int×Addr×Value)) (o:Obj) (es:Array DictEntry),zs.map (·.1)=cs/\zs.map (·.2.1)=as/\Vals xs (zs.map (·.2.2))/\s.heap.get? p=some o/\o.ExactDict/\o.data=.dict es ep /\
   s.heap.DictOfH (tupleKind (intKind X.prog X.w)) p zs/\es.toList=zs.map (entryOfKey (tupleKind (intKind X.prog X.w)))/\cs.length<=sizeLine/\(p==sysModules)=false:=by
 obtain⟨⟨zs,o,es,e1,e2,e3,ho,hx,hd,he,hn,hl,hs⟩,_⟩:=(show b7 X.prog X.w H s.heap p (.ext (DO p cs as xs ep)) from I.bQ p _ h)
 refine⟨zs,o,es,e1,e2,e3,ho,hx,hd,⟨o,es,ep,ho,hx,hd,he,λz hz=>?_,by rw[e1];exact hn⟩,he,hl,hs⟩;obtain⟨j,hj⟩:=List.mem_iff_getElem?.mp hz;exact vk I (k.tup j z.2.1 z.1 (by rw[<- e2,List.getElem?_map,hj];rfl) (by rw[<- e1,List.getElem?_map,hj];rfl))
theorem dict_cls(I:Inv X pins σ H s)(h:H p=some (.ext (DO p cs as xs ep))):s.TypeIs (.ref p) "dict" /\ ∀ b,Value.ref p=.ref b->∃ ob,s.heap.get? b=some ob/\ob.dict=none:=by
 obtain⟨⟨zs,o,es,e1,e2,e3,ho,hx,_⟩,_⟩:=(show b7 X.prog X.w H s.heap p (.ext (DO p cs as xs ep)) from I.bQ p _ h)
 exact⟨⟨o,ho,hx.1⟩,λb q=>by cases q;exact⟨o,ho,hx.2.1⟩⟩
theorem Jh{d:V}{r:Value}(hu:A.units+1<cLine)(I:Inv X pins σ H s)(h:H p=some (.ext (DO p cs as xs ep)))(k:eK (aG X.K H) as cs)(hb:aG X.K H b (c.map V.int))(rd:RelV d r)(hQ:∀ w' s',Inv X pins σ H s'->RelV ((bO cs xs c).getD d) w'->Q w' s'):
  wpAny (model X.prog X.w) A (call (.builtin "dict.get") [.ref p,.ref b,r]) Q E s:=by
 obtain⟨zs,o,es,e1,e2,e3,ho,hx,hd,dd,_,hl,hs⟩:=vE I h k;refine call_meetsIn PySem.F.slot_dict_get dd.typeIs PySem.F.entry_dict_get (PySem.F.args_dict_get_3 _ _ _) (meetsH_dict_get_default (tupleKind (intKind X.prog X.w)) p b hs r) ⟨acb hu,c,zs,vk I hb,dd,hQ _ _ (I.tok _) ?_⟩;rw[om,e1];have hg:=ql (cs:=cs) e3 c;cases q:bO cs xs c with
 | none =>
  rw[q]at hg;rw[sj.none_of hg];exact rd
 | some v =>
  rw[q]at hg;obtain⟨u,RJ,ru⟩:=sj.some_of hg;rw[RJ];exact ru
theorem zo{v:V}{r:Value}{Q:Unit->Shared->Prop}(hu:A.units+1<cLine)(I:Inv X pins σ H s)(h:H p=some (.ext (DO p cs as xs ep)))(k:eK (aG X.K H) as cs)(hb:aG X.K H b (c.map V.int))(rv:RelV v r)(jI:cs.length<sizeLine)
  (hQ:∀ AX s',Inv X pins σ (upd H p (.ext (DO p (cy cs c) (ye cs as c b) (bw cs xs c v) AX))) s'->Q () s') :
  wpAny (model X.prog X.w) A (setItem (.ref p) (.ref b) r) Q E s:=by
 obtain⟨zs,o,es,e1,e2,e3,ho,hx,hd,dd,_,hl,hs⟩:=vE I h k;have hz:zs.length<=sizeLine:=by rw[<- e1,List.length_map]at hl;exact hl
 refine wpAny_setItem_heap (hsz:=hz) (acb hu) (vk I hb) dd λh' Ya EN=>?_;obtain⟨q,SW,AX,hq,h2,h3,h4,_,h5⟩:=Ya;refine hQ AX _ (I.write (x:=p) (e:=p) (by rw[h];exact True.intro) (.inl rfl) (λb q hb z=>(EN.2 b hb).trans z) ⟨q,hq⟩ ⟨⟨storedH zs c b r,q,SW,?_,?_,?_,hq,h2,h3,h4,?_,?_,hs⟩,⟨q,hq⟩,?_⟩)
 ·rw[oM,e1]
 ·rw[wL,e1,e2]
 ·rw[wK,e1];exact C3 e3 rv
 ·rw[<- e1,<- oM (zs:=zs) (c:=c) b r];exact h5
 ·unfold cy;split
  ·exact hl
  ·rw[List.length_append,List.length_singleton];left
 ·rintro h1 h2' ⟨TB,o',es'',f1,f2,f3,f4,f5⟩ kk;exact⟨TB,o',es'',f1,f2,f3,kk _ f4,f5⟩
theorem HK:PE X (.Dict [] [] pos) (λ_ H Q=>∀ p,H p=none->Q (.ref p) (upd H p (.ext (DO p [] [] [] 0)))):=λpins s σ H Q I h=>by
 have W7:sysModules<s.heap.objs.size:=abu (by decide) (show mainGlobals<s.heap.objs.size from(I.mod.glob.keeps I.bk).lt);refine wpAny_Dict_empty ⟨.ref s.heap.objs.size,_,I.laid (a:=s.heap.objs.size) (o:=.ext (DO s.heap.objs.size [] [] [] 0)) (t':=s.toks) (λ_ _ q=>aar _ q) (aas _) ?_,rfl,h _ (I.bQ.fresh (aas _))⟩;have hg:(s.heap.push { cls:=.type "dict",data:=.dict #[] }).get? s.heap.objs.size=some { cls:=.type "dict",data:=.dict #[] }:=aaw _ rfl;refine⟨⟨[],_,#[],rfl,rfl,.nil,hg,⟨rfl,rfl,rfl⟩,rfl,rfl,abx,aaP _,beq_eq_false_iff_ne.mpr (abv (aat W7))⟩,⟨_,hg⟩,?_⟩;rintro h1 h2' ⟨TB,o',es'',f1,f2,f3,f4,f5⟩ kk;exact⟨TB,o',es'',f1,f2,f3,kk _ f4,f5⟩
end
variable {T:pH}
theorem mD{N N':ir}{k k':aL}{v:V}{d:D}(h:Rep T N k v d)(hf:aI anyF d=false):Rep T N' k' v d:=by
 have:=Rep.gen (T':=T) (N':=N') (g:=id) (P:=anyF) (C:=λ_ _=>True) (I:=λ_ _=>True) (λ_ _ h=>h) trivial (λ_ _ e=>e) (λ_ _ _ _ e _=>e) (λk k' p xs f _ hz _=>nomatch hz) h (k':=k') trivial hf;rw[fB]at this;exact this
theorem qC{T:pH}{N:ir}:∀ {cs:List (List Int)} {k:aL} {n:Nat} {xs:List V} {ds:List D} (_:ah T N k n xs ds) (c:List Int),(bO cs xs c=none/\bO cs ds c=none)\/∃ v d k',bO cs xs c=some v/\bO cs ds c=some d/\Rep T N k' v d/\d∈ds
 | [],_,_,_,_,_,_=>by cases ‹ah _ _ _ _ _ _› <;> exact .inl ⟨rfl,rfl⟩
 | c'::cs,_,_,_,_,r,c=>by
  cases r with
  | nil=>exact .inl ⟨rfl,rfl⟩
  | @cons _ _ v d vs ds h t =>
   by_cases e:c'=c
   ·exact .inr ⟨v,d,_,aa3 e,aa3 e,h,aao⟩
   ·have e1:∀ {α:Type} (a:α) (l:List α),bO (c'::cs) (a::l) c=bO cs l c:=λa l=>aco e;rw[e1,e1];rcases qC (cs:=cs) t c with h | ⟨v',d',k',h1,h2,h3,h4⟩
    ·exact .inl h
    ·exact .inr ⟨v',d',k',h1,h2,h3,aam _ h4⟩
theorem uj{p:Fl->Bool}:∀ {ds:List D},av p ds=false->∀ d∈ds,aI p d=false
 | [],_,_,h=>nomatch h
 | d::ds,h,d',hd=>by
  have h:=JY h;rcases List.mem_cons.mp hd with rfl | hd
  ·exact h.1
  ·exact uj h.2 d' hd
theorem wZ{T:pH}{N:ir}{c:List Int}{v:V}{d:D}(hv:∀ k,Rep T N k v d):∀ {cs:List (List Int)} {k:aL} {n:Nat} {xs:List V} {ds:List D},ah T N k n xs ds->ah T N k n (setC cs xs c v) (setC cs ds c d)
 | [],_,_,_,_,r=>by cases r<;>exact .nil
 | c'::cs,_,_,_,_,r=>by
  cases r with
  | nil=>exact .nil
  | cons h t =>
   refine .cons ?_ (wZ hv t);show Rep _ _ _ (if c'=c then v else _) (if c'=c then d else _);by_cases e:c'=c
   ·rw[if_pos e,if_pos e];exact hv _
   ·rw[if_neg e,if_neg e];exact h
theorem tY{T:pH}{N:ir}{v:V}{d:D}(hv:∀ k,Rep T N k v d):∀ {k:aL} {n:Nat} {xs:List V} {ds:List D},ah T N k n xs ds->ah T N k n (xs++[v]) (ds++[d])
 | _,_,_,_,.nil=>.cons (hv _) .nil
 | _,_,_,_,.cons h t=>.cons h (tY hv t)
variable {ds xs:List D}
theorem DM{N:ir}{c:List Int}{v:V}{d:D}(hv:∀ k,Rep T N k v d){cs:List (List Int)}{k:aL}{n:Nat}{xs:List V}(r:ah T N k n xs ds):ah T N k n (bw cs xs c v) (bw cs ds c d):=by
 unfold bw;by_cases e:c∈cs
 ·rw[if_pos e,if_pos e];exact wZ hv r
 ·rw[if_neg e,if_neg e];exact tY hv r
theorem EC{as:List Addr}{cs:List (List Int)}(k:eK T as cs){b:Addr}{c:List Int}(hb:T b (c.map V.int)):eK T (ye cs as c b) (cy cs c):=by
 unfold ye cy;by_cases e:c∈cs
 ·rw[if_pos e,if_pos e];exact k
 ·rw[if_neg e,if_neg e];refine⟨by rw[List.length_append,List.length_append,k.len];rfl,λj a c' ha hc=>?_⟩;by_cases hj:j<as.length
  ·rw[List.getElem?_append_left hj]at ha;rw[List.getElem?_append_left (by rw[<- k.len];exact hj)]at hc;exact k.tup j a c' ha hc
  ·rw[List.getElem?_append_right (by left)]at ha;rw[List.getElem?_append_right (by rw[<- k.len];left),<- k.len]at hc;cases hz:j - as.length with
   | zero =>
    rw[hz]at ha hc;cases ha;cases hc;exact hb
   | succ m=>rw[hz]at ha;cases ha
variable {F R:Addr->Prop}{H:Hp}{K:PySem.W.Frag}{τ:Addr->Option aL}
theorem bM.newD{G:Addr->Prop}{fv:List Nat}{H':Hp}{p:Addr}(hp:H p=none)(hl:H' p=some (.ext (DO p [] [] [] 0))):bM K G R τ fv H H' (.ref p) (.bY .ow [] []):=by
 refine⟨λq=>if q=p then some []else none,λq k hq=>?_,.bY (ep:=0) (as:=[]) (xs:=[]) ⟨hl,by simp⟩ ⟨rfl,λj a c h=>by simp at h⟩ .nil⟩;by_cases ze:q=p
 ·subst ze;exact hp
 ·simp[ze]at hq
noncomputable def A0(xs:List D):O D:=match xs with
 | []=>ok (.bY .ow [] [])
 | _::_=>none
noncomputable def vS(_:Scope)(_:List Str)(e:Expr):Option (List Expr):=match e with
 | .Dict [] [] _=>some []
 | _=>none
variable {X:Cx}{args:List Expr}{cs:List CE}{Φ:au}
theorem Jd{n:Nat}(hΦ:Φ n=A0){sc:Scope}{bl:List Str}{k:Nat}(L:PX X sc bl k){e:Expr}(he:vS sc bl e=some args)(hs:sH X F Φ cs args):PE X e (tD X F Φ (.cw n cs))/\PT X e (iK X F Φ (.cw n cs)):=by
 have h1:∃ pos,e=.Dict [] [] pos/\args=[]:=by
  unfold vS at he;split at he
  ·cases he;exact⟨_,rfl,rfl⟩
  ·cases he
 obtain⟨pos,rfl,rfl⟩:=h1;cases cs with
 | cons _ _=>exact hs.elim
 | nil =>
  have this:PE X (.Dict [] [] pos) (tD X F Φ (.cw n [])):=by
   refine PE.imp (HK (X:=X) (pos:=pos)) λσ H Q hq p hp=>?_;obtain⟨R,τ,ρ,d,Si,ev,hq⟩:=hq;have ev:Φ n []=ok d:=ev;rw[hΦ]at ev;cases ev;exact hq _ _ (ak.upd hp) (bM.newD hp aH)
  exact⟨this,cP this λ_=>rfl⟩
noncomputable def three{α:Type}:List α->Option (α×α×α)
 | [a,b,c]=>some (a,b,c)
 | _=>none
theorem wH{α:Type}{l:List α}{z:α×α×α}(h:three l=some z):l=[z.1,z.2.1,z.2.2]:=by
 unfold three at h;split at h
 ·cases h;rfl
 ·cases h
noncomputable def iE:D->Option (List (List Int)×List D)
 | .bY _ cs vs=>some (cs,vs)
 | _=>none
def keyOf:D->Option (List Int)
 | .tup ks=>intsOf ks
 | _=>none
theorem mS{d:D}{z:List (List Int)×List D}(h:iE d=some z):∃ f,d=.bY f z.1 z.2:=by
 cases d<;>first | (cases h;done) | (cases h;exact⟨_,rfl⟩)
theorem qU{d:D}{c:List Int}(h:keyOf d=some c):d=.tup (c.map D.int):=by
 cases d<;>first | (cases h;done) | skip
 rw[dR (show intsOf _=some c from h)]
def Cn(xs:List D):O D:=match two xs with
 | some z=>match iE z.1 with
  | some d=>match keyOf z.2 with
   | some c=>match bO d.1 d.2 c with
    | some v=>if aI anyF v=false then ok v else none
    | none=>none
   | none=>none
  | none=>none
 | none=>none
theorem Jf{r:D}(h:Cn xs=ok r):∃ f cs vs c,xs=[.bY f cs vs,.tup (c.map D.int)]/\bO cs vs c=some r/\aI anyF r=false:=by
 unfold Cn at h;cases h1:two xs with
 | none=>rw[h1]at h;cases h
 | some z =>
  rw[h1]at h;have h:(match iE z.1 with | some d=>(match keyOf z.2 with | some c=>(match bO d.1 d.2 c with | some v=>if aI anyF v=false then ok v else none | none=>none) | none=>none) | none=>none)=ok r:=h;cases h2:iE z.1 with
  | none=>rw[h2]at h;cases h
  | some d =>
   rw[h2]at h;have h:(match keyOf z.2 with | some c=>(match bO d.1 d.2 c with | some v=>if aI anyF v=false then ok v else none | none=>none) | none=>none)=ok r:=h;cases h3:keyOf z.2 with
   | none=>rw[h3]at h;cases h
   | some c =>
    rw[h3]at h;have h:(match bO d.1 d.2 c with | some v=>if aI anyF v=false then ok v else none | none=>none)=ok r:=h;cases h4:bO d.1 d.2 c with
    | none=>rw[h4]at h;cases h
    | some v =>
     rw[h4]at h;obtain⟨hf,rfl⟩:=wq (show(if aI anyF v=false then ok v else none)=ok r from h);obtain⟨f,e1⟩:=mS h2;exact⟨f,d.1,d.2,c,by rw[jM h1,e1,qU h3],h4,hf⟩
def VJ(K:PySem.W.Frag):R2:=λx y H Q=>∃ p b cs as xs ep c v,x=.ref p/\y=.ref b/\H p=some (.ext (DO p cs as xs ep))/\eK (aG K H) as cs/\aG K H b (c.map V.int)/\bO cs xs c=some v/\Q v H
theorem Ij(hu:X.A.units+1<cLine):Kv X (VJ X.K):=by
 intro value slice pins s σ H x y v u Q I rx ry h hs;obtain⟨p,b,cs,as,xs,ep,c,w,rfl,rfl,hp,hk,hb,hg,q⟩:=h;cases rx;cases ry;obtain⟨zs,o,es,e1,e2,e3,ho,hx,hd,dd,_,hl,Iu⟩:=vE I hp hk;have ZF:=ql (cs:=cs) e3 c;rw[hg]at ZF;obtain⟨u,RJ,ru⟩:=sj.some_of ZF;have:(atKey zs c).map (·.2)=some u:=by rw[om,e1];exact RJ
 obtain⟨q',hq',rfl⟩:=Option.map_eq_some_iff.mp this;exact aby (x:=q'.2) dd.typeIs PySem.F.slot_dict_getitem.lookup
  (wpAny_getItem_heap (Q:=λr s'=>r=q'.2/\EP X pins σ Q r s') (acb hu) (vk I hb) dd hq' ⟨rfl,w,H,I.tok _,ru,q⟩) hs
def zz(_:Scope)(_:List Str)(e:Expr):Option (List Expr):=match ny e with
 | some z=>some [z.1,z.2]
 | none=>none
theorem N7{n:Nat}(hΦ:Φ n=Cn){sc:Scope}{bl:List Str}{k:Nat}(L:PX X sc bl k){e:Expr}(he:zz sc bl e=some args)(hs:sH X F Φ cs args):PE X e (tD X F Φ (.cw n cs))/\PT X e (iK X F Φ (.cw n cs)):=by
 unfold zz at he;cases h1:ny e with
 | none=>rw[h1]at he;cases he
 | some z =>
  rw[h1]at he;cases he;obtain⟨pos,rfl⟩:=me h1;obtain⟨⟨c1,c2,rfl,p1,p2⟩,_⟩:=qH hs;have this:PE X (.Subscript z.1 z.2 pos) (tD X F Φ (.cw n [c1,c2])):=by
   refine PE.imp (D9 (Ij (EM L.room)) p1 p2 hs.2.2.2.2.2.1) λσ H Q hq=>?_;obtain⟨R,τ,ρ,d,Si,ev,hq⟩:=hq;obtain⟨xs,bV,ev⟩:=af ev;rw[hΦ]at ev;obtain⟨f,cs,vs,c,rfl,hg,hf⟩:=Jf ev;obtain⟨x,ex,bV⟩:=af bV;obtain⟨ys,rE,bV⟩:=af bV;obtain⟨y,ey,XM⟩:=af rE;cases XM;cases bV;refine tD.intro Si ex λv H1 e1 r1=>tD.intro (Si.go e1) ey λu H2 e2 r2=>?_;obtain⟨τ1,f1,q1⟩:=r1;obtain⟨τ2,f2,q2⟩:=r2;cases q1 with
   | bY hn hk hr=>cases q2 with
    | tup ht RP =>
     cases RP.ofInts;rcases qC hr c with ⟨_,hz⟩ | ⟨w,d',k',g1,g2,g3,_⟩
     ·rw[hg]at hz;cases hz
     ·rw[hg]at g2;cases g2;refine⟨_,_,_,_,_,_,c,w,rfl,rfl,e2 _ _ hn.dat,hk.imp λ_ _ h=>aG.same e2 h,ht,g1,hq w H2 (e1.trans e2) ⟨λ_=>none,λ_ _ h=>by simp at h,?_⟩⟩;exact(mD (N':=nd X.K R (lM (gP X F) τ (iB (.cw n [c1,c2]))) (λ_=>none) H1) (k':=[]) g3 hf).imp (λ_ _ h=>aG.same e2 h) λ_ _ _ _ h=>nd.same e2 h
  exact⟨this,cP this λ_=>rfl⟩
def uv(xs:List D):O D:=match three xs with
 | some z=>match iE z.1 with
  | some d=>match keyOf z.2.1 with
   | some c=>if av anyF d.2=false/\aI anyF z.2.2=false then ok ((bO d.1 d.2 c).getD z.2.2)else none
   | none=>none
  | none=>none
 | none=>none
theorem FW{r:D}(h:uv xs=ok r):∃ f cs vs c x,xs=[.bY f cs vs,.tup (c.map D.int),x]/\av anyF vs=false/\aI anyF x=false/\r=(bO cs vs c).getD x:=by
 unfold uv at h;cases h1:three xs with
 | none=>rw[h1]at h;cases h
 | some z =>
  rw[h1]at h;have h:(match iE z.1 with | some d=>(match keyOf z.2.1 with | some c=>if av anyF d.2=false/\aI anyF z.2.2=false then ok ((bO d.1 d.2 c).getD z.2.2)else none | none=>none) | none=>none)=ok r:=h;cases h2:iE z.1 with
  | none=>rw[h2]at h;cases h
  | some d =>
   rw[h2]at h;have h:(match keyOf z.2.1 with | some c=>if av anyF d.2=false/\aI anyF z.2.2=false then ok ((bO d.1 d.2 c).getD z.2.2)else none | none=>none)=ok r:=h;cases h3:keyOf z.2.1 with
   | none=>rw[h3]at h;cases h
   | some c =>
    rw[h3]at h;obtain⟨⟨hf,hx⟩,rfl⟩:=wq (show(if av anyF d.2=false/\aI anyF z.2.2=false then ok ((bO d.1 d.2 c).getD z.2.2)else none)=ok r from h);obtain⟨f,e1⟩:=mS h2;exact⟨f,d.1,d.2,c,z.2.2,by rw[wH h1,e1,qU h3],hf,hx,rfl⟩
def p9(_:Scope)(_:List Str)(e:Expr):Option (List Expr):=match tM ("get" : Str) (.Expr e ⟨0,0,0,0⟩)with
 | some z=>match two z.2 with
  | some y=>if isNm z.1=true then some [z.1,y.1,y.2]else none
  | none=>none
 | none=>none
theorem zA{sc:Scope}{bl:List Str}{e:Expr}(h:p9 sc bl e=some args):∃ x p p1 p2 a b,e=.Call (.Attribute (.Name x p) ("get" : Str) p1) [a,b] [] p2/\args=[.Name x p,a,b]/\(p1.endLine==p2.line)=true:=by
 unfold p9 at h;cases h1:tM ("get" : Str) (.Expr e ⟨0,0,0,0⟩)with
 | none=>rw[h1]at h;cases h
 | some z =>
  obtain⟨o,as⟩:=z;rw[h1]at h;have h2:(match two as with | some y=>if isNm o=true then some [o,y.1,y.2]else none | none=>none)=some args:=h;clear h;cases h3:two as with
  | none=>rw[h3]at h2;cases h2
  | some y =>
   rw[h3]at h2;have h4:(if isNm o=true then some [o,y.1,y.2]else none)=some args:=h2;clear h2;by_cases hn:isNm o=true
   ·rw[if_pos hn]at h4;cases h4;obtain⟨p1,p2,pos,e1,hl⟩:=wy h1;cases e1;cases o<;>first | (cases hn;done) | skip
    rw[jM h3];exact⟨_,_,_,_,_,_,rfl,rfl,hl⟩
   ·rw[if_neg hn]at h4;cases h4
theorem BN{x:Str}{p p1 p2:Pos}{a b:Expr}{td:TE}{ta:TA}(hu:X.A.units+1<cLine)(ho:PE X (.Name x p) td)(ha:PA X [a,b] ta)(s1:∀ es,starEach (a::es) X.env=(false,eval a X.env)::starEach es X.env)(s2:∀ es,starEach (b::es) X.env=(false,eval b X.env)::starEach es X.env)(hl:(p1.endLine==p2.line)=true):
  PE X (.Call (.Attribute (.Name x p) ("get" : Str) p1) [a,b] [] p2) (λσ H Q=>td σ H λv H1=>∃ q cs as xs ep,v=.ref q/\H1 q=some (.ext (DO q cs as xs ep))/\ta σ H1 λys H2=>∃ k c z,ys=[.ref k,z]/\H2 q=some (.ext (DO q cs as xs ep))/\eK (aG X.K H2) as cs/\aG X.K H2 k (c.map V.int)/\Q ((bO cs xs c).getD z) H2):=by
 intro pins s σ H Q I h;refine wpAny_Call_method rfl (by rw[s1,s2];rfl) hl PySem.F.plainAttrs_dict PySem.F.slot_dict_get PySem.F.type_dict_get (cI (ho pins s σ H _ I h) λu s1' ⟨v,H1,I1,rx,q,cs,as,xs,ep,ex,hd,q1⟩=>?_);subst ex;obtain rfl:u=Value.ref q:=rx;obtain⟨t1,t2⟩:=dict_cls I1 hd;refine⟨t1,t2,?_⟩;have hA:=ha p2 pins s1' σ H1 _ I1 q1;rw[s1]at hA ⊢;refine abD (by show(false||(backTo p2 (starEach [b] X.env)).any (·.1))=false;rw[s2];rfl) (ab0 ?_);refine cI hA λus s3 ⟨ys,H2,I2,r2,k,c,z,ey,hd2,hk,hb,q2⟩=>?_;subst ey;obtain⟨w1,w2,rfl,rw1,rw2⟩:=vals2 r2;cases rw1;exact Jh hu I2 hd2 hk hb rw2 λw' s4 I4 mB=>⟨_,H2,I4,mB,q2⟩
theorem Jg{n:Nat}(hΦ:Φ n=uv){sc:Scope}{bl:List Str}{k:Nat}(L:PX X sc bl k){e:Expr}(he:p9 sc bl e=some args)(hs:sH X F Φ cs args):PE X e (tD X F Φ (.cw n cs))/\PT X e (iK X F Φ (.cw n cs)):=by
 obtain⟨x,p,p1,p2,a,b,rfl,rfl,hl⟩:=zA he;cases cs with
 | nil=>exact hs.elim
 | cons c0 cs =>
  obtain⟨h0,_,_,Uu⟩:=hs;obtain⟨⟨c1,c2,rfl,_,_⟩,pa,s1,s2⟩:=qH Uu;have this:PE X (.Call (.Attribute (.Name x p) ("get" : Str) p1) [a,b] [] p2) (tD X F Φ (.cw n [c0,c1,c2])):=by
   refine PE.imp (BN (EM L.room) h0 pa s1 s2 hl) λσ H Q hq=>?_;obtain⟨R,τ,ρ,d,Si,ev,hq⟩:=hq;obtain⟨xs,bV,ev⟩:=af ev;rw[hΦ]at ev;obtain⟨f,cs,vs,c,y,rfl,hf,hy,rfl⟩:=FW ev;obtain⟨x0,ex,bV⟩:=af bV;obtain⟨ys,rE,bV⟩:=af bV;cases bV;refine tD.intro Si ex λv H1 e1 r1=>?_;obtain⟨τ1,f1,q1⟩:=r1;cases q1 with
   | bY hn hk hr =>
    refine⟨_,_,_,_,_,rfl,hn.dat,R,τ,ρ,_,Si.go e1,rE,λus H2 e2 r2=>?_⟩;obtain⟨τ2,f2,q2⟩:=r2;obtain⟨u1,u2,rfl,VD,VC⟩:=q2.two;obtain⟨_,_,rfl,ht,RP⟩:=VD.C2;cases RP.ofInts;refine⟨_,c,u2,rfl,e2 _ _ hn.dat,hk.imp λ_ _ h=>aG.same e2 h,ht,?_⟩;refine hq _ H2 (e1.trans e2) ⟨λ_=>none,λ_ _ h=>by simp at h,?_⟩;rcases qC hr c with ⟨g1,g2⟩ | ⟨w,d',k',g1,g2,g3,g4⟩
    ·rw[g1,g2];exact mD (T:=aG X.K H2) VC hy
    ·rw[g1,g2];exact(mD (N':=nd X.K R (lM (gP X F) τ (iB (.cw n [c0,c1,c2]))) (λ_=>none) H1) (k':=[]) g3 (uj hf _ g4)).imp (λ_ _ h=>aG.same e2 h) λ_ _ _ _ h=>nd.same e2 h
  exact⟨this,cP this λ_=>rfl⟩
def ur(xs:List D):O D:=match three xs with
 | some z=>match z.1 with
  | .bY f cs vs=>match keyOf z.2.2 with
   | some c=>if cL f=true/\aI anyF z.2.1=false/\cs.length<iL then ok (.bY .ow (cy cs c) (bw cs vs c z.2.1))else none
   | none=>none
  | _=>none
 | none=>none
theorem xP{d:D}{r:D}(h:ur (d::xs)=ok r):∃ cs vs c x,d=.bY .ow cs vs/\xs=[x,.tup (c.map D.int)]/\aI anyF x=false/\cs.length<iL/\r=.bY .ow (cy cs c) (bw cs vs c x):=by
 unfold ur at h;cases h1:three (d::xs)with
 | none=>rw[h1]at h;cases h
 | some z =>
  rw[h1]at h;have e0:=wH h1;obtain⟨d',x,y⟩:=z;obtain⟨rfl,rfl⟩:d=d'/\xs=[x,y]:=abJ e0;cases d<;>first | (cases h;done) | skip
  rename_i f cs vs;have h:(match keyOf y with | some c=>if cL f=true/\aI anyF x=false/\cs.length<iL then ok (D.bY .ow (cy cs c) (bw cs vs c x))else none | none=>none)=ok r:=h;cases h3:keyOf y with
  | none=>rw[h3]at h;cases h
  | some c =>
   rw[h3]at h;obtain⟨⟨hf,hx,hl⟩,rfl⟩:=wq (show(if cL f=true/\aI anyF x=false/\cs.length<iL then ok (D.bY .ow (cy cs c) (bw cs vs c x))else none)=ok r from h);cases f<;>first | (cases hf;done) | exact⟨cs,vs,c,x,rfl,by rw[qU h3],hx,hl,rfl⟩
def p8(_:Scope)(_:List Str)(st:Stmt):Option (Expr×List Expr):=match Bu st with
 | some z=>match one z.1 with
  | some t=>match ny t with
   | some y=>some (y.1,[z.2,y.2])
   | none=>none
  | none=>none
 | none=>none
variable {o tg value:Expr}{st:Stmt}
theorem zy{sc:Scope}{bl:List Str}(h:p8 sc bl st=some (o,args)):∃ v i pos' pos,st=.Assign [.Subscript o i pos'] v pos/\args=[v,i]:=by
 unfold p8 at h;cases h1:Bu st with
 | none=>rw[h1]at h;cases h
 | some z =>
  obtain⟨ts,v⟩:=z;rw[h1]at h;have h2:(match one ts with | some t=>(match ny t with | some y=>some (y.1,[v,y.2]) | none=>none) | none=>none)=some (o,args):=h;clear h;cases h3:one ts with
  | none=>rw[h3]at h2;cases h2
  | some t =>
   rw[h3]at h2;have h4:(match ny t with | some y=>some (y.1,[v,y.2]) | none=>none)=some (o,args):=h2;clear h2;cases h5:ny t with
   | none=>rw[h5]at h4;cases h4
   | some y =>
    rw[h5]at h4;cases h4;obtain⟨pos,rfl⟩:=pJ h1;obtain rfl:=b8 h3;obtain⟨p,rfl⟩:=me h5;exact⟨_,_,_,_,rfl,rfl⟩
mutual
theorem any_map(g:Fl->Fl):∀ d:D,aI anyF (aq g d)=aI anyF d
 | .bh=>rfl
 | .bl _=>rfl
 | .int _=>rfl
 | .tup ds=>yd g ds
 | .lst _ ds=>rfl
 | .bY _ _ ds=>rfl
theorem yd(g:Fl->Fl):∀ ds:List D,av anyF (ag g ds)=av anyF ds
 | []=>rfl
 | d::ds=>by show(aI _ _||av _ _)=(aI _ d||av _ ds);rw[any_map g d,yd g ds]
end
mutual
theorem zG:∀ d:D,aI anyF d=false->aI bE d=false
 | .bh,_=>rfl
 | .bl _,_=>rfl
 | .int _,_=>rfl
 | .tup ds,h=>Bj ds h
 | .lst _ ds,h=>nomatch h
 | .bY _ _ ds,h=>nomatch h
theorem Bj:∀ ds:List D,av anyF ds=false->av bE ds=false
 | [],_=>rfl
 | d::ds,h=>by
  have h:=JY h;show(aI _ d||av _ ds)=false;rw[zG d h.1,Bj ds h.2];rfl
end
theorem any_ints:∀ c:List Int,av anyF (c.map D.int)=false
 | []=>rfl
 | i::c=>any_ints c
theorem K2{i:Expr}{l:Nat}{env:Env}:swapsWith value (some (.Subscript o i pos')) l env=pure false:=by
 unfold swapsWith;cases value<;>rfl
theorem DW{x:Str}{p0:Pos}{i:Expr}{tv to ti:TE}(hu:X.A.units+1<cLine)(hv:PE X value tv)(ho:PE X (.Name x p0) to)(hi:PE X i ti):
  PS X (.Assign [.Subscript (.Name x p0) i pos'] value pos) (λD σ H=>tv σ H λv H1=>to σ H1 λo H2=>ti σ H2 λy H3=>∃ q b cs as xs ep c,o=.ref q/\y=.ref b/\H3 q=some (.ext (DO q cs as xs ep))/\eK (aG X.K H3) as cs/\aG X.K H3 b (c.map V.int)/\cs.length<sizeLine /\
   ∀ AX,D.nx σ (upd H3 q (.ext (DO q (cy cs c) (ye cs as c b) (bw cs xs c v) AX)))):=by
 intro pins s σ H D I h;refine wpAny_Assign_Subscript (cI (hv pins s σ H _ I h) λr s1 ⟨v,H1,I1,rv,q1⟩=>cI (ho pins s1 σ H1 _ I1 q1) λu s2 ⟨o,H2,I2,rx,q2⟩=>cI (hi pins s2 σ H2 _ I2 q2) λiv s3 ⟨y,H3,I3,ry,q,b,cs,as,xs,ep,c,eo,ey,hd,hk,hb,hl,q3⟩=>?_) K2;subst eo ey;obtain rfl:u=Value.ref q:=rx;obtain rfl:iv=Value.ref b:=ry;exact zo hu I3 hd hk hb rv hl λAX s4 I4=>⟨σ,_,I4,q3 AX⟩
variable {ρ:aD}{σ:L2.St}
theorem SI.QX{i:Nat}{cs:List (List Int)}(Si:SI X F R τ ρ σ H)(hi:ρ[i]?=some (some (.bY .ow cs ds))):
  ∃ p as xs ep,σ[i]?=some (some (.ref p))/\H p=some (.ext (DO p cs as xs ep))/\τ p=some [i]/\eK (aG X.K H) as cs/\ah (aG X.K H) (nd X.K R (λ_=>False) τ H) [i] 0 xs ds:=by
 obtain⟨v,hv,rp⟩:=Si.rep i _ hi;cases rp with
 | bY h k r=>exact⟨_,_,_,_,hv,h.1,h.2,k,r⟩
theorem Jc{n:Nat}(hΦ:Φ n=ur){sc:Scope}{bl:List Str}{k:Nat}(L:PX X sc bl k)(hN:X.N.Nodup)(sT:∀ x,X.fn x=true){x:Str}(he:p8 sc bl st=some (.Name x pos,args))
  {i:Nat} (hi:X.N[i]?=some x) (hl:L2.Loc X.env.scope x) (pe:PE X (.Name x pos) (uM i)) (hs:sH X F Φ cs args):PS X st (wJ X F Φ (.mut n i cs)):=by
 obtain⟨v,ix,p1,p2,rfl,rfl⟩:=zy he;obtain⟨⟨c1,c2,rfl,h1,h2⟩,_⟩:=qH hs;refine PS.imp (DW (EM L.room) h1 pe h2) λD σ H hq=>?_;obtain⟨R,τ,ρ,r,Si,ev,hq⟩:=hq;obtain⟨xs,bV,ev⟩:=af ev;obtain⟨y,ey,bV⟩:=af bV;obtain⟨ys,rE,bV⟩:=af bV;cases bV;obtain⟨kd,ek,XM⟩:=af rE;cases XM;have key:∃ cs vs c,kd=.tup (c.map DI.D.int)/\ρ[i]?=some (some (.bY .ow cs vs))/\aI anyF y=false/\cs.length<iL/\r=(.nx,ρ.set i (some (.bY .ow (cy cs c) (bw cs vs c y)))):=by
  cases hz:av bE [y,kd]with
  | true =>
   obtain⟨d,d',h⟩:=En ev hz;rw[hΦ]at h;obtain⟨cs,vs,c,x',_,e1,e2,_⟩:=xP h;have e3:aq aC y=x'/\aq aC kd=.tup (c.map DI.D.int):=by
    have:=abJ e1;exact⟨this.1,(abJ this.2).1⟩
   have a1:aI bE y=false:=zG y (by rw[<- any_map aC y,e3.1];exact e2);have a2:aI bE kd=false:=zG kd (by rw[<- any_map aC kd,e3.2];exact any_ints c);have:av bE [y,kd]=false:=by show(aI bE y||(aI bE kd||false))=false;rw[a1,a2];rfl
   rw[this]at hz;cases hz
  | false =>
   obtain⟨d,d',h,h',rfl⟩:=Au ev hz;rw[hΦ]at h';obtain⟨cs,vs,c,x',rfl,e1,e2,e3,rfl⟩:=xP h';cases e1;exact⟨cs,vs,c,rfl,h,e2,e3,rfl⟩
 obtain⟨cs,vs,c,rfl,ho,hf,hc,rfl⟩:=key;obtain⟨p,as,zs,ep,hv,hd,ht,hk,rs⟩:=Si.QX ho;refine tD.intro Si ey λu H1 e1 ru=>⟨.ref p,hv,tD.intro (Si.go e1) ek λw H2 e2 mB=>?_⟩
 obtain⟨τ1,f1,q1⟩:=ru;obtain⟨τ2,f2,q2⟩:=mB;cases q2 with
 | @tup _ b _ _ hb RP =>
  cases RP.ofInts;have es:=e1.trans e2;have Gg:=Si.go es;have hd2:=es _ _ hd;have xD:iL=1000000:=rfl;have hz:sizeLine=16777216:=abi;refine⟨p,b,cs,as,zs,ep,c,rfl,rfl,hd2,hk.imp λ_ _ h=>aG.same es h,hb,by left,λAX=>?_⟩;have hn:dZ H2 p (.d cs as zs ep):=hd2;have rk:jK X R τ H2 u y:=qE ((mD (N':=nd X.K R (λ_=>False) τ H1) (k':=[]) q1 hf).imp (λ_ _ h=>aG.same e2 h) λ_ _ _ _ h=>nd.same e2 h) hf;obtain⟨p',Ol,TB,adj,RI,Gx,ht',ZD,yJ⟩:=Gg.QX ho;rw[hv]at RI;cases RI;rw[hd2]at Gx;obtain⟨τ3,CF⟩:=Gg.QM (m:=0) (n':=.d (cy cs c) (ye cs as c b) (bw cs zs c u) AX) (o:=.ext (DO p (cy cs c) (ye cs as c b) (bw cs zs c u) AX)) (d1:=.bY .ow (cy cs c) (bw cs vs c y)) (xs':=bw cs zs c u) (ds':=bw cs vs c y) ho hv hn ht (rs.imp (λ_ _ h=>aG.same es h) λ_ _ _ _ h=>nd.same es h) rk aH
   (λhN r=>.bY hN (EC ((hk.imp λ_ _ h=>aG.same es h).imp λ_ _ h=>Dq hn h) (Dq hn hb)) r) (λrs r=>DM (λk=>mD r hf) rs)
  exact hq σ _ R τ3 CF (vj Gg es (λ_ h=>h) hn ht)
variable {P:Program}{w:World}
theorem L6{h:Heap}{a:Addr}{o:HO}(x:b7 P w H h a o):∃ u,h.get? a=some u:=by
 cases o with
 | lst xs=>obtain⟨_,_,_,_,e⟩:=x;exact⟨_,e⟩
 | tup xs=>obtain⟨_,_,_,o,e,_⟩:=x;exact⟨_,e⟩
 | dK o_=>obtain⟨_,_,_,_,o,_,_,e,_⟩:=x;exact⟨_,e⟩
 | dT o_=>obtain⟨_,_,_,_,o,_,_,e,_⟩:=x;exact⟨_,e⟩
 | set S n=>obtain⟨o,_,_,_,e,_⟩:=x;exact⟨_,e⟩
 | ins C dx fs=>obtain⟨_,_,_,e,_⟩:=x;exact⟨_,e⟩
 | own y=>exact x
 | xd fs=>obtain⟨_,⟨o,_,_,e,_⟩,_⟩:=x;exact⟨_,e⟩
 | k9 lo hi=>obtain⟨_,_,_,e⟩:=x;exact⟨_,e⟩
 | iC o u=>exact⟨_,x.1⟩
 | G9 ps=>exact⟨_,x⟩
 | met f y=>exact⟨_,x⟩
 | ext φ=>exact x.2.1
theorem Inv.Ru{pins:List (Addr×Obj)}{s:Shared}{t':Nat}{a:Addr}{o:HO}(I:Inv X pins σ H s)(k:∀ b u,s.heap.get? b=some u->h'.get? b=some u)(ha:s.heap.get? a=none)(new:b7 X.prog X.w (upd H a o) h' a o):
  H a=none/\Inv X pins σ (upd H a o) { s with heap:=h',toks:=t' }:=by
 have hn:H a=none:=by
  cases q:H a with
  | none=>rfl
  | some u =>
   obtain⟨z,hz⟩:=L6 (I.bQ a u q);rw[ha]at hz;exact nk hz
 have up:∀ b u,H b=some u->upd H a o b=some u:=λb u e=>by rw[aA (bz e hn)];exact e
 refine⟨hn,I.step (g':=s.gens) (d':=s.drawn) (ch:=[]) (λb hb=>nomatch hb) (λb o _ _ _ e _=>k b o e) (λb o _ _ _ e _=>⟨o.slots,k b o e⟩) (λb u _ e n=>?_)
  (λb o _ e=>⟨o,k b o e⟩) (λ_ _ e=>up _ _ e) (λ_ _ _ e=>up _ _ e) (λb ps e=>⟨#[],by rw[up _ _ e];simp⟩) (λm hm=>?_) (λb u e=>?_) I.bare⟩
 ·rw[aA λz=>by rw[z,ha]at e;cases e];exact n
 ·obtain⟨o,es,ep,ho,r⟩:=hm;exact⟨o,es,ep,k _ o ho,r⟩
 ·by_cases z:b=a
  ·subst z;rw[aH]at e;cases e;exact new
  ·rw[aA z]at e;exact(I.bQ b u e).jO (λc v _ q=>k c v q) (λ_ q=>up _ _ q) λ_ _ q=>up _ _ q
section
variable {X:Cx}{pins:List (Addr×Obj)}{σ:St}{H:Hp}{s:Shared}{d:Addr}{cs:List (List Int)}{as:List Addr}{xs:List V}{ep:Nat}
theorem uT(I:Inv X pins σ H s)(h:H d=some (.ext (DO d cs as xs ep))):∃ es:Array DictEntry,wm s.heap d es ep/\es.size=as.length/\es.toList.map (·.key)=as.map Value.ref/\cs.Nodup/\as.length=cs.length/\(d==sysModules)=false:=by
 obtain⟨⟨zs,o,es,e1,e2,e3,ho,hx,hd,he,hn,hl,hs⟩,_⟩:=(show b7 X.prog X.w H s.heap d (.ext (DO d cs as xs ep)) from I.bQ d _ h)
 refine⟨es,⟨o,ho,hx,hd⟩,?_,?_,hn,?_,hs⟩
 ·rw[<- Array.length_toList,he,<- e2,List.length_map,List.length_map]
 ·rw[he,<- e2,List.map_map,List.map_map];rfl
 ·rw[<- e1,<- e2,List.length_map,List.length_map]
noncomputable def Itd(d:Addr)(cs:List (List Int))(as:List Addr)(xs:List V)(ep:Nat):It :=
 ⟨λi H=>H d=some (.ext (DO d cs as xs ep))/\i<as.length,λi H v H'=>H'=H/\∃ a,as[i]?=some a/\v=.ref a,λi H=>H d=some (.ext (DO d cs as xs ep))/\as.length<=i⟩
theorem Bx(d it:Addr)(cs:List (List Int))(as:List Addr)(xs:List V)(ep:Nat):Turn P w K tg (Itd d cs as xs ep) [it] it (λi h=>h.IsKeyIter it d i as.length ep) where
 mem:=by simp
 obj:=λi h st b hb=>by
  have e:b=it:=by simpa using hb
  subst e;obtain⟨o,e,c,d⟩:=st;exact⟨o,e,λv z=>by rw[d]at z;cases z⟩
 keep:=λi h h' st k=>st.at λo e=>k it (by simp) o e
 item:=by
  intro X hP hw hK hc i pins s σ H E I hf st hg;subst hP hw hK;obtain⟨hd,hi⟩:=hg;obtain⟨es,hr,hz,oX,_⟩:=uT I hd;obtain⟨f0,f1,f2,f3,f4,f5⟩:=hf it (by simp);have mM:i<es.size:=by rw[hz];exact hi
  have WX:es[i].key=.ref as[i]:=by
   have:=aaS (λl=>l[i]?) oX;simp only[List.getElem?_map,Array.getElem?_toList]at this;rw[Array.getElem?_eq_getElem mM,List.getElem?_eq_getElem hi]at this;exact aaA this
  rw[<- hz]at st;refine A1 st hr mM λh' o8 sb=>?_;have I1:Inv X pins σ H { s with heap:=h' }:=I.turned (t':=s.toks) (λb o hb e=>(sb.2 b hb).trans e) f0 f1 f3 f4 f5;obtain⟨o,e,c,d'⟩:=id o8;refine⟨_,rfl,AL (s:={ s with heap:=h' }) e c d' (by decide) ⟨.ref as[i],H,I1,by rw[WX];rfl,⟨rfl,as[i],aay hi,rfl⟩,?_,λb hb=>(hf b hb).1⟩⟩;rw[hz]at o8;exact o8
 done:=by
  intro X hP hw hK hc i pins s σ H E I hf st hg;subst hP hw hK;obtain⟨hd,hi⟩:=hg;obtain⟨es,hr,hz,oX,_⟩:=uT I hd;obtain⟨f0,f1,f2,f3,f4,f5⟩:=hf it (by simp);rw[<- hz]at st;exact FU (I.ok.hd hc) st hr (by rw[hz];exact hi) λh' eb=>⟨rfl,I.turned (t':=s.toks) (λb o hb e=>eb b o hb e) f0 f1 f3 f4 f5⟩
 self:=λ_ _ _ _ _ st h=>wpAny_pyIter_keyiter st h
end
def nU(xs:List D):O D:=match one xs with
 | some d=>match iE d with
  | some z=>ok (.lst .ow (z.1.map gR))
  | none=>none
 | none=>none
theorem Cm{r:D}(h:nU xs=ok r):∃ f cs vs,xs=[.bY f cs vs]/\r=.lst .ow (cs.map gR):=by
 unfold nU at h;cases h1:one xs with
 | none=>rw[h1]at h;exact nk h
 | some d =>
  rw[h1]at h;have h:(match iE d with | some z=>ok (D.lst .ow (z.1.map gR)) | none=>none)=ok r:=h;cases h2:iE d with
  | none=>rw[h2]at h;exact nk h
  | some z =>
   rw[h2]at h;cases h;obtain⟨f,e⟩:=mS h2;exact⟨f,z.1,z.2,by rw[b8 h1,e],rfl⟩
theorem gA(g:Fl->Fl):∀ cs:List (List Int),ag g (cs.map gR)=cs.map gR
 | []=>rfl
 | c::cs=>by
  show aq g (gR c)::ag g (cs.map gR)=_;rw[gA g cs];have:∀ c:List Int,ag g (c.map D.int)=c.map D.int:=λc=>by
   induction c with
   | nil=>rfl
   | cons i c ih=>show D.int i::ag g (c.map D.int)=_;rw[ih];rfl
  show D.tup (ag g (c.map D.int))::_=_;rw[this];rfl
theorem Ac{N:ir}{k:aL}{a:Addr}{c:List Int}(h:T a (c.map V.int)):Rep T N k (.ref a) (gR c):=.tup h (ah.ints c)
def F8(_:Scope)(_:List Str)(e:Expr):Option (List Expr):=if isNm e=true then some [e]else none
theorem FR{n:Nat}(hΦ:Φ n=nU){sc:Scope}{bl:List Str}{k:Nat}(L:PX X sc bl k){e:Expr}(he:F8 sc bl e=some args)(ht:(decide (1100<=n)||iX tg)=true)(hs:sH X F Φ cs args)
  {pins:List (Addr×Obj)} {s:Shared} {d:D} {items:List D} (I:Inv X pins σ H s) (Si:SI X F R τ ρ σ H) (bV:bL Φ cs ρ=ok xs) (ed:Φ n xs=ok d) (ei:nF d=ok items) (Rr:It->Hp->Prop)
  (hR:∀ J H2 vs,ak H H2->bR X.K (gP X F) R τ (ck cs) H H2 vs xs->Ph X.K J H2 vs xs items->Rr J H2) :
  wpAny (model X.prog X.w) X.A (eval e X.env) (λv s1=>wpAny (model X.prog X.w) X.A (pyIter v) (Gk X pins σ tg Rr) X.xe s1) X.xe s:=by
 unfold F8 at he;by_cases hn:isNm e=true
 ·rw[if_pos hn]at he;cases he;cases cs with
  | nil=>exact hs.elim
  | cons c cs=>cases cs with
   | cons _ _=>exact hs.2.2.2.elim
   | nil =>
    rw[hΦ]at ed;obtain⟨f,ks,vs,rfl,rfl⟩:=Cm ed;cases ei;obtain⟨x,ex,bV⟩:=af bV;cases bV;refine cI (hs.1 pins s σ H _ I (tD.intro Si ex (Q:=λv H1=>ak H H1/\bM X.K (gP X F) R τ (iB c) H H1 v (.bY f ks vs)) λv H1 e1 r1=>⟨e1,r1⟩)) λu s1 ⟨v,H1,I1,rv,e1,r1⟩=>?_;obtain⟨τt,fr,q1⟩:=id r1;cases q1 with
    | @bY _ p _ as ys ep _ _ Gu hk hr =>
     cases rv;have hd:=Gu.dat;obtain⟨es,MM,hz,oX,RZ,hlen,Iu⟩:=uT I1 hd;refine A2 Iu MM ?_;have hb:s1.heap.objs.size<=s1.heap.objs.size:=aas _;refine⟨s1.heap.objs.size,[s1.heap.objs.size],_,Itd p ks as ys ep,H1,rfl,I1.kept (t':=s1.toks) (λb o e=>aar _ e),Bx p s1.heap.objs.size ks as ys ep,⟨_,aaw _ rfl,rfl,by rw[hz];rfl⟩,λb hb=>?_,hR _ H1 [.ref p] e1 (bR.cons e1 (ak.refl _) (r1.mono λj hj=>aaG _ hj) ⟨λ_=>none,λ_ _ h=>by simp at h,.nil⟩) ?_⟩
     ·have:b=s1.heap.objs.size:=by simpa using hb
      subst this;exact I1.Fz (aas _) (I1.bQ.fresh (aas _))
     ·rw[gA];have jO:∀ H',uF X.K H1 [.ref p] [.bY f ks vs] H'->H' p=some (.ext (DO p ks as ys ep)):=λH' st=>by
       obtain⟨R0,rs0,hl⟩:=st.n0;cases rs0 with
       | cons h0 _=>cases h0 with
        | bY h1 _ _ =>
         cases f with
         | sc=>exact h1.elim
         | ow=>exact hl p _ h1.2 hd
         | fz=>exact hl p _ h1.2 hd
         | al=>exact hl p _ h1.2 hd
      refine⟨λi H' R' st rs hi=>⟨jO H' st,by rw[List.length_map]at hi;left⟩,λi H' R' x oD st rs hi hy=>?_,λi H' R' st rs hi=>⟨jO H' st,by rw[List.length_map]at hi;left⟩⟩;obtain⟨rfl,a,ha,rfl⟩:=hy;rw[List.length_map]at hi;refine⟨ak.refl _,gR ks[i],by rw[List.getElem?_map,List.getElem?_eq_getElem hi];rfl,Ac (st.tp _ _ (hk.tup i a _ ha (aay hi)))⟩
 ·rw[if_neg hn]at he;cases he
theorem zB(hc:X.calm=true)(hu:X.A.units+2<cLine):gj X (.builtin "sorted") (λxs H Q=>∃(d:Addr) (cs:List (List Int)) (as:List Addr) (ys:List V) (ep:Nat),xs=[.ref d]/\H d=some (.ext (DO d cs as ys ep))/\eK (aG X.K H) as cs/\cs.length<64 /\
  ∀(l:Addr) (bs:List Addr),H l=none->eK (aG X.K H) bs (bj cs)->Q (.ref l) (upd H l (.lst (bs.map V.ref)))):=by
 intro pins s σ H xs us Q I r h;obtain⟨d,cs,as,ys,ep,rfl,hd,hk,wt,q⟩:=h;obtain⟨u,rfl,ru⟩:=r.one;cases ru;obtain⟨es,MM,hz,oX,RZ,hlen,Iu⟩:=uT I hd;have ht:tG s.heap (es.toList.map (·.key)) cs:=by
  rw[oX];refine⟨by rw[List.length_map,hlen],λi ns e=>?_⟩;have hi:i<as.length:=by rw[hlen];exact(List.getElem?_eq_some_iff.mp e).1
  obtain⟨Ii,rj,ij,_⟩:=I.tuple (hk.tup i as[i] ns (aay hi) e);exact⟨as[i],Ii,by rw[List.getElem?_map,List.getElem?_eq_getElem hi];rfl,ij,dF rj⟩
 refine wO (I.ok.hd hc) hu Iu MM (by rw[hz,hlen];exact wt) RZ ht λS h' tk e p hS O1 hp hs hl=>?_;rw[oX]at hl;have WG:(p.toList.map λi=>(as.map Value.ref).getD i Value.none)=(p.toList.map λi=>as.getD i 0).map Value.ref:=by
  rw[List.map_map];refine aaz λi hi=>?_;have mM:i<as.length:=by
   have:=List.mem_range.mp (hp.pm.mem_iff.mp hi);left
  simp[mM]
 rw[WG]at hl;have W6:eK (aG X.K H) (p.toList.map λi=>as.getD i 0) (bj cs):=by
  rw[<- hs];refine⟨by simp,λj a c h1 h2=>?_⟩;rw[List.getElem?_map]at h1 h2;cases hj:p.toList[j]? with
  | none=>rw[hj]at h1;exact nk h1
  | some i =>
   rw[hj]at h1 h2;have mM:i<as.length:=by
    have:=List.mem_range.mp (hp.pm.mem_iff.mp (aaB hj));left
   cases h1;cases h2;exact hk.tup i _ _ (by simp[mM]) (by simp[show i<cs.length by left])
 have RH:∀ l:List Addr,Vals (l.map V.ref) (l.map Value.ref):=λl=>by
  induction l with
  | nil=>exact .nil
  | cons a l ih=>exact .cons rfl ih
 have hsz:sizeLine=16777216:=abi;obtain⟨hn,I'⟩:=Inv.Ru (t':=tk) (o:=.lst ((p.toList.map λi=>as.getD i 0).map V.ref)) I O1 hS ⟨by rw[List.length_map,List.length_map,Array.length_toList,hp.sz];left,_,e,RH _,hl⟩;exact⟨.ref S,_,I',rfl,q S _ hn W6⟩
def nS(xs:List D):O D:=match one xs with
 | some d=>match iE d with
  | some z=>if z.1.length<64 then ok (.lst .ow ((bj z.1).map gR))else none
  | none=>none
 | none=>none
theorem Ck{r:D}(h:nS xs=ok r):∃ f cs vs,xs=[.bY f cs vs]/\cs.length<64/\r=.lst .ow ((bj cs).map gR):=by
 unfold nS at h;cases h1:one xs with
 | none=>rw[h1]at h;exact nk h
 | some d =>
  rw[h1]at h;have h:(match iE d with | some z=>if z.1.length<64 then ok (D.lst .ow ((bj z.1).map gR))else none | none=>none)=ok r:=h;cases h2:iE d with
  | none=>rw[h2]at h;exact nk h
  | some z =>
   rw[h2]at h;obtain⟨hl,rfl⟩:=wq (show(if z.1.length<64 then ok (D.lst .ow ((bj z.1).map gR))else none)=ok r from h);obtain⟨f,e⟩:=mS h2;exact⟨f,z.1,z.2,by rw[b8 h1,e],hl,rfl⟩
theorem tZ{T:pH}{N:ir}:∀ {bs:List Addr} {cs:List (List Int)} {k:aL} {n:Nat},eK T bs cs->ah T N k n (bs.map V.ref) (cs.map gR)
 | [],[],_,_,_=>.nil
 | [],_::_,_,_,h=>by have:=h.len;simp at this
 | _::_,[],_,_,h=>by have:=h.len;simp at this
 | b::bs,c::cs,_,_,h=>.cons (Ac (h.tup 0 b c rfl rfl)) (tZ ⟨by have:=h.len;simpa using this,λj a c' h1 h2=>h.tup (j+1) a c' h1 h2⟩)
theorem FQ{n:Nat}(hΦ:Φ n=nS){sc:Scope}{bl:List Str}{k:Nat}(L:PX X sc bl k){e:Expr}(he:vQ ("sorted" : Str) sc bl e=some args)(hs:sH X F Φ cs args):PE X e (tD X F Φ (.cw n cs))/\PT X e (iK X F Φ (.cw n cs)):=by
 obtain⟨p,pos,a,rfl,rfl,h1,h2⟩:=Ct he;cases cs with
 | nil=>exact hs.elim
 | cons c cs=>cases cs with
  | cons _ _=>exact hs.2.2.2.elim
  | nil =>
   have pa:PA X [a] (yg X F Φ [c]):=PA.imp (cm hs.1 (PA.imp gS λ_ _ _ h=>pN h) (hs.2.1 _)) λ_ _ _ h=>jN h;have hu:X.A.units+2<cLine:=aax (Nat.add_le_add_left (by decide:2<=64) _) L.room.units;have this:PE X (.Call (.Name ("sorted" : Str) p) [a] [] pos) (tD X F Φ (.cw n [c])):=by
    refine PE.imp (eI (zB L.calm hu) (L.gl h1) (L.bl _ h2) (by decide +kernel) pa (he:=hs.2.1 _)) λσ H Q hq=>?_;obtain⟨R,τ,ρ,d,Si,ev,hq⟩:=hq;obtain⟨xs,bV,ev⟩:=af ev;rw[hΦ]at ev;obtain⟨f,ks,vs,rfl,hl,rfl⟩:=Ck ev;refine⟨R,τ,ρ,_,Si,bV,λus H1 e1 r1=>?_⟩;obtain⟨τt,fr,rs⟩:=r1;obtain⟨v,rfl,rv⟩:=rs.one;cases rv with
    | bY hn hk hr =>
     refine⟨_,ks,_,_,_,rfl,hn.dat,hk,hl,λl bs vp W6=>hq _ _ (e1.trans (ak.upd vp)) (bM.BQ (e1.free vp) (e1.trans (ak.upd vp)) aH ?_)⟩;exact tZ (W6.imp λ_ _ h=>aG.same (ak.upd vp) h)
   exact⟨this,cP this λ_=>rfl⟩
structure Seen(K:PySem.W.Frag)(H:Hp)(x:V)(d:D):Prop where
 ex:∃(N:ir) (k:aL),Rep (aG K H) N k x d/\∀ q p xs f,N q p (.l xs) f->cV K H p xs
structure Tw(K:PySem.W.Frag)(H:Hp)(xs:List V)(ds:List D):Prop where
 ex:∃(N:ir) (k:aL),ah (aG K H) N k 0 xs ds/\∀ q p xs f,N q p (.l xs) f->cV K H p xs
section
variable {X:Cx}
open Classical in
end
section
variable {prog:Program}{w:World}{A:Around}{E:Value->Shared->Prop}{s:Shared}
end
open Classical in
section
variable {prog:Program}{w:World}{A:Around}{E:Value->Shared->Prop}{s:Shared}
end
def Zr(xs:List D):O D:=match two xs with
 | some z=>match z.2 with
  | .lst _ ds=>if cQ 8 z.1=true/\ds.all (cQ 8)=true then ok (.bl (ds.any λd=>jH d z.1))else none
  | _=>none
 | none=>none
theorem ME{x y d:D}(h:Zr [x,y]=ok d):∃ f ds,y=.lst f ds/\cQ 8 x=true/\ds.all (cQ 8)=true/\d=.bl (ds.any λd=>jH d x):=by
 cases y<;>first | (cases h;done) | skip
 rename_i f ds;obtain⟨⟨h1,h2⟩,h3⟩:=wq h;exact⟨f,ds,rfl,h1,h2,h3.symm⟩
def YY(K:PySem.W.Frag):R2:=λx y H Q=>∃ p xs ds d,y=.ref p/\cV K H p xs/\Tw K H xs ds/\Seen K H x d/\cQ 8 d=true/\ds.all (cQ 8)=true/\Q (.bl (ds.any λe=>jH e d)) H
section
variable {X:Cx}
open Classical in
theorem JZ(hu:X.A.units+1+8<cLine):lh X (compareOp .In) (YY X.K):=by
 intro pins s σ H x y v u Q I rx ry h;obtain⟨p,xs,ds,d,rfl,hq,⟨N,k,rs,hN⟩,⟨N',k',rp,CP⟩,ho,hos,q⟩:=h;cases ry;obtain⟨ao,r,pl,hz⟩:=I.list hq;have at_:∀(j:Nat) (w:Value),ao[j]?=some w->∃ e,ds[j]?=some e/\SeqAt.EqAt X.A.in1 s w v (jH e d):=λj w hw=>by
  have WY:j<xs.length:=by rw[r.length];exact(List.getElem?_eq_some_iff.mp hw).1
  have CN:xs[j]?=some xs[j]:=aay WY;obtain⟨w',Zx,rx'⟩:=r.get CN;rw[hw]at Zx;cases Zx;obtain⟨e,he,re⟩:=rs.zh CN;exact⟨e,he,(alike I hN CP 8 X.A.in1 re rp (List.all_eq_true.mp hos e (aaB he)) ho rx' rx (by show X.A.units+1+8<cLine;exact hu)).eq⟩
 let e:Value->Bool:=λw=>decide (∃(j:Nat) (c:D),ao[j]?=some w/\ds[j]?=some c/\jH c d=true)
 refine SeqAt.in_listAt e pl.isList (λw hw=>?_) ⟨.bl _,H,I,rfl,?_⟩
 ·obtain⟨j,hj⟩:=List.mem_iff_getElem?.mp (show w∈ao by simpa using hw);by_cases he:∃(j:Nat) (c:D),ao[j]?=some w/\ds[j]?=some c/\jH c d=true
  ·have:e w=true:=aaT he;rw[this];obtain⟨j',c,h1,h2,h3⟩:=he;obtain⟨c',h4,h5⟩:=at_ j' w h1;rw[h2]at h4;cases h4;rw[h3]at h5;exact h5
  ·have:e w=false:=aaX he;rw[this];obtain⟨c,h4,h5⟩:=at_ j w hj;have:jH c d=false:=by
    cases hb:jH c d with
    | false=>rfl
    | true=>exact absurd ⟨j,c,hj,h4,hb⟩ he
   rw[this]at h5;exact h5
 ·have:ao.toArray.any e=ds.any λc=>jH c d:=by
   rw[show ao.toArray.any e=ao.any e by simp];apply Bool.eq_iff_iff.mpr;rw[List.any_eq_true,List.any_eq_true];constructor
   ·rintro ⟨w,hw,he⟩;obtain⟨j,c,h1,h2,h3⟩:=aak he;exact⟨c,aaB h2,h3⟩
   ·rintro ⟨c,hc,h3⟩;obtain⟨j,hj⟩:=List.mem_iff_getElem?.mp hc;obtain⟨x',CN,_⟩:=rs.get hj;obtain⟨w,hw,_⟩:=r.get CN;exact⟨w,aaB hw,aaT ⟨j,c,hw,hj,h3⟩⟩
  rw[this];exact q
end
def F6(_:Scope)(_:List Str)(e:Expr):Option (List Expr):=match wz e with
 | some z=>match one z.2.2 with
  | some r=>if z.2.1=[.In]/\ff r=true then some [z.1,r]else none
  | none=>none
 | none=>none
theorem F5{sc:Scope}{bl:List Str}{e:Expr}(h:F6 sc bl e=some args):∃ l r p,e=.Compare l [.In] [r] p/\args=[l,r]/\ff r=true:=by
 unfold F6 at h;cases hv:wz e with
 | none=>rw[hv]at h;cases h
 | some z =>
  obtain⟨l,os,rs⟩:=z;rw[hv]at h;obtain⟨p,rfl⟩:=pI hv;replace h:(match one rs with | some r=>if os=[.In]/\ff r=true then some [l,r]else none | none=>none)=some args:=h;cases hw:one rs with
  | none=>rw[hw]at h;cases h
  | some r =>
   rw[hw]at h;replace h:(if os=[.In]/\ff r=true then some [l,r]else none)=some args:=h;obtain rfl:=b8 hw;by_cases hc:os=[.In]/\ff r=true
   ·rw[if_pos hc]at h;cases h;obtain⟨hc,hn⟩:=hc;subst hc;exact⟨l,r,p,rfl,rfl,hn⟩
   ·rw[if_neg hc]at h;cases h
theorem Zq{n:Nat}(hΦ:Φ n=Zr){sc:Scope}{bl:List Str}{k:Nat}(L:PX X sc bl k){e:Expr}(he:F6 sc bl e=some args)(hs:sH X F Φ cs args):PE X e (tD X F Φ (.cw n cs))/\PT X e (iK X F Φ (.cw n cs)):=by
 obtain⟨l,r,p,rfl,rfl,hn⟩:=F5 he;have hu:X.A.units+1+8<cLine:=by have:=L.room.units;left
 cases cs with
 | nil=>exact hs.elim
 | cons c cs=>cases cs with
  | nil=>exact hs.2.2.2.elim
  | cons c' cs=>cases cs with
   | cons _ _=>exact hs.2.2.2.2.2.2.elim
   | nil =>
    obtain⟨h1,_,_,h2,_,_,_⟩:=hs;have key:∀ {σ:St} {H:Hp} {R:Addr->Prop} {τ:Addr->Option aL} {ρ:aD} {d:D} {Q:VK},SI X F R τ ρ σ H->aK Φ (.cw n [c,c']) ρ=ok d->(∀ b H2,d=.bl b->ak H H2->Q (.bl b) H2)->Gp (YY X.K) (tD X F Φ c) (tD X F Φ c') σ H Q:=by
     intro σ H R τ ρ d Q Si ev hq;obtain⟨xs,bV,ev⟩:=af ev;obtain⟨x,ex,bV⟩:=af bV;obtain⟨ys,rE,bV⟩:=af bV;cases bV;obtain⟨y,ey,rE⟩:=af rE;cases rE;rw[hΦ]at ev;obtain⟨f,ds,rfl,ha,hb,rfl⟩:=ME ev;refine tD.intro Si ex λv H1 e1 r1=>tD.intro (Si.go e1) ey λu H2 e2 r2=>?_;obtain⟨_,_,p1⟩:=r1.go e2;obtain⟨_,_,p2⟩:=r2;obtain⟨_,_,rfl,t2,s2⟩:=p2.uG;exact⟨_,_,_,_,rfl,t2.sq,⟨_,_,s2,λq p xs f h=>h.sq⟩,⟨_,_,p1,λq p xs f h=>h.sq⟩,ha,hb,hq _ H2 rfl (e1.trans e2)⟩
    refine⟨PE.imp (pU (JZ hu) h1 h2 (nK hn)) λσ H Q hq=>?_,PT.imp (pS (JZ hu) h1 h2 (nK hn)) λσ H Q hq=>?_⟩
    ·obtain⟨R,τ,ρ,d,Si,ev,hq⟩:=hq;exact key Si ev λb H2 e es=>hq _ H2 es (by subst e;exact .bl)
    ·obtain⟨R,τ,ρ,b,Si,ev,hq⟩:=hq;obtain⟨d,ed,et⟩:=af ev;refine key Si ed λb' H2 e es=>?_;subst e;cases et;exact⟨_,rfl,hq H2 es⟩
end DI
end
section
namespace DI
open PySem PySem.Spec PyProof.Rows PySem.W
structure XC(K:Frag)(C:Addr):Prop where
 ga:findIn K (.ref C) "__getattribute__" = some (some (.builtin "BaseException.__getattribute__"))
 gt:findIn K (.ref C) "__getattr__" = some none
 cl:findIn K (.ref C) "__class__" = some (some (.builtin "object.__class__"))
 be:mroIn K C (.type "BaseException")=some true
 ob:mroIn K C (.type "object")=some true
 cs:(clsIn K C).isSome=true
section
variable {prog:Program}{w:World}{A:Around}{E:Value->Shared->Prop}{h:Heap}{g:Array GenState}{d:Drawn}{t:Nat}{os:OsState}{K:Frag}{x C:Addr}{o:Obj}
theorem U2{R:Result->Shared->Prop}(Z:XC K C)(X:K.In h)(hx:h.get? x=some o)(hc:o.cls=.ref C)(hq:R (.ok (.ret (.ref C))) ⟨h,g,d,t,os⟩):
  codeAny (model prog w) A (.call (.builtin "getset_descriptor.__get__") ⟨[.builtin "object.__class__",.ref x,.ref C],[]⟩) R ⟨h,g,d,t,os⟩:=by
 have L1:=looks_mroIn (M:=model prog w) X Z.ob;refine ab1 KF.slot_gs.plain KF.entry_gs (KF.slot_gs.check _ _ _ _ _ _ _ _ KF.type_class (KF.args_gs _ _ _) ?_);have hT5:(⟨h,g,d,t,os⟩:Shared).TypeIs (.builtin "object.__class__") "getset_descriptor":=abT;have e1:(".".intercalate ("object.__class__".cutAt '.').dropLast) = "object":=F.owner_object_class
 repeat (any_goals (first | assumption | (with_reducible refine aa0 hx ?_;rw[hc]) | (with_reducible refine L1.at ?_) | (rw[e1];with_reducible refine L1.at ?_) | wp_step))
 refine⟨aca _ (by decide +kernel),abg F.entry_object_class ?_⟩
 repeat (any_goals (first | assumption | (with_reducible refine aa0 hx ?_;rw[hc]) | wp_step))
theorem KD{tk:Tok}{Q:Fin->Shared->Prop}(Z:XC K C)(X:K.In h)(hx:h.get? x=some o)(hc:o.cls=.ref C)(hq:Q (.done (.ret (.ref C))) ⟨h,g,d,t,os⟩):
  wpAny (model prog w) A (Builtin.«object.__getattribute__» ⟨[.ref x,.str "__class__" tk],[]⟩) Q E ⟨h,g,d,t,os⟩:=by
 have hT5:(⟨h,g,d,t,os⟩:Shared).TypeIs (.builtin "object.__class__") "getset_descriptor":=abT;have f5:=abT;have f6:=F.slot_gs_get.lookup;have f7:=F.slot_gs_set.lookup;have L1:=looks_findIn (M:=model prog w) X Z.cl
 repeat (any_goals (first | assumption | (with_reducible refine aa0 hx ?_;rw[hc]) | (with_reducible refine L1.at ?_) | wp_step))
 refine U2 Z X hx hc ?_
 repeat (any_goals (first | assumption | wp_step))
theorem KG{M:Model}{J3:Value}{Q:Unit->Shared->Prop}(Z:XC K C)(X:K.In h)(hx:h.get? x=some o)(hc:o.cls=.ref C)(hq:Q () ⟨h,g,d,t,os⟩):
  wpAny M A (checkBuiltinCall "BaseException.__getattribute__" ⟨[.ref x,J3],[]⟩) Q E ⟨h,g,d,t,os⟩:=by
 have hk:builtinKind "BaseException.__getattribute__" = some .slot:=by decide +kernel
 have MK:splitId "BaseException.__getattribute__" = some ("BaseException","__getattribute__"):=by decide +kernel
 have L1:=looks_mroIn (M:=M) X Z.be;have ha:=F.args_bexc_ga (.ref x) J3;simp only[checkBuiltinCall,hk,MK];refine aah ?_
 ·unfold isInstance
  repeat (first | (with_reducible refine aa0 hx ?_;rw[hc]) | (with_reducible refine L1.at ?_) | wp_step)
  exact hq
theorem Pp{tk:Tok}{R:Result->Shared->Prop}(B:ExcAttrFacts "ValueError")(Z:XC K C)(X:K.In h)(hx:h.get? x=some o)(hc:o.cls=.ref C)(hq:R (.ok (.ret (.ref C))) ⟨h,g,d,t,os⟩):
  codeAny (model prog w) A (.call (.builtin "BaseException.__getattribute__") ⟨[.ref x,.str "__class__" tk],[]⟩) R ⟨h,g,d,t,os⟩ :=
 ab1 B.ga.plain F.entry_bexc_ga (KG Z X hx hc (KD Z X hx hc hq))
theorem xby{tk:Tok}{Q:Value->Shared->Prop}(B:ExcAttrFacts "ValueError")(Z:XC K C)(X:K.In h)(hx:h.get? x=some o)(hc:o.cls=.ref C)(hq:Q (.ref C) ⟨h,g,d,t,os⟩):
  wpAny (model prog w) A (getAttrBy (.ref x) (.str "__class__" tk) false) Q E ⟨h,g,d,t,os⟩:=by
 have f3:=B.ga.bind (.ref x);have hx0:(false&&onTheHeap (Value.builtin "BaseException.__getattribute__"))=false:=rfl;have hx2:(Value.builtin "BaseException.__getattribute__" == Value.builtin "object.__getattribute__")=false:=by decide +kernel
 have hx1:(onTheHeap (Value.ref C)&&Value.builtin "BaseException.__getattribute__" == Value.builtin "object.__getattribute__")=false:=by rw[hx2];rfl
 have L1:=looks_findIn (M:=model prog w) X Z.ga;have L2:=looks_findIn (M:=model prog w) X Z.gt
 repeat (any_goals (first | assumption | (with_reducible refine aa0 hx ?_;rw[hc]) | (with_reducible refine L1.at ?_) | (with_reducible refine L2.at ?_) | wp_step))
 refine Pp B Z X hx hc ?_
 repeat (any_goals (first | assumption | wp_step))
theorem Pr{Q:Option Value->Shared->Prop}(B:ExcAttrFacts "ValueError")(Z:XC K C)(X:K.In h)(hx:h.get? x=some o)(hc:o.cls=.ref C)(hq:Q (some (.ref C)) ⟨h,g,d,t+1,os⟩):
  wpAny (model prog w) A (getAttr? (.ref x) "__class__") Q E ⟨h,g,d,t,os⟩:=by
 unfold getAttr? getAttrBy?
 repeat (any_goals (first | assumption | with_reducible apply xby B Z X hx hc | wp_step))
end
noncomputable def GD(x C:Addr)(h:Heap):Prop:=∃ o,h.get? x=some o/\o.cls=.ref C
theorem EB{K:Frag}{x C:Addr}(B:ExcAttrFacts "ValueError")(Z:XC K C):KitX K (.ref x) (.ref C) (GD x C) where
 ty:=λM h _ p=>by
  obtain⟨o,h1,h2⟩:=p;exact h2▸(Looks.ld h1).andThen .now
 it:=λ_ _ X _=>by
  obtain⟨cdD,MX⟩:=Option.isSome_iff_exists.mp Z.cs;unfold clsIn at MX;split at MX
  ·rename_i c' d' cd' Vy ho;intro A' Q' E' s' k q;unfold isType loadHead;exact aah (wpAny_loadPart (k _ _ (X _ _ ho)) (aaq q))
  ·cases MX
 ne:=λh tp dd ao n sl X htp=>by
  obtain⟨cdD,MX⟩:=Option.isSome_iff_exists.mp Z.cs;refine Bool.eq_false_iff.mpr λq=>?_;have e:C=tp:=Value.ref.inj (beq_iff_eq.mp q);subst e;unfold clsIn at MX;split at MX
  ·rename_i c' d' cd' Vy ho;have z:=(X _ _ ho).symm.trans htp;cases z
  ·cases MX
 ca:=λ{prog w A E Q s} X p k=>by
  obtain⟨o,h1,h2⟩:=p;obtain⟨h,g,d,t,os⟩:=s;exact Pr B Z X h1 h2 k
end DI
end
section
namespace DI
open PySem PySem.Spec PyProof.Rows L2
variable {H H' H1:Hp}{P:Program}{w:World}
theorem oT{h:Heap}{a:Addr}{o:HO}(x:b7 P w H h a o):∃ u,h.get? a=some u:=by
 cases o with
 | lst xs=>obtain⟨_,_,_,_,e⟩:=x;exact⟨_,e⟩
 | tup xs=>obtain⟨_,_,_,o,e,_⟩:=x;exact⟨_,e⟩
 | dK o_=>obtain⟨_,_,_,_,o,_,_,e,_⟩:=x;exact⟨_,e⟩
 | dT o_=>obtain⟨_,_,_,_,o,_,_,e,_⟩:=x;exact⟨_,e⟩
 | set S n=>obtain⟨o,_,_,_,e,_⟩:=x;exact⟨_,e⟩
 | ins C dx fs=>obtain⟨_,_,_,e,_⟩:=x;exact⟨_,e⟩
 | own y=>obtain⟨_,e⟩:=x;exact⟨_,e⟩
 | xd fs=>obtain⟨_,⟨_,_,_,e,_⟩,_⟩:=x;exact⟨_,e⟩
 | k9 lo hi=>obtain⟨_,_,_,e⟩:=x;exact⟨_,e⟩
 | iC ob u=>obtain⟨e,_⟩:=x;exact⟨_,e⟩
 | G9 ps=>exact⟨_,(show h.get? a=some _ from x)⟩
 | met f y=>exact⟨_,(show h.get? a=some _ from x)⟩
 | ext φ=>obtain⟨_,⟨_,e⟩,_⟩:=x;exact⟨_,e⟩
def U1(l:List Env)(H':Hp)(h h' B:Heap):Prop:=∀ b o,h'.get? b=some o->b∉nP l->(H' b≠none\/h.get? b≠none)->B.get? b=some o
variable {B base h' h2 h3:Heap}
theorem moved{l:List Env}{h:Heap}(un:Un (nP l) [] H H' h h2)(bQ:kT P w H' h2)(GC:U1 l H' h h2 B)(fu:h.FunFrames base l)(CQ:∀ b∈nP l,H b=none)
  (st:B.StaysIn h3) (sl:h2.UpToSlots h3):Un (nP l) [] H H' h h3/\kT P w H' h3/\U1 l H' h h3 B:=by
 have fr:∀ b∈nP l,H' b=none:=λb hb=>by
  obtain⟨_,o,ho,_⟩:=fu.mem hb;exact un.free b o ho (CQ b hb) (by simp)
 have keep:∀ b o,h2.get? b=some o->b∉nP l->(H' b≠none\/h.get? b≠none)->h3.get? b=some o:=λb o e hb hc=>st b o (GC b o e hb hc);have slot:∀ b o,h.get? b=some o->b∈nP l->∃ sl,h3.get? b=some { o with slots:=sl }:=λb o e hb=>by
  obtain⟨sl1,e1⟩:=un.slot b o e (CQ b hb) hb (by simp);obtain⟨_,o',gE,nf⟩:=fu.mem hb;rw[e]at gE;cases gE;obtain⟨zW,e2⟩:=sl b _ e1 (λvs z=>nf vs z);exact⟨zW,e2⟩
 refine⟨⟨λb o e n hb _=>keep b o (un.keep b o e n hb (by simp)) hb (.inr (by rw[e];simp)),λb o e n hb _=>slot b o e hb,un.free,λb o e _=>?_,un.o5,un.nN,un.o6⟩,λa o e=>?_,λb o e hb hc=>?_⟩
 ·by_cases hb:b∈nP l
  ·obtain⟨s1,e1⟩:=slot b o e hb;exact⟨_,e1⟩
  ·obtain⟨o',e1⟩:=un.there b o e (by simp);exact⟨o',keep b o' e1 hb (.inr (by rw[e];simp))⟩
 ·refine(bQ a o e).jO (λb u hb q=>?_) (λ_ q=>q) λ_ _ q=>q;have ht:H' b≠none:=by
   rcases hb with rfl | hb
   ·rw[e];simp
   ·rw[hb];simp
  exact keep b u q (λz=>ht (fr b z)) (.inl ht)
 ·have:∃ o2,h2.get? b=some o2:=by
   rcases hc with hc | hc
   ·cases q:H' b with
    | none=>exact absurd q hc
    | some u=>exact oT (bQ b u q)
   ·cases q:h.get? b with
    | none=>exact absurd q hc
    | some u=>exact un.there b u q (by simp)
  obtain⟨o2,e2⟩:=this;have e3:=keep b o2 e2 hb hc;rw[e]at e3;cases e3;exact GC b _ e2 hb hc
structure UY(P:Program)(w:World)(C:Addr)(l:List Env)(H:Hp)(s:Shared)(e:Addr)(H':Hp)(s':Shared):Prop where
 fly:∃ t B,Heap.FlyingW B l e (.ref C) (.ref t) s'.heap/\U1 l H' s.heap s'.heap B
 os:s'.os=s.os
 bare:AllBare s'.gens
 un:Un (nP l) [] H H' s.heap s'.heap
 bQ:kT P w H' s'.heap
noncomputable abbrev sE(P:Program)(w:World)(C:Addr):Bp:=λl H s E e s'=>∃ ea H',e=.ref ea/\UY P w C l H s ea H' s'/\E (.ref C) none H'
theorem xN{l:List Env}{e:Addr}{cls a0:Value}{h:Heap}(f:Heap.FlyingW B l e cls a0 h):e∉nP l:=λhm=>by
 obtain⟨_,o,ho,nf⟩:=f.2.2.1.mem hm;obtain⟨oe,vs,he,_,hd,_⟩:=f.first;rw[ho]at he;cases he;exact nf vs hd
variable {C ea f':Addr}
theorem UY.new{l:List Env}{s s':Shared}{e:Addr}(f:UY P w C l H s e H' s'):H' e=none/\s.heap.get? e=none:=by
 obtain⟨t,B,fw,GC⟩:=f.fly;obtain⟨oe,vs,he,_⟩:=fw.first;have key:¬ (H' e≠none\/s.heap.get? e≠none):=λz=>by
  have:=GC e oe he (xN fw) z;rw[fw.2.1]at this;cases this
 exact⟨Classical.not_not.mp λz=>key (.inl z),Classical.not_not.mp λz=>key (.inr z)⟩
variable {s1:Shared}{σ:L2.St}
section
variable {P:Program}{w:World}{C:Addr}{K:PySem.W.Frag}{mg:Str->Option Value}{base:Heap}{N:List Str}{qual:Str}{scope:Scope}{f:Addr}{cd:Value}{A:Around}{outer:List Env}{s:Shared}{H:Hp}{E:XK}
theorem left{pins:List (Addr×Obj)}{s2:Shared}{t:Addr}
  (I:Inv (j7 (sE P w C) P w K mg base N qual scope f cd A outer s H E) pins σ H1 s1)
  (un:Un (nP (j7 (sE P w C) P w K mg base N qual scope f cd A outer s H E).stack) [] H1 H' s1.heap h2) (bQ:kT P w H' h2) (GC:U1 (j7 (sE P w C) P w K mg base N qual scope f cd A outer s H E).stack H' s1.heap h2 B)
  (fw:Heap.FlyingW B outer ea (.ref C) (.ref t) h3) (sl:h2.UpToSlots h3) (os:s2.os=s1.os) (bare:AllBare s2.gens):UY P w C outer H s ea H' { s2 with heap:=h3 }:=by
 obtain⟨un3,RV,Yc⟩:=moved un bQ GC I.stack I.mj fw.1 sl;have J:=I.Ba (s':={ s2 with heap:=h3 }) (ch:=[]) os un3 RV bare λ_ z=>nomatch z;refine⟨⟨t,B,fw,λb o e hb hc=>?_⟩,J.os,bare,J.base,RV⟩;have hbL:b≠s.heap.objs.size:=by
  rcases hc with hc | hc
  ·rintro rfl;exact hc J.free
  ·rintro rfl;exact hc (Heap.get?_none_of_le (aas _))
 refine Yc b o e (λz=>?_) ?_
 ·rcases List.mem_cons.mp (I.ll b z)with z | z
  ·exact hbL z
  ·exact hb z
 ·rcases hc with hc | hc
  ·exact .inl hc
  ·right;cases q:s.heap.get? b with
   | none=>exact absurd q hc
   | some u =>
    obtain⟨o',e'⟩:=I.base.there b u q (by intro z;cases z);rw[e'];simp
theorem QT{E1:XK}(hE:∀ H',E1 (.ref C) none H'->E (.ref C) none H'):Passes (sE P w C) (j7 (sE P w C) P w K mg base N qual scope f cd A outer s H E) E1:=by
 intro pins σ H1 s1 e s2 I hx;obtain⟨ea,H',rfl,⟨⟨t,B,fw,GC⟩,os,bare,un,bQ⟩,he⟩:=hx;show wpAny (model P w) _ (leaving _ (.ref ea)) _ _ s2;refine wpAny_leaves_onW (L:=s.heap.objs.size) I.ok.frames rfl fw λh' fw' sl=>?_;exact⟨ea,H',rfl,left I un bQ GC fw' sl os bare,hE H' he⟩
theorem HC{pins:List (Addr×Obj)}{vs:List Value}
  (I:Inv (j7 (sE P w C) P w K mg base N qual scope f cd A outer s H E) pins σ H1 s1) (hm:Heap.MadeExcOf s1.heap h' ea (.ref C) vs) (he:E (.ref C) none H1) :
  (j7 (sE P w C) P w K mg base N qual scope f cd A outer s H E).xe (.ref ea) { s1 with heap:=h' }:=by
 show wpAny (model P w) _ (leaving _ (.ref ea)) _ _ _
 let l:=(j7 (sE P w C) P w K mg base N qual scope f cd A outer s H E).stack
 let B:=PySem.W.hideAll s1.heap (nP l)
 have hB:B.StaysIn s1.heap:=λb o e=>PySem.W.of_hideAll _ e;refine wpAny_leaves_madeW (h:=s1.heap) (base:=B) (L:=s.heap.objs.size) I.ok.frames rfl hB (PySem.W.funFrames_hide (as:=nP l) I.stack λenv he a ha=>List.mem_filterMap.mpr ⟨env,he,ha⟩) hm λZW t fw _ _ sl=>?_;refine⟨ea,H1,rfl,left (s2:=s1) (H':=H1) I (Un.kept hm.keeps) (I.bQ.kept hm.keeps) (λb o e hb hc=>?_) fw sl rfl I.bare,he⟩;have:∃ o1,s1.heap.get? b=some o1:=by
  rcases hc with hc | hc
  ·cases q:H1 b with
   | none=>exact absurd q hc
   | some u=>exact oT (I.bQ b u q)
  ·cases q:s1.heap.get? b with
   | none=>exact absurd q hc
   | some u=>exact⟨u,rfl⟩
 obtain⟨o1,e1⟩:=this;have e2:=hm.keeps b o1 e1;have e:h'.get? b=some o:=e;rw[e]at e2;cases e2;exact PySem.W.hideAll_get _ e1 hb
end
abbrev KO:List Value:=[.type "ValueError",.type "Exception",.type "BaseException",.type "object"]
noncomputable abbrev tH(x:Str)(C:Addr)(mg:Str->Option Value)(h:Heap):Prop:=OwnCls x C KO "ValueError.__new__" mg h
variable {K:PySem.W.Frag}
theorem AV(q:PySem.W.excIn K C KO "ValueError.__new__" = true):∃(dd:Option Addr) (nm:Str) (bs bm:List Value) (ns:Addr) (qn:Str) (hd:Bool) (sn:List Str) (sub:List Value) (ab:Bool) (col:Option Bool) (k0 k1 k2 k3 k5:Option Value),
  K.lookup C=some (excClassObj nm qn C ns bs bm hd sn sub ab col dd k0 k1 k2 k3 k5 "ValueError.__new__")/\PySem.W.tailIn K KO bm=true/\PySem.W.nsOkIn K ns=true/\PySem.W.nsIn K ns "__init__" = some none:=by
 unfold PySem.W.excIn at q;split at q
 case h_2=>cases q
 case h_1 dd cd sl ho =>
  split at q
  case h_2=>cases q
  case h_1 C' bm k0 k1 k2 k3 n k5 hm hs =>
   rw[Bool.and_eq_true,Bool.and_eq_true,Bool.and_eq_true,Bool.and_eq_true,Bool.and_eq_true]at q;obtain⟨⟨⟨⟨⟨e1,e2⟩,e3⟩,e4⟩,e5⟩,e6⟩:=q;have e1:=beq_iff_eq.mp e1;have e2:=beq_iff_eq.mp e2;have e6:=beq_iff_eq.mp e6;subst e1;subst e2;cases cd with
   | mk nm bs mro ns qn hd sn sub ab col del =>
    cases hm;have e3:del=false:=by simpa using e3
    subst e3;cases sl with
    | mk l =>
     cases hs;exact⟨_,_,_,_,_,_,_,_,_,_,_,_,_,_,_,_,ho,e4,e5,e6⟩
variable {mg:Str->Option Value}
theorem Aq{h:Heap}{x:Str}(X:K.In h)(G:h.Ns mainGlobals mg)(e:PySem.W.nsIn K mainGlobals x=some (some (.ref C)))(q:PySem.W.excIn K C KO "ValueError.__new__" = true):tH x C mg h:=by
 obtain⟨_,_,_,_,_,_,_,_,_,_,_,_,_,_,_,_,ho,e4,e5,e6⟩:=AV q;exact⟨aaY X G e,_,_,_,_,_,_,_,_,_,_,_,_,_,_,_,_,_,X _ _ ho,.of_isNs (PySem.W.isNs_of_in X e5),PySem.W.nsMap_none_of_in X e5 e6,PySem.W.tail_of_in X e4⟩
variable {cpos ip np p1 pos rp:Pos}
section
variable {X:Cx}{C:Addr}{x:Str}
noncomputable def KY(X:Cx)(C:Addr):TS:=λD σ H=>∀ pins s h' ea vs,Inv X pins σ H s->Heap.MadeExcOf s.heap h' ea (.ref C) vs->X.xe (.ref ea) { s with heap:=h' }
theorem DV{m:Str}{j:Nat}{p:Pos}(hc:X.calm=true)(O:tH x C X.mg X.base)(hg:Gl X x)(hd:(x==("__debug__" : Str))=false):
  PS X (.Raise (some (.Call (.Name x np) [.Constant (.str m) j p] [] cpos)) none pos) (KY X C):=by
 intro pins s σ H D I hw;obtain⟨tl,N,nm,q,bs,hdct,sn,sub,ab,col,dd,k0,k1,k2,k3,k5,mN,hC,hN,R5,T⟩:=O.obj;refine wpAny_Raise_call_subT (C:=C) (nm:=nm) (q:=q) (N:=N) (bs:=bs) (bm:=tl) (hdct:=hdct) (sn:=sn) (sub:=sub) (ab:=ab) (col:=col) (dd:=dd) (k0:=k0) (k1:=k1) (k2:=k2) (k3:=k3) (k5:=k5)
  F.excBase_ValueError (mN:=mN) (T.hasType F.excBase_ValueError.hasBase) (I.ok.hd hc) rfl R5 (vi I hg O.bound ⟨rfl,?_⟩ hd)
 have he:starEach [.Constant (.str m) j p] X.env=(false,eval (.Constant (.str m) j p) X.env)::starEach [] X.env:=rfl;have hp:=cm (LH (X:=X) (x:=m) (j:=j) (pos:=p)) gS he cpos pins s σ H (λvs H'=>H'=H/\vs.length<=1) I ⟨rfl,aas 1⟩;rw[he]at hp ⊢;refine ab0 (cI hp λus s2 ⟨vs,H2,I2,r,q2,q3⟩=>?_);subst q2;exact⟨rfl,by rw[<- r.length];exact aaI q3 (by decide),I2.bk _ _ hC,hN.keeps I2.bk,T.keeps I2.bk,λh' e hm=>hw pins s2 h' e us I2 hm⟩
end
variable {X:Cx}
theorem Cx.Ok.mk'(ok:X.Ok)(e:Value)(E:Value->Shared->Prop):Cx.Ok { X with A:=X.A.mark (some e),calm:=false,xe:=E } :=
 ⟨ok.mod,ok.kind,ok.glob,ok.blt,ok.above,ok.inj,ok.has,ok.Km,(λh=>by cases h),ok.frames,ok.K3,ok.SS,ok.bs,ok.Ga,ok.xk,ok.zi,ok.lE,ok.CQ⟩
theorem EK{pins:List (Addr×Obj)}{s:Shared}(I:Inv X pins σ H s)(e:Value)(E:Value->Shared->Prop):Inv { X with A:=X.A.mark (some e),calm:=false,xe:=E } pins σ H s :=
 ⟨Cx.Ok.mk' I.ok e E,I.os,I.bare,I.base,I.loc,I.cell,I.free,I.fW,I.pin,I.bQ,I.len⟩
variable {E:Value->Shared->Prop}
theorem y_{pins:List (Addr×Obj)}{s:Shared}{e:Value}(ok:X.Ok)(I:Inv { X with A:=X.A.mark (some e),calm:=false,xe:=E } pins σ H s):Inv X pins σ H s :=
 ⟨ok,I.os,I.bare,I.base,I.loc,I.cell,I.free,I.fW,I.pin,I.bQ,I.len⟩
theorem HH{i:Nat}{x:Str}(hN:X.N[i]?=some x)(hv:Jz X.env.scope x)(hd:(x==("__debug__" : Str))=false)(xA:(x==("__classdict__" : Str))=false):PE X (.Name x pos) (uM i):=lu hN hv hd xA
noncomputable def only(n j:Nat)(v:V):St:=(List.replicate n none).set j (some v)
theorem Ef{n j i:Nat}{v w:V}(h:(only n j v)[i]?=some (some w)):i=j/\w=v:=by
 unfold only at h;by_cases hi:i=j
 ·subst hi;refine⟨rfl,?_⟩;by_cases hl:i<n
  ·rw[List.getElem?_set_self (by simpa using hl)]at h;cases h;rfl
  ·rw[List.getElem?_eq_none (by simpa using hl)]at h;cases h
 ·rw[List.getElem?_set_ne (Ne.symm hi),List.getElem?_replicate]at h;split at h<;>cases h
variable {A:Around}
section
variable {X:Cx}{C:Addr}{x n y:Str}{i j:Nat}{E1:XK}
theorem yO{M:Model}{pins:List (Addr×Obj)}{s:Shared}{v:V}{Q:Unit->Shared->Prop}(I:Inv X pins σ H s)(hl:X.env.kindOf n=some .local)(Ww:y≠n)(nd:X.N.Nodup)(hj:X.N[j]?=some y)(hv:σ[j]?=some (some v))
  (h:∀ s',Inv X pins (only X.N.length j v) H s'->Q () s'):wpAny M A (do bindName X.env n .none;unbindBehindTheSuite X.env n pos) Q E s:=by
 obtain⟨m,hn,hlk⟩:=id I.loc;have EY:(X.env.scope.kind==.class||(X.env.scope.kind==.module&&X.env.locals != X.env.globals))=false:=by rw[I.ok.kind];rfl
 refine wpAny_nameGoes_keeps hl hn EY λh' u AJ hs=>h _ ?_;have tracked:kT X.prog X.w H h':=λb ob e=>by
  refine(I.bQ b ob e).jO (λc w' hc q=>(hs.2 c ?_).trans q) (λ_ q=>q) λ_ _ q=>q;rintro rfl;rcases hc with rfl | hc
  ·rw[I.free]at e;cases e
  ·rw[I.free]at hc;cases hc
 refine⟨I.ok,I.os,I.bare,⟨λb o e n hb hx=>?_,λb o e n hb hx=>?_,I.base.free,λb o e hx=>?_,I.base.o5,I.base.nN,I.base.o6⟩,⟨_,AJ,λk z v' e1 e2 e3=>?_⟩,λz c e=>?_,I.free,I.fW,λp hp=>?_,tracked,by unfold only;simp⟩
 ·exact(hs.2 b (aat (aan (aap e) I.ok.above))).trans (I.base.keep b o e n hb hx)
 ·obtain⟨sl,e1⟩:=I.base.slot b o e n hb hx;exact⟨sl,(hs.2 b (aat (aan (aap e) I.ok.above))).trans e1⟩
 ·obtain⟨o',e1⟩:=I.base.there b o e hx;exact⟨o',(hs.2 b (aat (aan (aap e) I.ok.above))).trans e1⟩
 ·obtain⟨rfl,rfl⟩:=Ef e2;rw[hj]at e1;cases e1;obtain⟨u',r',q⟩:=hlk k y _ hj hv e3;refine⟨u',r',?_⟩;rcases q with ⟨kk,e⟩ | ⟨kk,c,e,z⟩
  ·exact .inl ⟨kk,by show(if y=n then u else m y)=_;rw[if_neg Ww];exact e⟩
  ·exact .inr ⟨kk,c,e,z.sameBut hs (I.Jl y c e)⟩
 ·obtain⟨w',z'⟩:=I.cell z c e;exact⟨w',z'.sameBut hs (I.Jl z c e)⟩
 ·obtain⟨e,n,ne,nf,d⟩:=I.pin p hp;exact⟨(hs.2 p.1 ne).trans e,n,ne,nf,d⟩
end
noncomputable abbrev Cx.wF(X:Cx)(pins:List (Addr×Obj))(E:Value->Shared->Prop):Cx:={ X with xe:=E,pn:=X.pn++pins }
section
variable {X:Cx}{C:Addr}{x n y:Str}{i j:Nat}{E1:XK}
theorem Iq{pins:List (Addr×Obj)}{s:Shared}(I:Inv X pins σ H s)(E:Value->Shared->Prop):Inv (Cx.wF X pins E) [] σ H s :=
 ⟨⟨I.ok.mod,I.ok.kind,I.ok.glob,I.ok.blt,I.ok.above,I.ok.inj,I.ok.has,I.ok.Km,I.ok.hd,I.ok.frames,I.ok.K3,I.ok.SS,I.ok.bs,I.ok.Ga,I.ok.xk,I.ok.zi,I.ok.lE,I.ok.CQ⟩,I.os,I.bare,I.base,I.loc,I.cell,I.free,I.fW,λp hp=>I.pin p (by simpa using hp),I.bQ,I.len⟩
theorem iz{pins q:List (Addr×Obj)}{s:Shared}(I:Inv (Cx.wF X pins E) q σ H s):Inv X pins σ H s :=
 ⟨⟨I.ok.mod,I.ok.kind,I.ok.glob,I.ok.blt,I.ok.above,I.ok.inj,I.ok.has,I.ok.Km,I.ok.hd,I.ok.frames,I.ok.K3,I.ok.SS,I.ok.bs,I.ok.Ga,I.ok.xk,I.ok.zi,I.ok.lE,I.ok.CQ⟩,I.os,I.bare,I.base,I.loc,I.cell,I.free,I.fW,λp hp=>I.pin p (aaG _ hp),I.bQ,I.len⟩
theorem tracked{l:List Env}{h:Heap}(un:Un (nP l) [] H H' h h')(bQ:kT P w H' h')(n1:H' ea=none)(n2:h.get? ea=none)(at_:GD ea C h'):
  Un (nP l) [] H (upd H' ea (.ext (GD ea C))) h h'/\kT P w (upd H' ea (.ext (GD ea C))) h':=by
 have ne:∀ b u,H' b=some u->b≠ea:=λb u q=>bz q n1;refine⟨⟨un.keep,un.slot,λb o e n hx=>?_,un.there,λb xs q=>?_,λb o u q=>?_,λb ps q=>?_⟩,λb u q=>?_⟩
 ·have:b≠ea:=by rintro rfl;rw[n2]at e;cases e
  rw[aA this];exact un.free b o e n hx
 ·have:=un.o5 b xs q;rw[aA (ne _ _ this)];exact this
 ·have:=un.nN b o u q;rw[aA (ne _ _ this)];exact this
 ·obtain⟨m,this⟩:=un.o6 b ps q;exact⟨m,by rw[aA (ne _ _ this)];exact this⟩
 ·by_cases hb:b=ea
  ·subst hb;rw[aH]at q;cases q;obtain⟨o,e1,e2⟩:=at_;exact⟨⟨o,e1,e2⟩,⟨o,e1⟩,λh1 h2 ⟨o,e1,e2⟩ k=>⟨o,k o e1,e2⟩⟩
  ·rw[aA hb]at q;exact(bQ b u q).jO (λ_ _ _ q=>q) (λc r=>by rw[aA (ne _ _ r)];exact r) λc xs r=>by rw[aA (ne _ _ r)];exact r
end
theorem FG{M:Model}{nm q nm' q':Str}{N B N':Addr}{bs bm bs' Yi:List Value}{hdct Sh:Bool}{sn sn':List Str}{sub Vw:List Value}{ab ab':Bool}{col Yd:Option Bool}{dd Ya:Option Addr}{k0 k1 k2 k3 k5 l0 l1 l2 l3 l5:Option Value}{newId Mc:String}
  {h:Heap} {g:Array GenState} {d:Drawn} {t:Nat} {os:OsState} {e:Addr} {oe:Obj} {Q:Bool->Shared->Prop}
  (hC:h.get? C=some (excClassObj nm q C N bs bm hdct sn sub ab col dd k0 k1 k2 k3 k5 newId)) (hB:h.get? B=some (excClassObj nm' q' B N' bs' Yi Sh sn' Vw ab' Yd Ya l0 l1 l2 l3 l5 Mc)) (he:h.get? e=some oe) (EY:oe.cls=.ref C) (xF:Yi.contains (.type "BaseException")=true) (R_:bm.contains (.ref B)=true)
  (hq:Q true ⟨h,g,d,t,os⟩):wpAny M A (excMatches (.ref e) (.ref B)) Q E ⟨h,g,d,t,os⟩:=by
 have hcB:(Value.ref B::Yi).contains (.type "BaseException")=true:=by rw[List.contains_cons,xF,Bool.or_true]
 have hcC:(Value.ref C::bm).contains (.ref B)=true:=by rw[List.contains_cons,R_,Bool.or_true]
 have f:=tc_notTuple;unfold excMatches
 repeat (first | (with_reducible refine aa0 he ?_;rw[EY]) | with_reducible refine aa0 hB ?_ | (with_reducible refine wpAny_isSubtype_exc hB ?_;rw[hcB]) | (with_reducible refine wpAny_isSubtype_exc hC ?_;rw[hcC]) | wp_step)
 exact hq
noncomputable def sk(C B:Addr)(h:Heap):Prop:=∃(nm q:Str) (N:Addr) (bs bm:List Value) (hdct:Bool) (sn:List Str) (sub:List Value) (ab:Bool) (col:Option Bool) (dd:Option Addr) (k0 k1 k2 k3 k5:Option Value) (newId:String),h.get? C=some (excClassObj nm q C N bs bm hdct sn sub ab col dd k0 k1 k2 k3 k5 newId)/\bm.contains (.ref B)=true
section
variable {X:Cx}{C B:Addr}{x n y:Str}{i j:Nat}{E1:XK}
theorem HG{body:List Stmt}{tb:TS}{p2 p3 hpos:Pos}(RL:X.stack=X.env::X.outer)(O2:X.env.frame=some X.env.locals)(O:tH x B X.mg X.base)(OS:sk C B X.base)(hg:Gl X x)(hd:(x==("__debug__" : Str))=false)
  (nd:X.N.Nodup) (hi:X.N[i]?=some n) (hj:X.N[j]?=some y) (Ww:y≠n) (ET:X.env.scope.names.lookup n=some .local) (ZC:X.env.scope.names.lookup y=some .local) (dn:(n==("__debug__" : Str))=false) (dc:(n==("__classdict__" : Str))=false)
  (MJ:swapsWith (.Name n p2) (some (.Name y p1)) p3.line (X.env)=pure false)
  (hb:∀ pn TC,Passes (sE X.prog X.w C) (Cx.wF X pn TC) E1->g9 (Cx.wF X pn TC) body tb) :
  PS X (.Try body [.ExceptHandler (some (.Name x np)) (some n) [.Assign [.Name y p1] (.Name n p2) p3] hpos] [] [] pos)
   (λD σ H=>tb D σ H/\∀ ea H',E1 (.ref C) none H'->H' ea=none->D.nx (only X.N.length j (.ref ea)) (upd H' ea (.ext (GD ea C)))):=by
 intro pins s σ H D I hw;obtain⟨hbd,hh⟩:=hw;have ok:=I.ok;refine wpAny_Try_except ?_;refine aaC (hb pins _ ?_ [] s σ H D (Iq I (λe s₁=>wpAny (model X.prog X.w) X.A (noteFrame e X.env) (λ_ s₂=>wpAny (model X.prog X.w) X.A (setFlight e none) (λ_ s₃=>wpAny (model X.prog X.w) X.A (handleBy e X.env [.ExceptHandler (some (.Name x np)) (some n) [.Assign [.Name y p1] (.Name n p2) p3] hpos]) (SP X pins D) X.xe s₃) X.xe s₂) X.xe s₁)) hbd) (λf s₁ q=>?_) (λ_ _ q=>q)
 ·intro DY σ1 H1 s1 e s2 I1 hx;obtain⟨ea,H',rfl,fl,he⟩:=hx;obtain⟨n1,n2⟩:=fl.new;obtain⟨⟨t,B,fw,GC⟩,os,bare,un,bQ⟩:=fl;have I1:Inv X pins σ1 H1 s1:=iz I1;have fw:Heap.FlyingW B (X.env::X.outer) ea (.ref C) (.ref t) s2.heap:=RL▸fw;have XG:X.A.frames=some (X.env::X.outer):=RL▸I1.ok.frames;show wpAny (model X.prog X.w) X.A (noteFrame (.ref ea) X.env) _ X.xe s2;refine wpAny_looks_onW XG O2 fw λh4 held sl4=>?_;refine wpAny_landsW held λh5 XF sl5=>?_;obtain⟨YJ,RU,Yb⟩:=moved un bQ GC I1.stack I1.mj XF.1 (sl4.trans sl5);have I5:Inv X pins σ1 H' { s2 with heap:=h5 }:=I1.Ba (ch:=[]) os YJ RU bare λ_ z=>nomatch z;refine wpAny_handleBy_cons (codeAny_handlers_test (abn I5.ok.kind hg (Calls.loadGlobal_global (by rw[I5.ok.glob];exact I5.mod.glob.keeps I5.bk) O.bound ?_) hd)) (by intro q;cases q);obtain⟨bm,nsA,nm,qn,bs,hdct,sn,sub,ab,col,dd,k0,k1,k2,k3,k5,mN,hB,_,_,TL⟩:=(O.keeps I5.bk).obj;obtain⟨nm2,q2,N2,bs2,bm2,ZJ,sn2,abk,ab2,ady,Co,l0,l1,l2,l3,l5,id2,hC,R_⟩:=OS;have hC:=I5.bk _ _ hC;obtain⟨ob,hob,WO⟩:=XF.there;refine FG hC hB hob WO (TL.hasType (by decide +kernel)) R_ (codeAny_handlers_suite_as ?_);refine lands_againW XF λh6 ZY sl6=>?_;obtain⟨un6,WJ,adx⟩:=moved YJ RU Yb I1.stack I1.mj ZY.1 sl6;obtain⟨un7,WI⟩:=tracked (C:=C) un6 WJ n1 n2 ZY.there;have I7:Inv X pins σ1 (upd H' ea (.ext (GD ea C))) { s2 with heap:=h6 }:=I1.Ba (s':={ s2 with heap:=h6 }) (ch:=[]) os un7 WI bare λ_ z=>nomatch z;have mM:i<σ1.length:=by rw[I7.len];exact(List.getElem?_eq_some_iff.mp hi).1
  have R8:j<σ1.length:=by rw[I7.len];exact(List.getElem?_eq_some_iff.mp hj).1
  refine iu I7 nd hi (.inl ET) (v:=.ref ea) (u:=.ref ea) rfl (λs8 I8=>?_) (.inr ET)
  let X2:Cx:={ X with A:=X.A.mark (some (.ref ea)),calm:=false,xe:=AsSuiteRaised (model X.prog X.w) (X.A.mark (some (.ref ea))) X.env n hpos (notedBy (model X.prog X.w) (X.A.mark (some (.ref ea))) X.env (cameBackBy (model X.prog X.w) X.A X.env X.xe)) }
  have ps:g9 X2 [.Assign [.Name y p1] (.Name n p2) p3] _:=mE (yK (X:=X2) (i:=j) nd hj (.inl ZC) (HH (X:=X2) (i:=i) (pos:=p2) hi (.inl ET) dn dc) MJ (hf:=.inr ZC));refine aaC (ps pins s8 _ _ { nx:=λσ' oD=>oD=upd H' ea (.ext (GD ea C))/\σ'[j]?=some (some (.ref ea)),rt:=λ_ _=>False } (EK I8 _ _) ⟨.ref ea,by rw[List.getElem?_set_self mM],rfl,by rw[List.getElem?_set_self (by simpa using R8)]⟩) (λf s9 q9=>?_) (λ_ _ q=>q);cases f with
  | next =>
   obtain⟨σ9,H9,I9,rfl,e9⟩:=q9;have I9:=y_ ok I9;exact yO I9 ET Ww nd hj e9 λs10 I10=>⟨_,_,I10,hh ea H' he n1⟩
  | ret v=>obtain⟨_,_,_,_,_,z⟩:=q9;exact z.elim
  | brk=>obtain⟨_,_,_,z⟩:=q9;exact z.elim
  | cont=>obtain⟨_,_,_,z⟩:=q9;exact z.elim
 ·cases f with
  | next=>obtain⟨σ',H',I',q⟩:=q;exact abq ⟨σ',H',iz I',q⟩
  | ret v=>obtain⟨v,σ',H',I',r,q⟩:=q;exact⟨v,σ',H',iz I',r,q⟩
  | brk=>obtain⟨σ',H',I',q⟩:=q;exact⟨σ',H',iz I',q⟩
  | cont=>obtain⟨σ',H',I',q⟩:=q;exact⟨σ',H',iz I',q⟩
end
def Vg(C:Addr)(i:Nat)(b:Bool):TE:=λσ H Q=>∃ ea,σ[i]?=some (some (.ref ea))/\H ea=some (.ext (GD ea C))/\Q (.bl b) H
section
variable {X:Cx}{C:Addr}{i:Nat}
theorem MB{cv:V}{cu:Value}{b:Bool}(Z:XC X.K C)(hr:∀ u,RelV cv u->u=cu)(hk:PySem.W.kitOne X.K (.ref C) cu=some b):
  gj X (.builtin "isinstance") (λxs H Q=>∃ ea,xs=[.ref ea,cv]/\H ea=some (.ext (GD ea C))/\Q (.bl b) H):=by
 intro pins s σ H xs us Q I r h;obtain⟨ea,rfl,hH,q⟩:=h;obtain⟨u,w',rfl,ru,mB⟩:=vals2 r;cases ru;cases hr w' mB;obtain⟨⟨o,e1,e2⟩,_⟩:=(show b7 X.prog X.w H s.heap ea (.ext (GD ea C)) from I.bQ ea _ hH)
 exact aa9 (EB PySem.F.attr_ValueError Z) I.BZ ⟨o,e1,e2⟩ hk (λz=>nomatch z) λtk=>⟨.bl b,H,I.tok tk,rfl,q⟩
structure Tz(X:Cx)(C:Addr)(cl:Str->Option Bool):Prop where
 xc:XC X.K C
 isi:Gl X "isinstance"
 isn:X.mg "isinstance" = none
 ex:∀ x b,cl x=some b->∀ p,∃ cv cu,PE X (.Name x p) (tC cv)/\(∀ u,RelV cv u->u=cu)/\PySem.W.kitOne X.K (.ref C) cu=some b
def Io(err:Str)(cl:Str->Option Bool)(e:Expr):Option Bool:=(eH e).bind λz=>(two z.2).bind λw=>(C5 w.1).bind λy=>(C5 w.2).bind λx=>if z.1 = "isinstance" /\ y=err then cl x else none
theorem LJ{err:Str}{cl:Str->Option Bool}(Z:Tz X C cl)(he:∀ p,PE X (.Name err p) (uM i)){e:Expr}{b:Bool}(h:Io err cl e=some b):PE X e (Vg C i b)/\(∀ es,starEach (e::es) X.env=(false,eval e X.env)::starEach es X.env)/\∀ whole,isTrue e X.env whole=(do let v <- whole;standAt e.pos;holding [v] (truthy v)):=by
 obtain⟨⟨f,as⟩,hv,g1⟩:=Option.bind_eq_some_iff.mp h;obtain⟨p0,pos,rfl⟩:=b_ hv;obtain⟨⟨ey,ex⟩,hw,g2⟩:=Option.bind_eq_some_iff.mp g1;obtain rfl:as=[ey,ex]:=jM hw;obtain⟨y,hy,g3⟩:=Option.bind_eq_some_iff.mp g2;obtain⟨p1,rfl⟩:=jL hy;obtain⟨x,hx,g4⟩:=Option.bind_eq_some_iff.mp g3;obtain⟨p2,rfl⟩:=jL hx;by_cases hh:f = "isinstance" /\ y=err
 ·rw[if_pos hh]at g4;obtain⟨rfl,rfl⟩:=hh;refine⟨?_,λ_=>rfl,λ_=>rfl⟩;obtain⟨cv,cu,h1,h2,h3⟩:=Z.ex x b g4 p2;refine PE.imp (eI (MB Z.xc h2 h3) Z.isi Z.isn PyProof.Rows.boot_isinstance (cm (he p1) (cm h1 gS))) λσ H Q hq=>?_;obtain⟨ea,e1,e2,q⟩:=hq;exact⟨_,e1,ea,rfl,e2,q⟩
 ·rw[if_neg hh]at g4;cases g4
end
variable {g qual:Str}{ps Af:List Str}{st:Stmt}
theorem X_{CX:Bp}{x:Str}{f:Addr}{fd:FuncData}{N:List Str}{k:Nat}{sp:Sp}(F:Bn K x qual st f fd)(S:dJ N ps (ae st))(len:∀ vs H Q E,sp vs H Q E->vs.length=ps.length)
  (xE:∀(gW:Value) (A:Around) (outer:List Env) (s:Shared) (H:Hp) (vs:List V) (Q:VK) (E:XK),g5 k (A.deeper (envOfC qual (ae st) s.heap.objs.size f gW))->sp vs H Q E ->
   ∃ t,g9 (j7 CX P w K mg base N qual (ae st) f gW A outer s H E) (aE st) t/\t { nx:=λ_ H'=>Q .bh H',rt:=Q } (L2.start N vs) H):eT P w K mg base CX (k+1) f fd ps sp:=by
 obtain⟨oc,od,kV,doc,pm,an,gW,ct,Ea,rfl,lk,xA⟩:=F.ex;exact Kf lk xA S len λA outer s H vs Q E hr yi=>xE gW A outer s H vs Q E hr yi
def Lc(K:PySem.W.Frag)(C:Addr)(n:Nat)(mr:List D->Prop):Sp:=λvs H _ E=>∃(F:Addr->Prop) (ds:List D),vs.length=n/\ah (aG K H) (nd K F (λ_=>False) (λ_=>none) H) [] 0 vs ds/\mr ds/\∀ H',ak H H'->E (.ref C) none H'
variable {F:Addr->Prop}
theorem wQ{N:List Str}{vs:List V}{ds:List D}(h0:X.H₀=H)(hl:ds.length<=N.length)(rs:ah (aG X.K H) (nd X.K F (λ_=>False) (λ_=>none) H) [] 0 vs ds):
  SI X F (λp=>F p/\H p≠none) (λ_=>none) (ds.map some++List.replicate (N.length - ds.length) none) (L2.start N vs) H:=by
 have Ir:vs.length=ds.length:=rs.length;refine⟨?_,λi d hi=>?_,λ_ _=>rfl,λp h=>h.2,λp h=>.inl h.1,λ_ _ h=>by simp at h,λ_ _ h=>by simp at h,h0▸ak.refl H⟩
 ·unfold L2.start;simp[Ir]
 ·have Sa:i<ds.length:=by
   by_cases mM:i<ds.length
   ·exact mM
   ·rw[List.getElem?_append_right (by simpa using mM),List.getElem?_replicate]at hi;split at hi<;>simp at hi
  rw[List.getElem?_append_left (by simpa using Sa),List.getElem?_map]at hi;have hd:ds[i]?=some d:=by
   cases q:ds[i]? with
   | none=>rw[q]at hi;exact nk hi
   | some z=>rw[q]at hi;simp at hi;rw[hi]
  obtain⟨v,hv,rv⟩:=rs.get hd;refine⟨v,?_,rv.imp (q:=[0+i]) (q':=[i]) (λ_ _ h=>h) λc p xs f h=>?_⟩
  ·unfold L2.start;rw[List.getElem?_append_left (by rw[List.length_map,Ir];exact Sa),List.getElem?_map,hv];rfl
  ·cases f with
   | ow=>exact nomatch h.2
   | fz=>exact⟨h.1,h.2,h.1.ne⟩
   | al=>exact h.2.elim
   | sc=>exact h
noncomputable def yB(X:Cx)(F:Addr->Prop)(bad:aD->Prop):TS:=λ_ σ H=>∃ R τ ρ,SI X F R τ ρ σ H/\bad ρ
theorem PS.yh{X:Cx}{st:Stmt}{t:TS}(h:PS X.yh st t):PS X st t:=λpins s σ H D I hw =>
 aaC (h pins s σ H D (I.qi _) hw) (λ_ _ q=>q.iN) λ_ _ q=>q.elim
theorem SI.yh{X:Cx}{F R:Addr->Prop}{τ:Addr->Option aL}{ρ:aD}{σ:St}{H:Hp}(S:SI X F R τ ρ σ H):SI X.yh F R τ ρ σ H:=⟨S.len,S.rep,S.rt,S.rh,S.rf,S.th,S.t0,S.same⟩
theorem SI.PL{R:Addr->Prop}{τ:Addr->Option aL}{ρ:aD}(S:SI X.yh F R τ ρ σ H):SI X F R τ ρ σ H:=⟨S.len,S.rep,S.rt,S.rh,S.rf,S.th,S.t0,S.same⟩
theorem FI{X:Cx}{S:Sx}{k:Nat}{Φ:au}{F:Addr->Prop}{bad:aD->Prop}{tb:Stmt}{tr:List Stmt}(L:oB X.yh S k Φ)(hB:PS X tb (yB X F bad)):∀(pre:List CS) (tp:List Stmt),cE S pre tp=true ->
  g9 X (tp++tb::tr) (λ_ σ H1=>∃ R τ ρ,SI X F R τ ρ σ H1/\∃ ρ',aT Φ pre ρ=ok (.nx,ρ')/\bad ρ')
 | [],[],_=>by
  have R:g9 X tr KZ:=λ_ _ _ _ _ _ z=>z.elim;refine g9.imp (iw hB R) λD σ H1 hq=>?_;obtain⟨R,τ,ρ,Si,ρ',e,hb⟩:=hq;cases e;exact⟨R,τ,ρ,Si,hb⟩
 | [],_::_,h=>by exact(aal h).elim
 | _::_,[],h=>by exact(aal h).elim
 | c::cs,st::Hi,h=>by
  replace h:=aj h;have h1:PS X st (wJ X.yh F Φ c):=PS.yh (yE (F:=F) L c st h.1);refine g9.imp (iw h1 (FI L hB cs Hi h.2)) λD σ H1 hq=>?_;obtain⟨R,τ,ρ,Si,ρ',e,hb⟩:=hq;obtain⟨⟨fo,ρ1⟩,e1,e2⟩:=af e;refine⟨R,τ,ρ,(fo,ρ1),Si.yh,e1,?_⟩;cases fo with
  | nx=>exact λσ' H' R' τ' fG kp=>⟨R',τ',ρ1,fG.PL,ρ',e2,hb⟩
  | bk=>cases e2
  | ct=>cases e2
  | rt d=>cases e2
variable {tr:List Stmt}{Φ:au}
theorem FJ{x:Str}{f:Addr}{fd:FuncData}{k:Nat}{N bl:List Str}{cs:List (Str×GK)}{px:Px}{lG:Nat->Option Str}{mr:List D->Prop}{bad:aD->Prop}{pre:List CS}{tp:List Stmt}{tb:Stmt}
  (Fu:Bn K x qual st f fd) (Sc:dJ N ps (ae st)) (xu:aE st=tp++tb::tr) (rg:cE ⟨ae st,N,lG,bl,cs,px⟩ pre tp=true) (yj:ng px Φ) (ER:Bl px Φ)
  (sF:∀ y∈bl,mg y=none) (nr:∀ y i,(y,i)∈cs->∃ u,mg y=some u/\wo K i u) (sT:∀ g y,lG g=some y->Ent P w K mg base k y (Φ g))
  (MZ:∀(X:Cx) (F:Addr->Prop),Lk X ⟨ae st,N,lG,bl,cs,px⟩ k Φ->X.prog=P->X.w=w->X.K=K->X.mg=mg->X.base=base ->
   (∀ pins σ H1 s1 h' ea vs,Inv X pins σ H1 s1->ak X.H₀ H1->Heap.MadeExcOf s1.heap h' ea (.ref C) vs->X.xe (.ref ea) { s1 with heap:=h' })->Passes (sE X.prog X.w C) X (λc _ H'=>c=.ref C/\ak X.H₀ H')->PS X tb (yB X F bad))
  (hm:∀ ds,mr ds->ds.length=ps.length/\∃ ρ,aT Φ pre (ds.map some++List.replicate (N.length - ds.length) none)=ok (.nx,ρ)/\bad ρ):eT P w K mg base (sE P w C) (k+1) f fd ps (Lc K C ps.length mr):=by
 refine X_ (N:=N) Fu Sc (λvs H Q E ⟨_,_,h,_⟩=>h) λgW A outer s H vs Q E hr yi=>?_;obtain⟨F,ds,hl,rs,WT,hE⟩:=yi;obtain⟨ZI,ρ1,Se,hb⟩:=hm ds WT
 let X:=j7 (sE P w C) P w K mg base N qual (ae st) f gW A outer s H E
 have Ln:oB X.yh ⟨ae st,N,lG,bl,cs,px⟩ k Φ:=⟨⟨rfl,rfl,Sc.nd,rfl,hr,sF,λg y h=>⟨(sT g y h).ex⟩,nr,yj⟩,λ_=>rfl,PassesOwn.never,Sc.kind,ER⟩
 have L:Lk X ⟨ae st,N,lG,bl,cs,px⟩ k Φ:=⟨rfl,rfl,Sc.nd,rfl,hr,sF,λg y h=>⟨(sT g y h).ex⟩,nr,yj⟩
 have hpl:ps.length<=N.length:=by have:=aaS List.length Sc.pre;rw[List.length_take]at this;left
 have hB:=MZ X F L rfl rfl rfl rfl rfl (λpins σ H1 s1 h' ea vs I es ES=>HC I ES (hE H1 es)) (QT λH' h=>hE H' h.2);rw[xu];exact⟨_,FI (X:=X) (F:=F) Ln hB pre tp rg,_,_,_,wQ (X:=X) rfl (by left) rs,ρ1,Se,hb⟩
noncomputable def Hf(X:Cx)(F:Addr->Prop)(bad:aD->Prop):TE:=λσ H _=>∃ R τ ρ,SI X F R τ ρ σ H/\bad ρ
variable {ce:List CE}{es:List Expr}
section
variable {X:Cx}{S:Sx}{k:Nat}{Φ:au}{F:Addr->Prop}{bad:aD->Prop}{C:Addr}
theorem AW{IJ:FuncData}{mr':List D->Prop}{e:Expr}(L:Lk X S k Φ)(hx:Passes (sE X.prog X.w C) X (λc _ H'=>c=.ref C/\ak X.H₀ H'))
  (F':eT X.prog X.w X.K X.mg X.base (sE X.prog X.w C) k f' IJ Af (Lc X.K C Af.length mr')) (h2:fV S.sc g=true) (hg:X.mg g=some (.ref f')) (hk:PySem.W.keepIn X.K (.ref f')=true) (hb:Binds X.K IJ Af []) (hd:(g==("__debug__" : Str))=false)
  (h3:bc S ce (e::es)=true) (pZ:∀ r,starEach (e::r) X.env=(false,eval e X.env)::starEach r X.env) (hpl:(backTo cpos (starEach es X.env)).any (·.1)=false) :
  PE X (.Call (.Name g np) (e::es) [] cpos) (Hf X F λρ=>∃ ds',bL Φ ce ρ=ok ds'/\mr' (ag aC ds')/\ds'.length=Af.length):=by
 refine PE.imp (An (X:=X) (p:=np) (pos:=cpos) F' L.room (L.gl h2) hg hk hb .nil hx (pO (F:=F) L ce (e::es) h3) hd (pZ _) hpl) λσ H Q hq=>?_;obtain⟨R,τ,ρ,Si,ds',Se,WS,W5⟩:=hq;refine⟨R,τ,ρ,ds',Si,Se,λvs' H2 e2 rv=>?_⟩;obtain⟨τt,ft,YX⟩:=rv;rw[List.append_nil];refine⟨λ_=>True,ag aC ds',by rw[YX.length,W5],ah.jX (λ_ _ h=>h) (λk k' p xs f h=>?_) YX _ _,WS,λH' e'=>⟨rfl,(Si.same.trans e2).trans e'⟩⟩;cases f with
 | ow=>exact⟨h.1,trivial⟩
 | fz=>exact⟨h.1,trivial⟩
 | al=>exact⟨h.1,trivial⟩
 | sc=>exact h
theorem SY{e:Expr}(h:PE X e (Hf X F bad))(hs:swapsWith e none pos.line X.env=pure false):PS X (.Expr e pos) (yB X F bad):=PS.imp (pT h hs) λ_ _ _ q=>q
theorem SX{c:CE}{t:Expr}{y m:Str}{j:Nat}{p:Pos}(L:Lk X S k Φ)(hR:∀ pins σ H1 s1 h' ea vs,Inv X pins σ H1 s1->ak X.H₀ H1->Heap.MadeExcOf s1.heap h' ea (.ref C) vs->X.xe (.ref ea) { s1 with heap:=h' })
  (h1:br S c t=true) (h3:fV S.sc y=true) (hd:(y==("__debug__" : Str))=false) (O:tH y C X.mg X.base):PS X (.If t [.Raise (some (.Call (.Name y np) [.Constant (.str m) j p] [] cpos)) none rp] [] ip) (yB X F λρ=>sG Φ c ρ=ok true):=by
 refine PS.imp (JU (pos:=ip) (iP (F:=F) L c t h1).2 (mE (DV (X:=X) (m:=m) (j:=j) (p:=p) (np:=np) (cpos:=cpos) (pos:=rp) L.calm O (L.gl h3) hd)) Ae) λD σ H1 hq=>?_;obtain⟨R',τ,ρ,Si,ev⟩:=hq;refine⟨R',τ,ρ,true,Si,ev,λH2 e2=>Wk λpins s1 h' ea us I ES=>?_⟩;exact hR pins _ H2 s1 h' ea us I (Si.same.trans e2) ES
end
structure Nr where
 ps:List Str
 err:Str
 ex:Str
 cls:Str
 f:Str
 al:Str
noncomputable def Nr.N(n:Nr):List Str:=n.ps++[n.err,n.ex]
noncomputable def FY(x:Str):Bool:=!(x==("__debug__" : Str))&&!(x==("__classdict__" : Str))
theorem SI.wF{X:Cx}{F R:Addr->Prop}{τ:Addr->Option aL}{ρ:aD}{σ:St}{H:Hp}{pn:List (Addr×Obj)}{E:Value->Shared->Prop}(S:SI X F R τ ρ σ H):SI (Cx.wF X pn E) F R τ ρ σ H:=⟨S.len,S.rep,S.rt,S.rh,S.rf,S.th,S.t0,S.same⟩
theorem yM{S:Sx}{env:Env}{pos:Pos}:∀ {es:List Expr} {cs:List CE},bc S cs es=true->(backTo pos (starEach es env)).any (·.1)=false
 | [],_,_=>rfl
 | e::es,[],h=>by exact(aal h).elim
 | e::es,c::cs,h=>by
  replace h:=aj h;rw[bp h.1 es env];show(false||(backTo pos (starEach es env)).any (·.1))=false;rw[yM h.2];rfl
def oJ(Φ:au)(a n:Nat)(mr:List D->Prop)(pre:List CS)(bad:aD->Prop):Prop:=∀ ds,mr ds->ds.length=a/\∃ ρ,aT Φ pre (ds.map some++List.replicate n none)=ok (.nx,ρ)/\bad ρ
def Jr(Φ:au)(ce:List CE)(mr':List D->Prop)(a':Nat):aD->Prop:=λρ=>∃ xs,bL Φ ce ρ=ok xs/\mr' (ag aC xs)/\xs.length=a'
theorem NP{x:Str}{f:Addr}{fd:FuncData}{k n:Nat}{N bl:List Str}{cs:List (Str×GK)}{px:Px}{lG:Nat->Option Str}{mr:List D->Prop}{pre:List CS}{tp:List Stmt}
  (Fu:Bn K x qual st f fd) (Sc:dJ N ps (ae st)) (hn:N.length=ps.length+n) (yj:ng px Φ) (ER:Bl px Φ) (sF:∀ y∈bl,mg y=none) (nr:∀ y i,(y,i)∈cs->∃ u,mg y=some u/\wo K i u) (sT:∀ g y,lG g=some y->Ent P w K mg base k y (Φ g)) {c:CE} {t:Expr} {y m:Str} {j:Nat} {p:Pos} (xu:aE st=tp++.If t [.Raise (some (.Call (.Name y np) [.Constant (.str m) j p] [] cpos)) none rp] [] ip::tr) (rg:cE ⟨ae st,N,lG,bl,cs,px⟩ pre tp=true)
  (h1:br ⟨ae st,N,lG,bl,cs,px⟩ c t=true) (h3:(fV (ae st) y&&!(y==("__debug__" : Str)))=true) (O:tH y C mg base) (hm:oJ Φ ps.length n mr pre (λρ=>sG Φ c ρ=ok true)):eT P w K mg base (sE P w C) (k+1) f fd ps (Lc K C ps.length mr) :=
 FJ Fu Sc xu rg yj ER sF nr sT (λX F L e1 e2 e3 e4 e5 hR hP=>by
  have h3:=aj h3;exact SX L hR h1 h3.1 (by simpa using h3.2) (by rw[e4,e5];exact O)) λds h=>by
   obtain⟨a,b⟩:=hm ds h;exact⟨a,by rw[hn,a,Nat.add_sub_cancel_left];exact b⟩
theorem FK{k:Nat}{N bl:List Str}{cs:List (Str×GK)}{px:Px}{lG:Nat->Option Str}{mr':List D->Prop}{IJ:FuncData}{e:Expr}(MW:bc ⟨ae st,N,lG,bl,cs,px⟩ ce (e::es)=true)(F':eT P w K mg base (sE P w C) k f' IJ Af (Lc K C Af.length mr'))(h2:(fV (ae st) g&&!(g==("__debug__" : Str)))=true)(hg:mg g=some (.ref f'))(hk:PySem.W.keepIn K (.ref f')=true)(hb:Binds K IJ Af [])(L:Lk X ⟨ae st,N,lG,bl,cs,px⟩ k Φ)(e1:X.prog=P)(e2:X.w=w)(e3:X.K=K)(e4:X.mg=mg)(e5:X.base=base)(hP:Passes (sE X.prog X.w C) X (λc _ H'=>c=.ref C/\ak X.H₀ H')):PE X (.Call (.Name g np) (e::es) [] cpos) (Hf X F (Jr Φ ce mr' Af.length)):=by
 subst e1 e2 e3 e4 e5;have h2:=aj h2;refine AW (C:=C) L hP F' h2.1 hg hk hb (by simpa using h2.2) MW (λr=>?_) ?_
 ·cases ce with
  | nil=>exact(aal MW).elim
  | cons c cs=>exact bp (aj MW).1 r _
 ·cases ce with
  | nil=>exact(aal MW).elim
  | cons c cs=>exact yM (aj MW).2
theorem IP{x:Str}{f:Addr}{fd:FuncData}{k n:Nat}{N bl:List Str}{cs:List (Str×GK)}{px:Px}{lG:Nat->Option Str}{mr mr':List D->Prop}{pre:List CS}{tp:List Stmt}
  (Fu:Bn K x qual st f fd) (Sc:dJ N ps (ae st)) (hn:N.length=ps.length+n) (yj:ng px Φ) (ER:Bl px Φ) (sF:∀ y∈bl,mg y=none) (nr:∀ y i,(y,i)∈cs->∃ u,mg y=some u/\wo K i u) (sT:∀ g y,lG g=some y->Ent P w K mg base k y (Φ g)) {IJ:FuncData} {e:Expr} (MW:bc ⟨ae st,N,lG,bl,cs,px⟩ ce (e::es)=true) (F':eT P w K mg base (sE P w C) k f' IJ Af (Lc K C Af.length mr')) (h2:(fV (ae st) g&&!(g==("__debug__" : Str)))=true) (hg:mg g=some (.ref f')) (hk:PySem.W.keepIn K (.ref f')=true) (hb:Binds K IJ Af []) {p:Pos} {i:Nat} {y:Str} (xu:aE st=tp++.Assign [.Name y p] (.Call (.Name g np) (e::es) [] cpos) rp::tr) (hi:N[i]?=some y) (hl:(ae st).names.lookup y=some .local) (rg:cE ⟨ae st,N,lG,bl,cs,px⟩ pre tp=true) (hm:oJ Φ ps.length n mr pre (Jr Φ ce mr' Af.length)):eT P w K mg base (sE P w C) (k+1) f fd ps (Lc K C ps.length mr) :=
 FJ Fu Sc xu rg yj ER sF nr sT (λX F L e1 e2 e3 e4 e5 hR hP=>by
  have vp:X.env.scope.names.lookup y=some .local:=by rw[L.sc];exact hl
  exact PS.imp (yK (X:=X) (pos:=rp) (pos':=p) (i:=i) L.nd (by rw[L.N];exact hi) (.inl vp) (FK (F:=F) MW F' h2 hg hk hb L e1 e2 e3 e4 e5 hP) (hf:=.inr vp)) λ_ _ _ q=>q) λds h=>by
   obtain⟨a,b⟩:=hm ds h;exact⟨a,by rw[hn,a,Nat.add_sub_cancel_left];exact b⟩
noncomputable def Y4:CI->Bool
 | _=>true
mutual
inductive CU(Φ:au)(Ψ:Nat->List D->Prop)(n:Nat):CS->aD->Prop
 | ex {g:Nat} {es:List CE} {ρ:aD} {xs:List D} (h1:bL Φ es ρ=ok xs) (h2:Ψ g (ag aC xs)):CU Φ Ψ n (.ex (.call g es)) ρ
 | asg {i g:Nat} {es:List CE} {ρ:aD} {xs:List D} (h1:bL Φ es ρ=ok xs) (h2:Ψ g (ag aC xs)):CU Φ Ψ n (.asg (.nm i) (.call g es)) ρ
 | ret {g:Nat} {es:List CE} {ρ:aD} {xs:List D} (h1:bL Φ es ρ=ok xs) (h2:Ψ g (ag aC xs)):CU Φ Ψ n (.ret (.call g es)) ρ
 | rs {ρ:aD}:CU Φ Ψ n (.rs n) ρ
 | ift {c:CE} {a b:List CS} {ρ:aD} (h1:sG Φ c ρ=ok true) (h2:Er Φ Ψ n a ρ):CU Φ Ψ n (.ifs c a b) ρ
 | iff {c:CE} {a b:List CS} {ρ:aD} (h1:sG Φ c ρ=ok false) (h2:Er Φ Ψ n b ρ):CU Φ Ψ n (.ifs c a b) ρ
inductive Er(Φ:au)(Ψ:Nat->List D->Prop)(n:Nat):List CS->aD->Prop
 | hd {c:CS} {cs:List CS} {ρ:aD} (h:CU Φ Ψ n c ρ):Er Φ Ψ n (c::cs) ρ
 | tl {c:CS} {cs:List CS} {ρ ρ':aD} (h1:rF Φ c ρ=ok (.nx,ρ')) (h2:Er Φ Ψ n cs ρ'):Er Φ Ψ n (c::cs) ρ
end
structure l6(P:Program)(w:World)(K:PySem.W.Frag)(mg:Str->Option Value)(base:Heap)(k:Nat)(C:Addr)(y:Str)(mr:List D->Prop):Prop where
 ex:∃(f:Addr) (fd:FuncData) (ps:List Str),eT P w K mg base (sE P w C) k f fd ps (Lc K C ps.length mr)/\mg y=some (.ref f)/\PySem.W.keepIn K (.ref f)=true/\Binds K fd ps []/\∀ ds,mr ds->ds.length=ps.length
section
variable {X:Cx}{S:Sx}{k n:Nat}{Φ:au}{Ψ:Nat->List D->Prop}{F:Addr->Prop}{C:Addr}{y:Str}{gl:Bool}
theorem FH(L:Lk X S k Φ)(hx:Passes (sE X.prog X.w C) X (λc _ H'=>c=.ref C/\ak X.H₀ H'))(fe:∀ g x,S.fn g=some x->(∃ ds,Ψ g ds)->l6 X.prog X.w X.K X.mg X.base k C x (Ψ g)){g:Nat}{es:List CE}{e:Expr}(h:br S (.call g es) e=true):PE X e (Hf X F λρ=>∃ xs,bL Φ es ρ=ok xs/\Ψ g (ag aC xs)):=by
 obtain⟨⟨x,as⟩,hv,q1⟩:=aP h;obtain⟨p,pos,rfl⟩:=b_ hv;obtain⟨q2,q3⟩:=aj q1;obtain⟨q4,h3⟩:=aj q2;obtain⟨h1,h2⟩:=aj q4;obtain⟨⟨a,Ol⟩,hu,h4⟩:=aP q3;obtain rfl:as=a::Ol:=yv hu;by_cases AI:∃ ds,Ψ g ds
 case neg=>exact λ_ _ _ _ _ _ ⟨_,_,_,_,xs,_,e2⟩=>absurd ⟨_,e2⟩ AI
 obtain⟨f,fd,ps,Fo,hm,hk,hb,hl⟩:=(fe g x (aak h1) AI).ex;unfold lB at h3;simp only[Bool.and_eq_true,Bool.not_eq_true']at h3;have pZ:∀ r,starEach (a::r) X.env=(false,eval a X.env)::starEach r X.env:=λr=>by
  cases es with
  | nil=>exact(aal h4).elim
  | cons c cs=>exact bp (aj h4).1 r _
 have hpl:(backTo pos (starEach Ol X.env)).any (·.1)=false:=by
  cases es with
  | nil=>exact(aal h4).elim
  | cons c cs=>exact yM (aj h4).2
 refine PE.imp (AW (F:=F) (C:=C) (np:=p) (cpos:=pos) L hx Fo h2 hm hk hb h3.1.1 h4 pZ hpl) λσ H Q hq=>?_;obtain⟨R,τ,ρ,Si,xs,e1,e2⟩:=hq;exact⟨R,τ,ρ,Si,xs,e1,e2,by have:=hl _ e2;rw[aB,List.length_map]at this;exact this⟩
end
section
variable {X:Cx}{S:Sx}{k n:Nat}{Φ:au}{Ψ:Nat->List D->Prop}{F:Addr->Prop}{C B:Addr}
theorem SV(L:Lk X S k Φ)(hx:Passes (sE X.prog X.w C) X (λc _ H'=>c=.ref C/\ak X.H₀ H'))(fe:∀ g x,S.fn g=some x->(∃ ds,Ψ g ds)->l6 X.prog X.w X.K X.mg X.base k C x (Ψ g)){g:Nat}{es:List CE}(h:F1 S (.ex (.call g es)) st=true):PS X st (yB X F (CU Φ Ψ n (.ex (.call g es)))):=by
 obtain⟨v,v1,q1⟩:=aP h;obtain⟨pos,rfl⟩:=uH v1;obtain⟨h1,h2⟩:=aj q1;exact PS.imp (SY (FH (F:=F) L hx fe h1) (rX h1 (jV h2) _ _ _)) λD σ H ⟨R,τ,ρ,Si,hb⟩=>by cases hb with | ex a b=>exact⟨R,τ,ρ,Si,_,a,b⟩
theorem G_{share ex kept:Str}{cl:Str->Option Bool}{i j:Nat}{c:CS}{ie:Expr}{b:Bool}(L:Lk X S k Φ)(hk:X.stack=X.env::X.outer)(hf:X.env.frame=some X.env.locals)(O:tH share B X.mg X.base)(OS:sk C B X.base)(gs:Gl X share)(ds:(share==("__debug__" : Str))=false)
  (hi:X.N[i]?=some ex) (hj:X.N[j]?=some kept) (AI:kept≠ex) (lx:X.env.scope.names.lookup ex=some .local) (lk:X.env.scope.names.lookup kept=some .local) (dx:FY ex=true) (dk:FY kept=true) (fe:∀ g x,S.fn g=some x->(∃ ds,Ψ g ds)->l6 X.prog X.w X.K X.mg X.base k C x (Ψ g))
  (het:∀ X':Cx,Lk X' S k Φ->Passes (sE X'.prog X'.w C) X' (λc _ H'=>c=.ref C/\ak X'.H₀ H')->(∀ g x,S.fn g=some x->(∃ ds,Ψ g ds)->l6 X'.prog X'.w X'.K X'.mg X'.base k C x (Ψ g))->PS X' st (yB X' F (CU Φ Ψ n c))) (Z:Tz X C cl) (hie:Io kept cl ie=some b):∀ {j1:Nat} {q1 q2 q3 np p1 p2 p3 hpos pos rp:Pos},g9 X [.Assign [.Name kept q1] (.Constant .none j1 q2) q3,.Try [st] [.ExceptHandler (some (.Name share np)) (some ex) [.Assign [.Name kept p1] (.Name ex p2) p3] hpos] [] [] pos,.Return (some ie) rp]
   (λD σ H=>∃ R τ ρ,SI X F R τ ρ σ H/\j<ρ.length/\CU Φ Ψ n c (ρ.set j (some .bh))/\∀ H',ak X.H₀ H'->D.rt (.bl b) H'):=by
 intro j1 q1 q2 q3 np p1 p2 p3 hpos pos rp;unfold FY at dx dk;simp only[Bool.and_eq_true,Bool.not_eq_true']at dx dk;have S1:=yK (X:=X) (pos:=q3) (pos':=q1) (i:=j) L.nd hj (.inl lk) (D7 (j:=j1) (pos:=q2)) (hf:=.inr lk);have S2:=HG (X:=X) (C:=C) (B:=B) (body:=[st]) (tb:=yB X F (CU Φ Ψ n c)) (i:=i) (j:=j) (E1:=λc _ H'=>c=.ref C/\ak X.H₀ H') (np:=np) (p1:=p1) (p2:=p2) (p3:=p3) (hpos:=hpos) (pos:=pos) hk hf O OS gs ds L.nd hi hj AI lx lk dx.1 dx.2 rfl
  λpn TC hx=>g9.imp (mE (het (Cx.wF X pn TC) ⟨L.sc,L.N,L.nd,L.calm,L.room,L.bl,λf x h=>⟨(L.fn f x h).ex⟩,L.cs,L.pr⟩ hx fe)) λD σ H ⟨R,τ,ρ,Si,hb⟩=>⟨R,τ,ρ,Si.wF,hb⟩
 have S3:=yL (X:=X) (pos:=rp) (LJ Z (λp=>lu (pos:=p) hj (.inl lk) dk.1 dk.2) hie).1;refine g9.imp (iw S1 (iw S2 (mE S3))) λD σ H hq=>?_;obtain⟨R,τ,ρ,Si,hl,MZ,q⟩:=hq;obtain⟨τ1,we⟩:=Si.set (i:=j) (v:=.bh) (d:=.bh) ⟨λ_=>none,λ_ _ h=>by simp at h,.bh⟩ hl;refine⟨⟨R,τ1,_,we,MZ⟩,λea H' he hn=>?_⟩;have WY:j<X.N.length:=(List.getElem?_eq_some_iff.mp hj).1;have hg:(only X.N.length j (.ref ea))[j]?=some (some (.ref ea)):=by
  unfold only;rw[List.getElem?_set_self (by rw[List.length_replicate];exact WY)]
 exact⟨ea,hg,aH,q _ (he.2.trans (ak.upd hn))⟩
end
def Va(X:Cx)(F:Addr->Prop)(T:aD->D->Prop):TS:=λE σ H=>∃ R τ ρ r,SI X F R τ ρ σ H/\T ρ r/\∀ v H',ak X.H₀ H'->wk X F H' v r->E.rt v H'
def o3(T:aD->D->Prop)(r:D):Fo×aD->Prop
 | (.nx,ρ')=>T ρ' r
 | (.rt d,_)=>d=r
 | _=>False
section
variable {X:Cx}{S:Sx}{k:Nat}{Φ:au}{F:Addr->Prop}{T:aD->D->Prop}
theorem Ad(L:oB X S k Φ){tr:List Stmt}(hT:g9 X tr (Va X F T)):∀(pre:List CS) (tp:List Stmt),cE S pre tp=true->g9 X (tp++tr) (λE σ H=>∃ R τ ρ r fo,SI X F R τ ρ σ H/\aT Φ pre ρ=ok fo/\o3 T r fo/\∀ v H',ak X.H₀ H'->wk X F H' v r->E.rt v H')
 | [],[],_=>g9.imp hT λE σ H ⟨R,τ,ρ,r,fo,Si,ev,hp,hq⟩=>by cases ev;exact⟨R,τ,ρ,r,Si,hp,hq⟩
 | [],_::_,h=>by exact(aal h).elim
 | _::_,[],h=>by exact(aal h).elim
 | c::cs,st::Hi,h=>by
  replace h:=aj h;refine g9.imp (iw (yE (F:=F) L c st h.1) (Ad L hT cs Hi h.2)) λE σ H hq=>?_;obtain⟨R,τ,ρ,r,fo,Si,ev,hp,hq⟩:=hq;obtain⟨⟨f1,ρ1⟩,e1,ev⟩:=af ev;refine⟨R,τ,ρ,(f1,ρ1),Si,e1,?_⟩;cases f1 with
  | nx=>exact λσ' H' R' τ' fG kp=>⟨R',τ',ρ1,r,fo,fG,ev,hp,hq⟩
  | bk=>cases ev;exact hp.elim
  | ct=>cases ev;exact hp.elim
  | rt d=>cases ev;obtain rfl:d=r:=hp;exact hq
def T2(Φ:au)(i:Nat)(e:CE)(ρ:aD)(r:D):Prop:=∃ ds es,ρ[i]?=some (some (.lst .ow ds))/\av anyF ds=false/\aK Φ e ρ=ok (.lst .ow es)/\av anyF es=false/\r=.tup [.lst .ow ds,.lst .ow es]
open Classical in
theorem HB(L:oB X S k Φ){i:Nat}{e:CE}{x:Str}{nn:Nat}{v2:Expr}(hn:lL S i (.Name x p1)=true)(hd:lB x=true)(he:br S e v2=true):g9 X [.Return (some (.Tuple [.Name x p1,v2] nn pos)) rp] (Va X F (T2 Φ i e)):=by
 have h2:=aj (show _=true from hn);have Gx:(x==("__debug__" : Str))=false/\(x==("__classdict__" : Str))=false:=by
  unfold lB at hd;simp only[Bool.and_eq_true,Bool.not_eq_true']at hd;exact⟨hd.1.1,hd.1.2⟩
 have pv:PE X (.Name x p1) (uM i):=lu (by rw[L.N];exact aak h2.1) ((L.loc h2.2).elim .inl λz=>.inr (.inl z)) Gx.1 Gx.2;refine g9.imp (mE (yL (pos:=rp) (D3 (pos:=pos) (x1:=nn) (cm pv (cm (iP (F:=F) L.toLk e v2 he).1 gS (bp he _ _)))))) λE σ H hq=>?_;obtain⟨R,τ,ρ,r,Si,⟨ds,es,h1,h3,ev,h4,rfl⟩,hq⟩:=hq;obtain⟨v,hv,rv⟩:=Si.rep i _ h1;refine⟨v,hv,tD.intro Si ev λu H1 e1 ru=>⟨by show 2<=sizeLine;rw[sizeLine_eq];decide,λp hp=>?_⟩⟩;obtain⟨τt,fr,ru⟩:=ru;obtain⟨pa,xa,rfl,ha,ra⟩:=rv.uG;cases ru with
 | @lst _ pb xb _ _ hb rb =>
  obtain⟨O8,ha2⟩:=ha;obtain⟨Sq,hb2⟩:=hb;have nb:H pb=none:=fr _ _ hb2;have na:H pa≠none:=O8.ne;have xJ:pa≠pb:=λz=>by subst z;exact na nb
  have XS:ak H1 (upd H1 p (.tup [.ref pa,.ref pb])):=ak.upd hp;have sub:ak H (upd H1 p (.tup [.ref pa,.ref pb])):=e1.trans XS;have h0b:X.H₀ pb=none:=ak.free Si.same nb;refine hq _ _ (Si.same.trans sub) ⟨λq=>if q=pa then some [0]else if q=pb then some [1]else none,λq z hz=>?_,.tup (xs:=[.ref pa,.ref pb]) ?_ (.cons (.lst (xs:=xa) ⟨?_,?_⟩ ?_) (.cons (.lst (xs:=xb) ⟨?_,?_⟩ ?_) .nil))⟩
  ·simp only at hz;split at hz
   ·rename_i h;subst h;exact Si.t0 _ _ ha2
   ·split at hz
    ·rename_i h;subst h;exact h0b
    ·cases hz
  ·exact .inl (.inl aH)
  ·exact dZ.same sub O8
  ·simp
  ·have:=ah.gen (g:=id) (P:=anyF) (N':=nd X.K (gP X F) (λ_=>False) (λq=>if q=pa then some [0]else if q=pb then some [1]else none) (upd H1 p (.tup [.ref pa,.ref pb]))) (C:=λ_ _=>True) (I:=λ_ _=>True) (λ_ _ h=>aG.same sub h) trivial (λ_ _ e=>e) (λ_ _ _ _ e _=>e) (λk k' p xs f _ hf h=>nomatch hf) ra (k':=[0]) (n':=0) trivial trivial h3;rw[cX]at this;exact this
  ·exact dZ.same XS Sq
  ·simp[Ne.symm xJ]
  ·have:=ah.gen (g:=id) (P:=anyF) (N':=nd X.K (gP X F) (λ_=>False) (λq=>if q=pa then some [0]else if q=pb then some [1]else none) (upd H1 p (.tup [.ref pa,.ref pb]))) (C:=λ_ _=>True) (I:=λ_ _=>True) (λ_ _ h=>aG.same XS h) trivial (λ_ _ e=>e) (λ_ _ _ _ e _=>e) (λk k' p xs f _ hf h=>nomatch hf) rb (k':=[1]) (n':=0) trivial trivial h4;rw[cX]at this;exact this
end
theorem Ag{x:Str}{f:Addr}{fd:FuncData}{k:Nat}{N bl:List Str}{cs:List (Str×GK)}{px:Px}{lG:Nat->Option Str}{m:List D->O D}{pre:List CS}{tp:List Stmt}{T:aD->D->Prop}
  (Fu:Bn K x qual st f fd) (Sc:dJ N ps (ae st)) (xu:aE st=tp++tr) (rg:cE ⟨ae st,N,lG,bl,cs,px⟩ pre tp=true) (yj:ng px Φ) (ER:Bl px Φ)
  (sF:∀ y∈bl,mg y=none) (nr:∀ y i,(y,i)∈cs->∃ u,mg y=some u/\wo K i u) (sT:∀ g y,lG g=some y->Ent P w K mg base k y (Φ g))
  (hT:∀(X:Cx) (F:Addr->Prop),oB X ⟨ae st,N,lG,bl,cs,px⟩ k Φ->X.prog=P->X.w=w->X.K=K->X.mg=mg->X.base=base->X.stack=X.env::X.outer->X.env.frame=some X.env.locals->g9 X tr (Va X F T))
  (hm:∀ ds r,m ds=ok r->ds.length=ps.length/\∃ fo,aT Φ pre (ds.map some++List.replicate (N.length - ds.length) none)=ok fo/\o3 T r fo):eT P w K mg base Bq (k+1) f fd ps (Gq K ps.length m):=by
 refine Fu.ok (N:=N) Sc (λvs H Q E ⟨_,_,_,h,_⟩=>h) λgW A outer s H vs Q E hr yi=>?_;obtain⟨F,ds,r,hl,rs,er,hq⟩:=yi;obtain⟨ZI,fo,Se,hp⟩:=hm ds r er
 let X:=(j7 Bq P w K mg base N qual (ae st) f gW A outer s H E).yh
 have L:oB X ⟨ae st,N,lG,bl,cs,px⟩ k Φ:=⟨⟨rfl,rfl,Sc.nd,rfl,hr,sF,λg y h=>⟨(sT g y h).ex⟩,nr,yj⟩,λ_=>rfl,PassesOwn.never,Sc.kind,ER⟩
 have hpl:ps.length<=N.length:=by have:=aaS List.length Sc.pre;rw[List.length_take]at this;left
 rw[xu];exact⟨_,Ad (F:=F) L (hT X F L rfl rfl rfl rfl rfl rfl rfl) pre tp rg,_,_,_,r,fo,wQ (X:=X) rfl (by left) rs,Se,hp,λv H' s' rr=>hq v H' s' rr⟩
end DI
end
section
namespace DI
open PySem (Str)
section
variable {α β:Type}
@[simp] theorem dW(a:α)(f:α->O β):bd (ok a) f=f a:=rfl
@[simp] theorem UQ(c:Nat)(f:α->O β):bd (some (.error c)) f=some (.error c):=rfl
noncomputable def Kt(f:α->O β)(x:O α):O β:=bd x f
@[simp] theorem Yj(f:α->O β)(a:α):Kt f (ok a)=f a:=rfl
@[simp] theorem UU(f:α->O β)(c:Nat):Kt f (some (.error c))=some (.error c):=rfl
end
def Tn(op:JD)(x y:O D):O D:=bd x λx=>bd y λy=>cq op x y
@[simp] theorem UP(op:JD)(x y:D):Tn op (ok x) (ok y)=cq op x y:=rfl
def Tc(op:CV)(x y:O D):O D:=bd x λx=>bd y λy=>dG op x y
@[simp] theorem UN(op:CV)(x y:D):Tc op (ok x) (ok y)=dG op x y:=rfl
def Zo(x y:O D):O D:=bd x λx=>bd y λy=>vm x y
@[simp] theorem Wh(x y:D):Zo (ok x) (ok y)=vm x y:=rfl
def Q5(x:O D):O D:=bd (bd x iO) λb=>ok (.bl (!b))
@[simp] theorem Ui(b:Bool):Q5 (ok (.bl b))=ok (.bl (!b)):=rfl
@[simp] theorem PR(b:Bool):iO (.bl b)=ok b:=rfl
def wG(x:O D):O Bool:=bd x iO
@[simp] theorem G7(b:Bool):wG (ok (.bl b))=ok b:=rfl
@[simp] theorem PQ(c:Nat):wG (some (.error c))=some (.error c):=rfl
def Zp(t:Ty)(x:O D):O D:=bd x λx=>ok (.bl (cU t x))
@[simp] theorem Wo(t:Ty)(x:D):Zp t (ok x)=ok (.bl (cU t x)):=rfl
def F_(m:List D->O D)(xs:O (List D)):O D:=bd xs λxs=>bd (m (ag aC xs)) λr=>ok (aq mP r)
def XE(x:O D):O D:=bd x λr=>ok (aq mP r)
@[simp] theorem XD(r:D):XE (ok r)=ok (aq mP r):=rfl
@[simp] theorem UD(c:Nat):XE (some (.error c))=some (.error c):=rfl
@[simp] theorem Th(m:List D->O D)(xs:List D):F_ m (ok xs)=XE (m (ag aC xs)):=rfl
@[simp] theorem Pg(m:List D->O D)(c:Nat):F_ m (some (.error c))=some (.error c):=rfl
noncomputable def A4(x:O D)(xs:O (List D)):O (List D):=bd x λx=>bd xs λxs=>ok (x::xs)
@[simp] theorem Tb(x:D)(xs:List D):A4 (ok x) (ok xs)=ok (x::xs):=rfl
@[simp] theorem Pd(c:Nat)(xs:O (List D)):A4 (some (.error c)) xs=some (.error c):=rfl
@[simp] theorem Ob(x:D)(c:Nat):A4 (ok x) (some (.error c))=some (.error c):=rfl
noncomputable def Mx(x:O Bool)(a b:O D):O D:=bd x λk=>if k then a else b
@[simp] theorem Wl(a b:O D):Mx (ok true) a b=a:=rfl
@[simp] theorem Wm(a b:O D):Mx (ok false) a b=b:=rfl
def Jv(x y:O D):O D:=bd (bd x iO) λc=>if c then y else ok (.bl false)
@[simp] theorem Yk(y:O D):Jv (ok (.bl true)) y=y:=rfl
@[simp] theorem Ym(y:O D):Jv (ok (.bl false)) y=ok (.bl false):=rfl
@[simp] theorem Yn(a b:Bool):Jv (ok (.bl a)) (ok (.bl b))=ok (.bl (a&&b)):=by cases a<;>rfl
def Uc(x y:O D):O D:=bd (bd x iO) λc=>if c then ok (.bl true)else y
@[simp] theorem Y1(y:O D):Uc (ok (.bl true)) y=ok (.bl true):=rfl
@[simp] theorem Y2(y:O D):Uc (ok (.bl false)) y=y:=rfl
@[simp] theorem Y3(a b:Bool):Uc (ok (.bl a)) (ok (.bl b))=ok (.bl (a||b)):=by cases a<;>rfl
def EA(x:O D):O D:=bd (bd x iO) λc=>ok (.bl c)
@[simp] theorem Rt(c:Bool):EA (ok (.bl c))=ok (.bl c):=rfl
@[simp] theorem Qt(d:D):zU (some (some d))=ok (aq aR d):=rfl
section
variable (Φ:au)(ρ:aD)
@[simp] theorem Z8:aK Φ .bh ρ=ok .bh:=rfl
@[simp] theorem adu(b:Bool):aK Φ (.bl b) ρ=ok (.bl b):=rfl
@[simp] theorem Ki(i:Int):aK Φ (.int i) ρ=ok (.int i):=rfl
@[simp] theorem aae(x:Str)(i:Int):aK Φ (.glo x i) ρ=ok (.int i):=rfl
@[simp] theorem aad(x:Str)(zs:List Int):aK Φ (.glt x zs) ρ=ok (.tup (zs.map D.int)):=rfl
@[simp] theorem e_v(i:Nat):aK Φ (.v i) ρ=zU ρ[i]?:=rfl
@[simp] theorem aag(op:JD)(a b:CE):aK Φ (.bin op a b) ρ=Tn op (aK Φ a ρ) (aK Φ b ρ):=rfl
@[simp] theorem aaf(op:CV)(a b:CE):aK Φ (.cmp op a b) ρ=Tc op (aK Φ a ρ) (aK Φ b ρ):=rfl
@[simp] theorem Z_(a:CE):aK Φ (.neg a) ρ=Kt HX (aK Φ a ρ):=rfl
@[simp] theorem Z7(a:CE):aK Φ (.not a) ρ=Q5 (aK Φ a ρ):=rfl
@[simp] theorem aac(a:CE)(t:Ty):aK Φ (.pd a t) ρ=Zp t (aK Φ a ρ):=rfl
@[simp] theorem aab(c a b:CE):aK Φ (.ite c a b) ρ=Mx (wG (aK Φ c ρ)) (aK Φ a ρ) (aK Φ b ρ):=rfl
@[simp] theorem X6(f:Nat)(es:List CE):aK Φ (.call f es) ρ=F_ (Φ f) (bL Φ es ρ):=rfl
@[simp] theorem adv(f:Bf)(es:List CE):aK Φ (.bf f es) ρ=Kt (oZ f) (bL Φ es ρ):=rfl
@[simp] theorem Z4(f:Nat)(es:List CE):aK Φ (.cw f es) ρ=Kt (Φ f) (bL Φ es ρ):=rfl
@[simp] theorem adt(a b:CE):aK Φ (.ix a b) ρ=Zo (aK Φ a ρ) (aK Φ b ρ):=rfl
@[simp] theorem X4(a:CE):aK Φ (.mF a) ρ=Kt Az (aK Φ a ρ):=rfl
@[simp] theorem Z3(es:List CE):aK Φ (.tup es) ρ=Kt (λxs=>ok (.tup xs)) (bL Φ es ρ):=rfl
@[simp] theorem aaa(es:List CE):aK Φ (.lst es) ρ=Kt (λxs=>ok (.lst .ow xs)) (bL Φ es ρ):=rfl
@[simp] theorem S9(es:List CE):aK Φ (.and es) ρ=uo Φ es ρ:=rfl
@[simp] theorem ads(es:List CE):aK Φ (.or es) ρ=Cg Φ es ρ:=rfl
@[simp] theorem N3(e:CE):uo Φ [e] ρ=EA (aK Φ e ρ):=rfl
@[simp] theorem N1(e e':CE)(es:List CE):uo Φ (e::e'::es) ρ=Jv (aK Φ e ρ) (uo Φ (e'::es) ρ):=rfl
@[simp] theorem Z6(e:CE):Cg Φ [e] ρ=EA (aK Φ e ρ):=rfl
@[simp] theorem Z5(e e':CE)(es:List CE):Cg Φ (e::e'::es) ρ=Uc (aK Φ e ρ) (Cg Φ (e'::es) ρ):=rfl
@[simp] theorem Z9:bL Φ [] ρ=ok []:=rfl
@[simp] theorem X5(e:CE)(es:List CE):bL Φ (e::es) ρ=A4 (aK Φ e ρ) (bL Φ es ρ):=rfl
@[simp] theorem e_T(e:CE):sG Φ e ρ=wG (aK Φ e ρ):=rfl
theorem X9(e:CE):bd (aK Φ e ρ) iO=wG (aK Φ e ρ):=rfl
@[simp] theorem X8:jG Φ [] ρ=ok true:=rfl
@[simp] theorem X7(e:CE):jG Φ [e] ρ=wG (aK Φ e ρ):=by
 rw[jG,X9];cases h:wG (aK Φ e ρ)with
 | none=>rfl
 | some r=>cases r with
  | error c=>rfl
  | ok b=>cases b<;>simp[jG,bd,ok]
end
def rq(is:List Nat):Nat->aD->aD
 | _,[]=>[]
 | n,d::ρ=>(if n∈is then d.map (aq aC)else d)::rq is (n+1) ρ
theorem Ke(is:List Nat):∀(ρ:aD) (n:Nat),ρ.mapIdx (λi d=>if i+n∈is then d.map (aq aC)else d)=rq is n ρ
 | [],_=>rfl
 | d::ρ,n=>by
  rw[List.mapIdx_cons,rq,<- Ke is ρ (n+1)];simp only[Nat.zero_add,Nat.add_assoc,Nat.add_comm 1 n]
theorem vz(is:List Nat)(ρ:aD):iC is ρ=rq is 0 ρ:=by rw[<- Ke];rfl
@[simp] theorem SM(is:List Nat)(n:Nat):rq is n []=[]:=rfl
@[simp] theorem Pb(is:List Nat)(n:Nat)(d:Option D)(ρ:aD):rq is n (d::ρ)=(if n∈is then d.map (aq aC)else d)::rq is (n+1) ρ:=rfl
def cz(e:CE)(ρ:aD)(x:O D):O (D×aD):=bd x λd=>ok (keep e d ρ)
variable {ρ ρ1:aD}
@[simp] theorem mJ{e:CE}{d:D}(h:aI bE d=false):cz e ρ (ok d)=ok (d,ρ):=by
 show ok (keep e d ρ)=_;rw[keep,h];rfl
@[simp] theorem Rx{e:CE}{d:D}(h:aI bE d=true):cz e ρ (ok d)=ok (aq aC d,rq (iB e) 0 ρ):=by
 show ok (keep e d ρ)=_;rw[keep,h,<- vz];rfl
@[simp] theorem OO(e:CE)(ρ:aD)(c:Nat):cz e ρ (some (.error c))=some (.error c):=rfl
def Es(i:Nat)(ρ:aD)(o:Option (Option D)):O (D×aD):=match o with
 | some (some d)=>if aI cL d then ok (d,ρ.set i none)else ok (d,ρ)
 | _=>none
@[simp] theorem Rb{i:Nat}{d:D}(h:aI cL d=true):Es i ρ (some (some d))=ok (d,ρ.set i none):=aa3 h
@[simp] theorem Rc{i:Nat}{d:D}(h:aI cL d=false):Es i ρ (some (some d))=ok (d,ρ):=aco (by rw[h];exact aal)
@[simp] theorem k_v(Φ:au)(i:Nat)(ρ:aD):lb Φ (.v i) ρ=Es i ρ ρ[i]?:=rfl
noncomputable def isV:CE->Bool
 | .v _=>true
 | _=>false
@[simp] theorem Zk(Φ:au)(ρ:aD)(op:JD)(a b:CE):lb Φ (.bin op a b) ρ=cz (.bin op a b) ρ (aK Φ (.bin op a b) ρ):=rfl
@[simp] theorem Zj(Φ:au)(ρ:aD)(op:CV)(a b:CE):lb Φ (.cmp op a b) ρ=cz (.cmp op a b) ρ (aK Φ (.cmp op a b) ρ):=rfl
@[simp] theorem Wd(Φ:au)(ρ:aD)(f:Nat)(es:List CE):lb Φ (.call f es) ρ=cz (.call f es) ρ (aK Φ (.call f es) ρ):=rfl
@[simp] theorem abS(Φ:au)(ρ:aD)(f:Bf)(es:List CE):lb Φ (.bf f es) ρ=cz (.bf f es) ρ (aK Φ (.bf f es) ρ):=rfl
@[simp] theorem Zc(Φ:au)(ρ:aD)(f:Nat)(es:List CE):lb Φ (.cw f es) ρ=cz (.cw f es) ρ (aK Φ (.cw f es) ρ):=rfl
@[simp] theorem abQ(Φ:au)(ρ:aD)(a b:CE):lb Φ (.ix a b) ρ=cz (.ix a b) ρ (aK Φ (.ix a b) ρ):=rfl
@[simp] theorem Zb(Φ:au)(ρ:aD)(es:List CE):lb Φ (.tup es) ρ=cz (.tup es) ρ (aK Φ (.tup es) ρ):=rfl
@[simp] theorem Zg(Φ:au)(ρ:aD)(es:List CE):lb Φ (.lst es) ρ=cz (.lst es) ρ (aK Φ (.lst es) ρ):=rfl
@[simp] theorem J6(Φ:au)(ρ:aD)(i:Int):lb Φ (.int i) ρ=cz (.int i) ρ (aK Φ (.int i) ρ):=rfl
@[simp] theorem abR(Φ:au)(ρ:aD)(i:Bool):lb Φ (.bl i) ρ=cz (.bl i) ρ (aK Φ (.bl i) ρ):=rfl
@[simp] theorem Ze(Φ:au)(ρ:aD): lb Φ (.bh) ρ=cz (.bh) ρ (aK Φ (.bh) ρ):=rfl
@[simp] theorem Zf(Φ:au)(ρ:aD)(a:CE):lb Φ (.neg a) ρ=cz (.neg a) ρ (aK Φ (.neg a) ρ):=rfl
@[simp] theorem Zd(Φ:au)(ρ:aD)(a:CE):lb Φ (.not a) ρ=cz (.not a) ρ (aK Φ (.not a) ρ):=rfl
@[simp] theorem Ry(Φ:au)(ρ:aD)(es:List CE):lb Φ (.and es) ρ=cz (.and es) ρ (aK Φ (.and es) ρ):=rfl
@[simp] theorem abP(Φ:au)(ρ:aD)(es:List CE):lb Φ (.or es) ρ=cz (.or es) ρ (aK Φ (.or es) ρ):=rfl
@[simp] theorem Zh(Φ:au)(ρ:aD)(a b c:CE):lb Φ (.ite a b c) ρ=cz (.ite a b c) ρ (aK Φ (.ite a b c) ρ):=rfl
@[simp] theorem Wc(Φ:au)(ρ:aD)(n:Nat)(t:Tg)(caps:List Nat)(ik:IK)(es ba:List CE)(elt:CE):lb Φ (.comp n t caps ik es ba elt) ρ=cz (.comp n t caps ik es ba elt) ρ (aK Φ (.comp n t caps ik es ba elt) ρ):=rfl
@[simp] theorem Zi(Φ:au)(ρ:aD)(a:CE)(t:Ty):lb Φ (.pd a t) ρ=cz (.pd a t) ρ (aK Φ (.pd a t) ρ):=rfl
@[simp] theorem Wb(Φ:au)(ρ:aD)(a:CE):lb Φ (.mF a) ρ=cz (.mF a) ρ (aK Φ (.mF a) ρ):=rfl
theorem Gr(Φ:au)(e:CE)(ρ:aD)(h:isV e=false):lb Φ e ρ=cz e ρ (aK Φ e ρ):=by cases e<;>first | rfl | cases h
@[simp] theorem OC(ρ:aD):jy [] [] ρ=ok ρ:=rfl
variable {ds:List D}{is:List Nat}
@[simp] theorem Ld{i:Nat}{d:D}(h:i<ρ.length):jy (i::is) (d::ds) ρ=jy is ds (ρ.set i (some d)):=aa3 h
@[simp] theorem TY{i:Nat}{d:D}(h:i<ρ.length):bT (.nm i) d ρ=ok (ρ.set i (some d)):=aa3 h
@[simp] theorem TX(h:av cL ds=false):bT (.tp is) (.tup ds) ρ=jy is ds ρ:=aco (by rw[h];exact aal)
def Oj(i:Nat)(r:O (D×aD)):O (Fo×aD):=bd r λr=>bd (bT (.nm i) r.1 r.2) λρ'=>ok (.nx,ρ')
@[simp] theorem Bh{i:Nat}{d:D}(h:i<ρ.length):Oj i (ok (d,ρ))=ok (.nx,ρ.set i (some d)):=by
 show bd (bT (.nm i) d ρ) _=_;rw[bT,if_pos h];rfl
@[simp] theorem Ts(i:Nat)(c:Nat):Oj i (some (.error c))=some (.error c):=rfl
def Tr(is:List Nat)(r:O (D×aD)):O (Fo×aD):=bd r λr=>bd (bT (.tp is) r.1 r.2) λρ'=>ok (.nx,ρ')
@[simp] theorem US(h:av cL ds=false):Tr is (ok (.tup ds,ρ))=bd (jy is ds ρ) λρ'=>ok (.nx,ρ'):=by
 show bd (bT (.tp is) (.tup ds) ρ) _=_;rw[bT,h];rfl
noncomputable def retS(r:O (D×aD)):O (Fo×aD):=bd r λr=>ok (.rt r.1,r.2)
@[simp] theorem T1(d:D)(ρ:aD):retS (ok (d,ρ))=ok (.rt d,ρ):=rfl
@[simp] theorem QA(c:Nat):retS (some (.error c))=some (.error c):=rfl
noncomputable def XQ(ρ:aD)(x:O D):O (Fo×aD):=bd x λ_=>ok (.nx,ρ)
@[simp] theorem XO(ρ:aD)(d:D):XQ ρ (ok d)=ok (.nx,ρ):=rfl
@[simp] theorem UJ(ρ:aD)(c:Nat):XQ ρ (some (.error c))=some (.error c):=rfl
noncomputable def qo(Φ:au)(ss:List CS)(r:O (Fo×aD)):O (Fo×aD):=bd r λr=>match r with
 | (.nx,ρ')=>aT Φ ss ρ'
 | r=>ok r
@[simp] theorem wI(Φ:au)(ss:List CS)(ρ:aD):qo Φ ss (ok (.nx,ρ))=aT Φ ss ρ:=rfl
@[simp] theorem PY(Φ:au)(ss:List CS)(d:D)(ρ:aD):qo Φ ss (ok (.rt d,ρ))=ok (.rt d,ρ):=rfl
@[simp] theorem P0(Φ:au)(ss:List CS)(ρ:aD):qo Φ ss (ok (.bk,ρ))=ok (.bk,ρ):=rfl
@[simp] theorem PZ(Φ:au)(ss:List CS)(ρ:aD):qo Φ ss (ok (.ct,ρ))=ok (.ct,ρ):=rfl
@[simp] theorem OA(Φ:au)(ss:List CS)(c:Nat):qo Φ ss (some (.error c))=some (.error c):=rfl
noncomputable def Ik(Φ:au)(a b:List CS)(ρ:aD)(x:O Bool):O (Fo×aD):=bd x λk=>if k then aT Φ a ρ else aT Φ b ρ
@[simp] theorem Mv(Φ:au)(a b:List CS)(ρ:aD):Ik Φ a b ρ (ok true)=aT Φ a ρ:=rfl
@[simp] theorem Mw(Φ:au)(a b:List CS)(ρ:aD):Ik Φ a b ρ (ok false)=aT Φ b ρ:=rfl
@[simp] theorem Rz(Φ:au)(a b:List CS)(ρ:aD)(c:Nat):Ik Φ a b ρ (some (.error c))=some (.error c):=rfl
def Tt(i:Nat)(r:O (D×aD)):O (Fo×aD):=bd r λr=>match uZ r.2[i]? with
  | some ds=>if ds.length<iL then ok (.nx,r.2.set i (some (.lst .ow (ds++[r.1]))))else none
  | none=>none
@[simp] theorem UT{i:Nat}{d:D}(h:ρ[i]?=some (some (.lst .ow ds)))(hl:ds.length<iL):Tt i (ok (d,ρ))=ok (.nx,ρ.set i (some (.lst .ow (ds++[d])))):=by
 show(match uZ ρ[i]? with | some ds=>_ | none=>_)=_;rw[h];exact aa3 hl
variable {es:List CE}
section
variable (Φ:au)(ρ:aD)
@[simp] theorem YF:aT Φ [] ρ=ok (.nx,ρ):=rfl
@[simp] theorem dB(s:CS)(ss:List CS):aT Φ (s::ss) ρ=qo Φ ss (rF Φ s ρ):=rfl
@[simp] theorem C0(i:Nat)(e:CE):rF Φ (.asg (.nm i) e) ρ=Oj i (lb Φ e ρ):=rfl
@[simp] theorem U3(is:List Nat)(e:CE):rF Φ (.asg (.tp is) e) ρ=Tr is (lb Φ e ρ):=rfl
@[simp] theorem Pt(e:CE):rF Φ (.ret e) ρ=retS (lb Φ e ρ):=rfl
theorem tJ(c:CE)(b:List CS):rF Φ (.KI c b) ρ=fO (λρ=>bd (sG Φ c ρ) λk=>if k then bd (aT Φ b ρ) λr=>match r with
   | (.nx,ρ')=>ok (.inl ρ')
   | (.ct,ρ')=>ok (.inl ρ')
   | (.bk,ρ')=>ok (.inr (.nx,ρ'))
   | (.rt d,ρ')=>ok (.inr (.rt d,ρ'))
  else ok (.inr (.nx,ρ))) ρ:=rfl
theorem Pu(i j:Nat)(a b:CE):rF Φ (.par i j a b) ρ=bd (aK Φ a ρ) λx=>bd (aK Φ b ρ) λy=>if aI anyF x=false/\aI anyF y=false/\i<ρ.length/\j<ρ.length then ok (.nx,(ρ.set i (some x)).set j (some y))else none:=rfl
@[simp] theorem aaJ(c:Nat):rF Φ (.rs c) ρ=some (.error c):=rfl
@[simp] theorem aaK(e:CE):rF Φ (.ex e) ρ=XQ ρ (aK Φ e ρ):=rfl
@[simp] theorem CZ(c:CE)(a b:List CS):rF Φ (.ifs c a b) ρ=Ik Φ a b ρ (wG (aK Φ c ρ)):=rfl
def Rk(i:Nat)(es:List CE)(ρ:aD)(x:O (List D)):O (Fo×aD):=bd x λxs=>if i<ρ.length then ok (.nx,(iC (ck es) ρ).set i (some (.lst .ow (ag aC xs))))else none
@[simp] theorem Um{i:Nat}{ρ:aD}{xs:List D}(h:i<ρ.length):Rk i es ρ (ok xs)=ok (.nx,(rq (ck es) 0 ρ).set i (some (.lst .ow (ag aC xs)))):=by
 show(if i<ρ.length then _ else _)=_;rw[if_pos h,vz]
@[simp] theorem YG(i:Nat)(es:List CE):rF Φ (.lsn i es) ρ=Rk i es ρ (bL Φ es ρ):=rfl
@[simp] theorem Pw(i:Nat)(e:CE):rF Φ (.app i e) ρ=Tt i (lb Φ e ρ):=rfl
end
noncomputable def mk(Φ:au)(ar n:Nat)(b:List CS):List D->O D:=λds=>if ds.length=ar then BL Φ n b ds else none
noncomputable def sV(r:O (Fo×aD)):O D:=bd r λr=>match r.1 with
 | .nx=>ok .bh
 | .rt d=>ok d
 | _=>none
@[simp] theorem UM(ρ:aD):sV (ok (.nx,ρ))=ok .bh:=rfl
@[simp] theorem UL(d:D)(ρ:aD):sV (ok (.rt d,ρ))=ok d:=rfl
@[simp] theorem S7(c:Nat):sV (some (.error c))=some (.error c):=rfl
variable {B M W ar:Nat}{Φ:au}
theorem mk_eq{n:Nat}{b:List CS}(h:ds.length=ar):mk Φ ar n b ds=sV (aT Φ b (ds.map some++List.replicate (n - ds.length) none)):=aa3 h
theorem az{n:Nat}{b:List CS}(ds:List D)(r:D)(h:mk Φ ar n b ds=ok r):ds.length=ar/\BL Φ n b ds=ok r:=by
 unfold mk at h;split at h
 ·rename_i hl;exact⟨hl,h⟩
 ·cases h
theorem Int.beq_eq_decide_eq(i j:Int):(i==j)=decide (i=j):=rfl
section
variable (g:Fl->Fl)(p:Fl->Bool)
@[simp] theorem Ib(b:Bool):aq g (.bl b)=.bl b:=rfl
@[simp] theorem Eu(b:Int):aq g (.int b)=.int b:=rfl
@[simp] theorem Rg:aq g .bh=.bh:=rfl
@[simp] theorem Et(ds:List D):aq g (.tup ds)=.tup (ag g ds):=rfl
@[simp] theorem Rh(f:Fl)(ds:List D):aq g (.lst f ds)=.lst (g f) (ag g ds):=rfl
@[simp] theorem Ri(f:Fl)(ks:List (List Int))(vs:List D):aq g (.bY f ks vs)=.bY (g f) ks (ag g vs):=rfl
@[simp] theorem OK:ag g []=[]:=rfl
@[simp] theorem Md(d:D)(ds:List D):ag g (d::ds)=aq g d::ag g ds:=rfl
@[simp] theorem OM(a b:List D):ag g (a++b)=ag g a++ag g b:=by simp only[aB,List.map_append]
@[simp] theorem OL(ds:List D):(ag g ds).length=ds.length:=by rw[aB,List.length_map]
theorem cK{α:Type}{e:α->D}(h:∀ x,aq g (e x)=e x)(xs:List α):ag g (xs.map e)=xs.map e:=by
 rw[aB,List.map_map];exact aaz λx _=>h x
theorem bG{α:Type}{e:α->D}(h:∀ x,aI p (e x)=false):∀ xs:List α,av p (xs.map e)=false
 | []=>by rw[List.map_nil,av]
 | x::xs=>by rw[List.map_cons,av,h x,bG h xs];rfl
@[simp] theorem IC(b:Bool):aI p (.bl b)=false:=ab9 rfl
@[simp] theorem rl(b:Int):aI p (.int b)=false:=ab9 rfl
@[simp] theorem Su:aI p .bh=false:=ab9 rfl
@[simp] theorem Fb(ds:List D):aI p (.tup ds)=av p ds:=ab9 rfl
@[simp] theorem Fc(f:Fl)(ds:List D):aI p (.lst f ds)=(p f||av p ds):=ab9 rfl
@[simp] theorem Sv(f:Fl)(ks:List (List Int))(vs:List D):aI p (.bY f ks vs)=(p f||av p vs):=ab9 rfl
@[simp] theorem O7:av p []=false:=ab9 rfl
@[simp] theorem M1(d:D)(ds:List D):av p (d::ds)=(aI p d||av p ds):=ab9 rfl
@[simp] theorem Cb:∀ a b:List D,av p (a++b)=(av p a||av p b)
 | [],b=>by simp
 | d::a,b=>by simp[Cb a b,Bool.or_assoc]
@[simp] theorem yS(ns:List Int):ag g (ns.map D.int)=ns.map D.int:=cK g (Eu g) ns
@[simp] theorem zg(ns:List Int):av p (ns.map D.int)=false:=bG p (rl p) ns
@[simp] theorem BW(ns:List Bool):ag g (ns.map D.bl)=ns.map D.bl:=cK g (Ib g) ns
@[simp] theorem Ca(ns:List Bool):av p (ns.map D.bl)=false:=bG p (IC p) ns
@[simp] theorem OP(t:Ty)(d:D):cU t (aq g d)=cU t d:=by cases d<;>cases t<;>rfl
end
@[simp] theorem Nv:aR .ow=.al:=rfl
@[simp] theorem Nw:aR .fz=.fz:=rfl
@[simp] theorem Nx:aR .al=.al:=rfl
@[simp] theorem Nu:aR .sc=.sc:=rfl
@[simp] theorem Np:aC .ow=.fz:=rfl
@[simp] theorem Nq:aC .fz=.fz:=rfl
@[simp] theorem Nt:aC .al=.fz:=rfl
@[simp] theorem Nn:aC .sc=.sc:=rfl
@[simp] theorem NL:mP .ow=.ow:=rfl
@[simp] theorem NM:mP .fz=.al:=rfl
@[simp] theorem NN:mP .al=.al:=rfl
@[simp] theorem NK:mP .sc=.sc:=rfl
@[simp] theorem NH:bE .ow=false:=rfl
@[simp] theorem NI:bE .fz=false:=rfl
@[simp] theorem NJ:bE .al=true:=rfl
@[simp] theorem NG:bE .sc=false:=rfl
@[simp] theorem NC:cL .ow=true:=rfl
@[simp] theorem ND:cL .fz=false:=rfl
@[simp] theorem NF:cL .al=false:=rfl
@[simp] theorem NB:cL .sc=false:=rfl
@[simp] theorem Ny:Il .ow=false:=rfl
@[simp] theorem Nz:Il .fz=false:=rfl
@[simp] theorem NA:Il .al=false:=rfl
noncomputable def aa(ns:List Int):List D:=ns.map D.int
noncomputable def mU(ns:List Bool):List D:=ns.map D.bl
@[simp] theorem OU(ns:List Int):(aa ns).length=ns.length:=abh ..
@[simp] theorem Tj(ns:List Bool):(mU ns).length=ns.length:=abh ..
@[simp] theorem OT:aa []=[]:=rfl
@[simp] theorem MH(n:Int)(ns:List Int):aa (n::ns)=.int n::aa ns:=rfl
@[simp] theorem MG(ns:List Int)(n:Int):aa ns++[.int n]=aa (ns++[n]):=by simp[aa]
@[simp] theorem uh(ns:List Int)(i:Nat):(aa ns)[i]?=ns[i]?.map D.int:=List.getElem?_map ..
@[simp] theorem eJ(g:Fl->Fl)(ns:List Int):ag g (aa ns)=aa ns:=yS g ns
@[simp] theorem xI(p:Fl->Bool)(ns:List Int):av p (aa ns)=false:=zg p ns
@[simp] theorem Me(g:Fl->Fl)(ns:List Bool):ag g (mU ns)=mU ns:=BW g ns
@[simp] theorem M3(p:Fl->Bool)(ns:List Bool):av p (mU ns)=false:=Ca p ns
@[simp] theorem aaj(i j:Int):cq .add (.int i) (.int j)=ok (.int (i+j)):=rfl
@[simp] theorem aai(i j:Int):cq .sub (.int i) (.int j)=ok (.int (i - j)):=rfl
theorem iG{i j:Int}(h:gw i j=true):cq .mul (.int i) (.int j)=ok (.int (i*j)):=aa3 h
theorem rZ{i j:Int}(h:uu j=true):cq .fdiv (.int i) (.int j)=ok (.int (i.fdiv j)):=aa3 h
@[simp] theorem Tp{i j:Int}(h:j≠0):cq .mod (.int i) (.int j)=ok (.int (i.fmod j)):=aa3 h
@[simp] theorem To{i j:Int}(h:0<=j):cq .shr (.int i) (.int j)=ok (.int (i / 2 ^ j.toNat)):=aa3 h
theorem Kr{i j:Int}(h:Ah i j=true):cq .pow (.int i) (.int j)=ok (.int (i ^ j.toNat)):=aa3 h
@[simp] theorem Y_(i:Int):HX (.int i)=ok (.int (-i)):=rfl
theorem mulOk_of{i j:Int}(h:i.natAbs<2 ^ 9000)(h':j.natAbs<2 ^ 9000):gw i j=true:=by
 simp only[gw,big,h,h',decide_true,Bool.and_self,Bool.or_true]
theorem vf{n:Nat}(h:n<2 ^ 64):n<2 ^ 9000:=aan h (aau (by decide) (by decide))
theorem vb{i:Int}(j:Int)(h:i.natAbs<2 ^ 64):gw i j=true:=by simp only[gw,h,decide_true,Bool.true_or]
theorem HZ{j:Int}(i:Int)(h:j.natAbs<2 ^ 64):gw i j=true:=by simp only[gw,h,decide_true,Bool.true_or,Bool.or_true]
theorem j6{j:Int}(h0:j≠0)(h:j.natAbs<2 ^ 9000):uu j=true:=by
 simp only[uu,big,h,decide_true,Bool.and_true,decide_eq_true_eq];exact h0
@[simp] theorem UR{i j:Int}(h:j.natAbs<2 ^ 64):cq .mul (.int i) (.int j)=ok (.int (i*j)):=iG (HZ i h)
@[simp] theorem kI{i j:Int}(h:i.natAbs<2 ^ 64):cq .mul (.int i) (.int j)=ok (.int (i*j)):=iG (vb j h)
@[simp] theorem Tq{i j:Int}(h0:j≠0)(h:j.natAbs<2 ^ 64):cq .fdiv (.int i) (.int j)=ok (.int (i.fdiv j)):=rZ (j6 h0 (vf h))
theorem zC{a b:D}(ha:cQ 40 a=true)(hb:cQ 40 b=true):dG .eq a b=ok (.bl (jH a b)):=by
 show(if cQ 40 a&&cQ 40 b then _ else _)=_;rw[ha,hb];rfl
theorem Jo{a b:D}(ha:cQ 40 a=true)(hb:cQ 40 b=true):dG .ne a b=ok (.bl (!jH a b)):=by
 show(if cQ 40 a&&cQ 40 b then _ else _)=_;rw[ha,hb];rfl
@[simp] theorem gu(n:Nat)(i:Int):cQ n (.int i)=true:=by cases n<;>rfl
@[simp] theorem V1(n:Nat)(i:Bool):cQ n (.bl i)=true:=by cases n<;>rfl
@[simp] theorem Ug(n:Nat):cQ n .bh=true:=by cases n<;>rfl
@[simp] theorem fm(n:Nat)(ds:List D):cQ (n+1) (.tup ds)=ds.all (cQ n):=rfl
@[simp] theorem u_(n:Nat)(f:Fl)(ds:List D):cQ (n+1) (.lst f ds)=ds.all (cQ n):=rfl
@[simp] theorem VO(i j:Int):dG .eq (.int i) (.int j)=ok (.bl (decide (i=j))):=by rw[zC (gu _ _) (gu _ _)];show ok (D.bl (i==j))=_;rw[Int.beq_eq_decide_eq]
@[simp] theorem VN(i j:Int):dG .ne (.int i) (.int j)=ok (.bl (!decide (i=j))):=by rw[Jo (gu _ _) (gu _ _)];show ok (D.bl (!(i==j)))=_;rw[Int.beq_eq_decide_eq]
@[simp] theorem abz(i j:Int):dG .lt (.int i) (.int j)=ok (.bl (decide (i<j))):=rfl
@[simp] theorem abA(i j:Int):dG .le (.int i) (.int j)=ok (.bl (decide (i<=j))):=rfl
@[simp] theorem abB(i j:Int):dG .gt (.int i) (.int j)=ok (.bl (decide (j<i))):=rfl
@[simp] theorem abC(i j:Int):dG .ge (.int i) (.int j)=ok (.bl (decide (j<=i))):=rfl
@[simp] theorem Zt(ds:List D)(i:Int):vm (.tup ds) (.int i)=yn ds i:=rfl
@[simp] theorem Zu(f:Fl)(ds:List D)(i:Int):vm (.lst f ds) (.int i)=yn ds i:=rfl
theorem v_{n:Nat}{d:D}(h:ds[n]?=some d):yn ds (n:Int)=ok (aq aR d):=by
 have hn:n<ds.length:=(List.getElem?_eq_some_iff.mp h).1;have e:B0 ds.length (n:Int)=some n:=by unfold B0;rw[if_pos (by left),if_pos (by left)];rfl
 unfold yn;rw[e,Option.bind_some,h]
theorem at_of{i:Int}{d:D}(h0:0<=i)(h:ds[i.toNat]?=some d):yn ds i=ok (aq aR d):=by
 have:=v_ h
 rwa [show((i.toNat:Nat):Int)=i by left]at this
@[simp] theorem adI(d:D)(ds:List D):yn (d::ds) 0=ok (aq aR d):=v_ (n:=0) rfl
@[simp] theorem adH(a d:D)(ds:List D):yn (a::d::ds) 1=ok (aq aR d):=v_ (n:=1) rfl
@[simp] theorem adG(a b d:D)(ds:List D):yn (a::b::d::ds) 2=ok (aq aR d):=v_ (n:=2) rfl
@[simp] theorem UH(ds:List D):oZ .len [.tup ds]=ok (.int ds.length):=rfl
@[simp] theorem UI(f:Fl)(ds:List D):oZ .len [.lst f ds]=ok (.int ds.length):=rfl
@[simp] theorem Z1(i:Int):oZ .abs [.int i]=ok (.int i.natAbs):=by
 show ok (D.int (if i<0 then -i else i))=_;congr 2;split<;>left
@[simp] theorem SR(f:Fl)(ds:List D):oZ .list1 [.lst f ds]=ok (.lst .ow (ag aR ds)):=rfl
@[simp] theorem SQ(ds:List D):oZ .list1 [.tup ds]=ok (.lst .ow (ag aR ds)):=rfl
@[simp] theorem UG(f:Fl)(ds:List D):oZ .tuple1 [.lst f ds]=ok (.tup (ag aR ds)):=rfl
@[simp] theorem UE(ds:List D):oZ .tuple1 [.tup ds]=ok (.tup (ag aR ds)):=rfl
@[simp] theorem ZZ(f:Fl)(ns:List Int):oZ .fQ [.lst f (aa ns)]=ok (.int ns.sum):=by
 show(match intsOf (ns.map D.int)with | some ns=>_ | none=>_)=_;rw[aV]
@[simp] theorem Z0(f:Fl)(bs:List Bool):oZ .all1 [.lst f (mU bs)]=ok (.bl (bs.all id)):=by
 show(match j9 (bs.map D.bl)with | some ns=>_ | none=>_)=_;rw[oi]
variable {bu ns:List Int}
@[simp] theorem IL(h:ns.length<64):oZ .iQ [.tup (aa ns)]=ok (.lst .ow (aa (sortI ns))):=by
 show tR _=_;unfold tR aa;rw[aV];exact aa3 h
@[simp] theorem NO(h:ns.length<4000):Az (.tup (aa ns))=ok (.int (vG ns).length):=by
 show(match intsOf (ns.map D.int)with | some ns=>_ | none=>_)=_;rw[aV];exact aa3 h
@[simp] theorem mR(i j:Int):jH (.int i) (.int j)=decide (i=j):=by show(i==j)=_;rw[Int.beq_eq_decide_eq]
@[simp] theorem XX(i j:Bool):jH (.bl i) (.bl j)=(i==j):=rfl
@[simp] theorem IS(a b:List D):jH (.tup a) (.tup b)=cC a b:=rfl
@[simp] theorem IT(f g:Fl)(a b:List D):jH (.lst f a) (.lst g b)=cC a b:=rfl
@[simp] theorem FN:cC [] []=true:=rfl
@[simp] theorem nQ(a b:D)(as bs:List D):cC (a::as) (b::bs)=(jH a b&&cC as bs):=rfl
theorem rG:∀ {as bs:List D},cC as bs=true->as.length=bs.length
 | [],[],_=>rfl
 | [],_::_,h=>(aal h).elim
 | _::_,[],h=>(aal h).elim
 | a::as,b::bs,h=>by
  replace h:(_&&_)=true:=h;rw[Bool.and_eq_true]at h;rw[List.length_cons,List.length_cons,rG h.2]
theorem j5{α:Type}{e:α->D}[DecidableEq α](h:∀ x y,jH (e x) (e y)=decide (x=y)):∀ xs ys:List α,cC (xs.map e) (ys.map e)=decide (xs=ys)
 | [],[]=>by simp
 | [],y::ys=>by
  cases z:cC ([].map e) ((y::ys).map e)with
  | true=>have:=rG z;simp at this
  | false=>simp
 | x::xs,[]=>by
  cases z:cC ((x::xs).map e) ([].map e)with
  | true=>have:=rG z;simp at this
  | false=>simp
 | x::xs,y::ys=>by
  rw[List.map_cons,List.map_cons,nQ,h,j5 h xs ys];by_cases e1:x=y<;>by_cases e2:xs=ys<;>simp[e1,e2]
theorem pV{α:Type}{e:α->D}{n:Nat}(h:∀ x,cQ n (e x)=true)(xs:List α):(xs.map e).all (cQ n)=true:=by
 rw[List.all_map];exact List.all_eq_true.mpr λx _=>h x
theorem aU{bind:D->O aD}{test:aD->O Bool}{el:aD->O D}{α:Type}{e:α->D}{g:α->D}:∀ {xs:List α},(∀ x∈xs,∃ ρ,bind (e x)=ok ρ/\test ρ=ok true/\el ρ=ok (g x))->iF bind test el (xs.map e)=ok (xs.map g)
 | [],_=>rfl
 | x::xs,h=>by
  obtain⟨ρ,h1,h2,h3⟩:=h x (aao ..);have ih:=aU (xs:=xs) λy hy=>h y (aam _ hy);rw[List.map_cons,iF,h1,dW,h2,dW,if_pos rfl,h3,dW,ih];rfl
theorem gG{bind:D->O aD}{test:aD->O Bool}{el:aD->O D}{α:Type}{e:α->D}{g:α->D}{t:α->Bool}:∀ {xs:List α},(∀ x∈xs,∃ ρ,bind (e x)=ok ρ/\test ρ=ok (t x)/\(t x=true->el ρ=ok (g x)))->iF bind test el (xs.map e)=ok ((xs.filter t).map g)
 | [],_=>rfl
 | x::xs,h=>by
  obtain⟨ρ,h1,h2,h3⟩:=h x (aao ..);have ih:=gG (xs:=xs) λy hy=>h y (aam _ hy);rw[List.map_cons,iF,h1,dW,h2,dW,List.filter_cons];cases ht:t x with
  | true=>rw[if_pos rfl,h3 ht,dW,ih,if_pos rfl];rfl
  | false=>rw[if_neg Bool.false_ne_true,ih,if_neg Bool.false_ne_true]
section
variable {Φ:au}{n:Nat}{t:Tg}{caps:List Nat}{ik:IK}{es ba:List CE}{elt:CE}{ρ:aD}{xs items ds:List D}
theorem bo(h1:bL Φ es ρ=ok xs)(h2:cS Φ ik xs=ok items)
  (h3:iF (λd=>bT t d (aM n caps ρ)) (λρ'=>jG Φ ba ρ') (λρ'=>aK Φ elt ρ') items=ok ds) (hl:ds.length<=iL):aK Φ (.comp n t caps ik es ba elt) ρ=ok (.lst .ow (ag mP ds)):=by
 show bd (bL Φ es ρ) _=_;rw[h1,dW,h2,dW,h3,dW,if_pos hl]
end
theorem vn(Φ:au)(ds:List D):cS Φ .seq [.tup ds]=ok (ag aC ds):=rfl
theorem df(Φ:au)(f:Fl)(ds:List D):cS Φ .seq [.lst f ds]=ok (ag aC ds):=rfl
theorem mK(Φ:au){n:Int}(h0:0<=n)(h:n<=1000000):cS Φ .k9 [.int n]=ok ((List.range n.toNat).map λ(k:Nat)=>D.int (k:Int)):=by
 show(if n<=(iL:Int) /\ -(iL:Int)<=n then _ else _)=_;have:(iL:Int)=1000000:=rfl;rw[if_pos (by left)]
theorem aX{n:Nat}(h:n<=1000000):n<=iL:=h
theorem fN{t:Tg}{it:CI}{b:List CS}{items:List D}{r:O (Fo×aD)}(h:cA Φ it ρ=ok (items,ρ1))(h':dO (λd ρ=>bT t d ρ) (λρ=>aT Φ b ρ) items ρ1=r):rF Φ (.fr t it b) ρ=r:=by
 show bd (cA Φ it ρ) _=_;rw[h];exact h'
theorem fC(bind:D->aD->O aD)(body:aD->O (Fo×aD))(ρ:aD):dO bind body [] ρ=ok (.nx,ρ):=rfl
theorem dt{bind:D->aD->O aD}{body:aD->O (Fo×aD)}{x:D}{xs:List D}{ρ2:aD}{r:O (Fo×aD)}(h1:bind x ρ=ok ρ1)(h2:body ρ1=ok (.nx,ρ2))(h3:dO bind body xs ρ2=r):dO bind body (x::xs) ρ=r:=by
 rw[dO,h1,dW,h2];exact h3
theorem EF{a:CE}{n:Int}(h:aK Φ a ρ=ok (.int n))(h0:0<=n)(h1:n<=1000000):cA Φ (.k9 a) ρ=ok ((List.range n.toNat).map λ(k:Nat)=>D.int (k:Int),ρ):=by
 show bd (aK Φ a ρ) _=_;rw[h];show(if n<=(iL:Int) /\ -(iL:Int)<=n then _ else _)=_;have:(iL:Int)=1000000:=rfl;rw[if_pos (by left)]
theorem Wn{a:CE}(h:aK Φ a ρ=ok (.tup ds)):cA Φ (.seq a) ρ=ok (ag aC ds,if av bE ds then rq (iB a) 0 ρ else ρ):=by
 show bd (aK Φ a ρ) _=_;rw[h,<- vz];show ok (_,if aI bE (.tup ds)then _ else _)=_;rw[Fb]
theorem yY{a:CE}{f:Fl}(h:aK Φ a ρ=ok (.lst f ds)):cA Φ (.seq a) ρ=ok (ag aC ds,if (bE f||av bE ds)then rq (iB a) 0 ρ else ρ):=by
 show bd (aK Φ a ρ) _=_;rw[h,<- vz];show ok (_,if aI bE (.lst f ds)then _ else _)=_;rw[Fc]
noncomputable def fY(t b:Int):Int:=if b<0 then -(Int.gcd t b:Int)else(Int.gcd t b:Int)
def L7(t b:Int):Int:=t.fdiv (fY t b)
def L8(t b:Int):Int:=b.fdiv (fY t b)
theorem AM{t b:Int}(h:b≠0):0<Int.gcd t b:=Int.gcd_pos_of_ne_zero_right t h
theorem lI{t b:Int}(h:b≠0):fY t b≠0:=by
 have:=AM (t:=t) h;unfold fY;split<;>left
theorem Ni{t b:Int}(h:b≠0):Int.gcd t b<=b.natAbs:=abo (by left) (Nat.gcd_dvd_right _ _)
theorem Jb{t b:Int}(h:b≠0):(fY t b).natAbs<=b.natAbs:=by
 have:=Ni (t:=t) h;unfold fY;split<;>left
theorem qI{t b:Int}(h:b≠0):∃ t' b':Int,t=fY t b*t'/\b=fY t b*b'/\L7 t b=t'/\L8 t b=b'/\1<=b'/\Int.gcd t' b'=1:=by
 have hg:=AM (t:=t) h;obtain⟨t1,ht⟩:(Int.gcd t b:Int)∣t:=Int.gcd_dvd_left ..;obtain⟨b1,hb⟩:(Int.gcd t b:Int)∣b:=Int.gcd_dvd_right ..;have hc:Int.gcd t1 b1=1:=by
  have e:Int.gcd ((Int.gcd t b:Int)*t1) ((Int.gcd t b:Int)*b1)=Int.gcd t b*Int.gcd t1 b1:=by
   rw[Int.gcd_mul_left];simp
  rw[<- ht,<- hb]at e;have:Int.gcd t b*1=Int.gcd t b*Int.gcd t1 b1:=by rw[Nat.mul_one];exact e
  exact(Nat.eq_of_mul_eq_mul_left hg this).symm
 by_cases hn:b<0
 ·have ed:fY t b = -(Int.gcd t b:Int):=by simp[fY,hn]
  have e1:t=fY t b*(-t1):=by rw[ed,Int.neg_mul_neg];exact ht
  have e2:b=fY t b*(-b1):=by rw[ed,Int.neg_mul_neg];exact hb
  refine⟨-t1,-b1,e1,e2,?_,?_,?_,by rw[Int.gcd_neg,Int.neg_gcd];exact hc⟩
  ·unfold L7
   conv=>lhs;arg 1;rw[e1]
   exact abd _ (lI h)
  ·unfold L8
   conv=>lhs;arg 1;rw[e2]
   exact abd _ (lI h)
  ·have:b1<0:=by
    by_cases Sq:b1<0
    ·exact Sq
    ·have:0<=(Int.gcd t b:Int)*b1:=Int.mul_nonneg (by left) (by left);left
   left
 ·have ed:fY t b=(Int.gcd t b:Int):=by simp[fY,hn]
  have e1:t=fY t b*t1:=by rw[ed];exact ht
  have e2:b=fY t b*b1:=by rw[ed];exact hb
  refine⟨t1,b1,e1,e2,?_,?_,?_,hc⟩
  ·unfold L7
   conv=>lhs;arg 1;rw[e1]
   exact abd _ (lI h)
  ·unfold L8
   conv=>lhs;arg 1;rw[e2]
   exact abd _ (lI h)
  ·have:0<b1:=by
    by_cases Sq:0<b1
    ·exact Sq
    ·have:(Int.gcd t b:Int)*b1<=0:=Int.mul_nonpos_of_nonneg_of_nonpos (by left) (by left);left
   left
noncomputable def qD(q:Rat):D:=.tup [.int q.num,.int q.den]
@[simp] theorem Mg(g:Fl->Fl)(q:Rat):aq g (qD q)=qD q:=by unfold qD;simp
@[simp] theorem M5(g:Fl->Bool)(q:Rat):aI g (qD q)=false:=by unfold qD;simp
noncomputable def ai(qs:List Rat):List D:=qs.map qD
@[simp] theorem T6(qs:List Rat):(ai qs).length=qs.length:=abh ..
@[simp] theorem T5:ai []=[]:=rfl
@[simp] theorem QH(q:Rat)(qs:List Rat):ai (q::qs)=qD q::ai qs:=rfl
@[simp] theorem QG(qs:List Rat)(q:Rat):ai qs++[qD q]=ai (qs++[q]):=by simp[ai]
@[simp] theorem HE(qs:List Rat)(i:Nat):(ai qs)[i]?=qs[i]?.map qD:=List.getElem?_map ..
@[simp] theorem T4(qs:List Rat)(i:Nat)(q:Rat):(ai qs).set i (qD q)=ai (qs.set i q):=by unfold ai;rw[List.map_set]
@[simp] theorem fS(g:Fl->Fl)(qs:List Rat):ag g (ai qs)=ai qs:=cK g (Mg g) qs
@[simp] theorem xH(g:Fl->Bool)(qs:List Rat):av g (ai qs)=false:=bG g (M5 g) qs
theorem Ar(n:Nat)(q:Rat):cQ (n+1) (qD q)=true:=by
 unfold qD;rw[fm,List.all_cons,List.all_cons,gu,gu];rfl
theorem FO(p q:Rat):jH (qD p) (qD q)=decide (p=q):=by
 unfold qD;rw[IS,nQ,nQ,FN,mR,mR,Bool.and_true];by_cases h:p=q
 ·subst h;simp
 ·rw[decide_eq_false h];cases e1:decide (p.num=q.num)with
  | false=>rfl
  | true =>
   cases e2:decide ((p.den:Int)=(q.den:Int))with
   | false=>rfl
   | true =>
    refine absurd (Rat.ext (by simpa using e1) ?_) h;have:(p.den:Int)=q.den:=by simpa using e2
    left
@[simp] theorem Zn(q:Rat):vm (qD q) (.int 0)=ok (.int q.num):=by unfold qD;simp
@[simp] theorem Zm(q:Rat):vm (qD q) (.int 1)=ok (.int q.den):=by unfold qD;simp
theorem vB{t b:Int}(hb:b≠0):t.fdiv (fY t b)=(Rat.divInt t b).num/\b.fdiv (fY t b)=((Rat.divInt t b).den:Int):=by
 obtain⟨t',b',e1,e2,h1,h2,h3,h4⟩:=qI (t:=t) hb;have hd:=lI (t:=t) hb;have e:Rat.divInt t b=Rat.divInt t' b':=by
  generalize fY t b=d at *;rw[e1,e2];exact Rat.divInt_mul_left hd
 obtain⟨n,rfl⟩:∃ n:Nat,b'=(n:Int):=⟨b'.toNat,by left⟩
 have hc:t'.natAbs.Coprime n:=by
  have:Nat.gcd t'.natAbs n=1:=by simpa [Int.gcd]using h4
  exact this
 have hn:n≠0:=by left
 have e3:Rat.divInt t' (n:Int)=⟨t',n,hn,hc⟩:=Rat.mk_eq_divInt.symm;rw[e,e3];exact⟨h1,h2⟩
theorem lq(q:Rat):(q.den:Int)≠0:=by have:=q.den_pos;left
theorem QI(q:Rat):(1:Int)<=q.den:=by have:=q.den_pos;left
theorem eL(q:Rat):Rat.divInt q.num q.den=q:=Rat.num_divInt_den q
theorem pR{t b:Int}(hb:b≠0):(Rat.divInt t b).num.natAbs<=t.natAbs/\(Rat.divInt t b).den<=b.natAbs:=by
 obtain⟨t',b',e1,e2,h1,h2,h3,h4⟩:=qI (t:=t) hb;obtain⟨g1,g2⟩:=vB (t:=t) hb;have hd:1<=(fY t b).natAbs:=by have:=lI (t:=t) hb;left
 rw[show t.fdiv (fY t b)=t' from h1]at g1;rw[show b.fdiv (fY t b)=b' from h2]at g2;refine⟨?_,?_⟩
 ·rw[<- g1];have:t.natAbs=(fY t b).natAbs*t'.natAbs:=by rw[<- Int.natAbs_mul,<- e1]
  rw[this];exact abH _ hd
 ·have hz:(Rat.divInt t b).den=b'.natAbs:=by left
  rw[hz];have:b.natAbs=(fY t b).natAbs*b'.natAbs:=by rw[<- Int.natAbs_mul,<- e2]
  rw[this];exact abH _ hd
theorem JT(p q:Rat):p+q=Rat.divInt (p.num*q.den+q.num*p.den) (p.den*q.den):=by
 conv=>lhs;rw[<- eL p,<- eL q]
 exact Rat.divInt_add_divInt _ _ (lq p) (lq q)
theorem JR(p q:Rat):p - q=Rat.divInt (p.num*q.den - q.num*p.den) (p.den*q.den):=by
 conv=>lhs;rw[<- eL p,<- eL q]
 exact Rat.divInt_sub_divInt _ _ (lq p) (lq q)
theorem JS(p q:Rat):p*q=Rat.divInt (p.num*q.num) (p.den*q.den):=by
 conv=>lhs;rw[<- eL p,<- eL q]
 exact Rat.divInt_mul_divInt _ _
theorem QK(p q:Rat):p / q=Rat.divInt (p.num*q.den) (p.den*q.num):=by
 rw[Rat.div_def]
 conv=>lhs;rw[<- eL p,<- eL q,Rat.inv_divInt]
 exact Rat.divInt_mul_divInt _ _
noncomputable def Sm(k:Nat)(q:Rat):Prop:=q.num.natAbs<2 ^ k/\q.den<2 ^ k
theorem Sm.mono{k l:Nat}{q:Rat}(h:Sm k q)(hl:k<=l):Sm l q :=
 ⟨aan h.1 (aau (by decide) hl),aan h.2 (aau (by decide) hl)⟩
theorem aN{a b k l:Nat}(h:a<2 ^ k)(h':b<2 ^ l):a*b<2 ^ (k+l):=by
 rw[Nat.pow_add];exact Nat.mul_lt_mul'' h h'
theorem Jy(a b:Int):(a+b).natAbs<=a.natAbs+b.natAbs:=by left
theorem Jx(a b:Int):(a - b).natAbs<=a.natAbs+b.natAbs:=by left
section
variable {k l:Nat}{p q:Rat}
theorem Sm.den(h:Sm k p)(h':Sm l q):((p.den:Int)*q.den).natAbs<2 ^ (k+l):=by
 rw[Int.natAbs_mul];exact aN (by simpa using h.2) (by simpa using h'.2)
theorem Sm.add(h:Sm k p)(h':Sm l q):Sm (k+l+1) (p+q):=by
 have hb:(p.den:Int)*q.den≠0:=abr (lq p) (lq q);obtain⟨g1,g2⟩:=pR (t:=p.num*q.den+q.num*p.den) hb;rw[<- JT]at g1 g2;have n1:(p.num*q.den).natAbs<2 ^ (k+l):=by rw[Int.natAbs_mul];exact aN h.1 (by simpa using h'.2)
 have n2:(q.num*p.den).natAbs<2 ^ (k+l):=by rw[Int.natAbs_mul,Nat.add_comm];exact aN h'.1 (by simpa using h.2)
 have:=Jy (p.num*q.den) (q.num*p.den);have e:2 ^ (k+l+1)=2 ^ (k+l)*2:=Nat.pow_succ ..;have d:=h.den h';exact⟨by left,by left⟩
theorem Sm.sub(h:Sm k p)(h':Sm l q):Sm (k+l+1) (p - q):=by
 have hb:(p.den:Int)*q.den≠0:=abr (lq p) (lq q);obtain⟨g1,g2⟩:=pR (t:=p.num*q.den - q.num*p.den) hb;rw[<- JR]at g1 g2;have n1:(p.num*q.den).natAbs<2 ^ (k+l):=by rw[Int.natAbs_mul];exact aN h.1 (by simpa using h'.2)
 have n2:(q.num*p.den).natAbs<2 ^ (k+l):=by rw[Int.natAbs_mul,Nat.add_comm];exact aN h'.1 (by simpa using h.2)
 have:=Jx (p.num*q.den) (q.num*p.den);have e:2 ^ (k+l+1)=2 ^ (k+l)*2:=Nat.pow_succ ..;have d:=h.den h';exact⟨by left,by left⟩
theorem Sm.mul(h:Sm k p)(h':Sm l q):Sm (k+l) (p*q):=by
 have hb:(p.den:Int)*q.den≠0:=abr (lq p) (lq q);obtain⟨g1,g2⟩:=pR (t:=p.num*q.num) hb;rw[<- JS]at g1 g2;have n1:(p.num*q.num).natAbs<2 ^ (k+l):=by rw[Int.natAbs_mul];exact aN h.1 h'.1
 have d:=h.den h';exact⟨by left,by left⟩
theorem DS(h:q≠0):q.num≠0:=λz=>h (by rw[<- eL q,z];simp)
theorem Sm.big(h:Sm k p)(hk:k<=9000):p.num.natAbs<2 ^ 9000/\(p.den:Int).natAbs<2 ^ 9000:=by
 have:=h.mono hk;exact⟨this.1,by simpa using this.2⟩
end
theorem nE{t b:Int}{k:Nat}(hb:b≠0)(h1:t.natAbs<2 ^ k)(h2:b.natAbs<2 ^ k):Sm k (Rat.divInt t b):=by
 obtain⟨g1,g2⟩:=pR (t:=t) hb;exact⟨by left,by left⟩
def dC(d:D):Bool:=cU .int d&&!cU .bool d
def du(m:List D->O D):Prop:=∀ d,m [d]=ok (.bl (dC d))
noncomputable def i4:List CS:=[.ret (.and [(.pd (.v 0) .int),(.not (.pd (.v 0) .bool))])]
theorem iT(Φ:au):du (mk Φ 1 1 i4):=by
 intro d;simp[mk_eq,i4,dC]
theorem rB(a:Int){b:Int}(h:b≠0):(a.fmod b).natAbs<b.natAbs:=by
 rcases Int.lt_or_gt_of_ne h with hb | hb
 ·have e:=Int.neg_fmod_neg a b;have h1:=abI (-a) (show 0 < -b by left);have h2:=acd (-a) (show 0 < -b by left);left
 ·have h1:=abI a hb;have h2:=acd a hb;left
theorem Fv(a b:Int):Int.gcd b (a.fmod b)=Int.gcd a b:=by
 rw[Int.fmod_def,Int.gcd_sub_mul_left_right,Int.gcd_comm]
noncomputable def aQ(m:List D->O D):Prop:=∀ a b:Int,m [.int a,.int b]=ok (.int (Int.gcd a b))
noncomputable def C1:CS:=.KI (.cmp .ne (.v 1) (.int 0)) [.asg (.nm 2) (.bin .mod (.v 0) (.v 1)),.asg (.nm 0) (.v 1),.asg (.nm 1) (.v 2)]
def cN:List CS:=[C1,.ret (.bf .abs [(.v 0)])]
theorem Jm(Φ:au):∀(n:Nat) (a b:Int) (r:Option D),b.natAbs<=n->∃(g:Int) (r':Option D),rF Φ C1 [some (.int a),some (.int b),r]=ok (.nx,[some (.int g),some (.int 0),r'])/\g.natAbs=Int.gcd a b:=by
 intro n;induction n with
 | zero =>
  intro a b r h;have hb:b=0:=by left
  subst hb;refine⟨a,r,?_,by simp⟩;rw[C1,tJ];exact iM (by simp)
 | succ n ih =>
  intro a b r h;by_cases hb:b=0
  ·subst hb;refine⟨a,r,?_,by simp⟩;rw[C1,tJ];exact iM (by simp)
  ·have jI:=rB a hb;obtain⟨g,r',e,hg⟩:=ih b (a.fmod b) (some (.int (a.fmod b))) (by left);refine⟨g,r',?_,by rw[hg,Fv]⟩;rw[C1,tJ]at e ⊢;rw[<- e];exact qk (by simp[hb])
theorem cJ(Φ:au):aQ (mk Φ 2 3 cN):=by
 intro a b;obtain⟨g,r',e,hg⟩:=Jm Φ b.natAbs a b none (aas _);have e1:(g.natAbs:Int)=(Int.gcd a b:Int):=by left
 simp[mk_eq,cN,e,e1]
noncomputable def gL(m:List D->O D):Prop:=∀ t b:Int,b≠0->b.natAbs<2 ^ 9000->m [.int t,.int b]=ok (qD (Rat.divInt t b))
def bP(m:List D->O D):Prop:=gL m/\∀ t:Int,m [.int t,.int 0]=some (.error 0)
noncomputable def cj:List CS:=[.ifs (.cmp .eq (.v 1) (.int 0)) [.rs 0] [],.asg (.nm 2) (.call 1 [(.v 0),(.v 1)]),.ifs (.cmp .lt (.v 1) (.int 0)) [.asg (.nm 2) (.neg (.v 2))] [],.ret (.tup [(.bin .fdiv (.v 0) (.v 2)),(.bin .fdiv (.v 1) (.v 2))])]
theorem p6{t b:Int}(hb:b≠0)(h:b.natAbs<2 ^ 9000)(x:Int):cq .fdiv (.int x) (.int (fY t b))=ok (.int (x.fdiv (fY t b))) :=
 rZ (j6 (lI hb) (aax (Jb hb) h))
theorem d8(Φ:au)(h1:aQ (Φ 1)):bP (mk Φ 2 3 cj):=by
 refine⟨λt b hb h=>?_,λt=>by simp[mk_eq,cj]⟩;obtain⟨e1,e2⟩:=vB (t:=t) hb;unfold aQ at h1;have d1:=p6 (t:=t) hb h t;have d2:=p6 (t:=t) hb h b;rw[qD,<- e1,<- e2];by_cases hn:b<0
 ·have ed:-(Int.gcd t b:Int)=fY t b:=by simp[fY,hn]
  simp[mk_eq,cj,hb,h1,hn,ed,d1,d2]
 ·have ed:(Int.gcd t b:Int)=fY t b:=by simp[fY,hn]
  simp[mk_eq,cj,hb,h1,hn,ed,d1,d2]
noncomputable def dz:D->Bool
 | .tup [.int a,.int b]=>decide (1<=b)&&decide (Int.gcd a b=1)
 | _=>false
theorem AU(q:Rat):dz (qD q)=true:=by
 have h1:=QI q;have h2:Int.gcd q.num q.den=1:=by
  have:=q.reduced;simpa [Int.gcd]using this
 simp[qD,dz,h1,h2]
def cY(m:List D->O D):Prop:=∀ d,m [d]=ok (.bl (dz d))
noncomputable def bt:List CS:=[.ifs (.or [(.not (.pd (.v 0) .tuple)),(.cmp .ne (.bf .len [(.v 0)]) (.int 2))]) [.ret (.bl false)] [],.ifs (.or [(.not (.call 0 [(.ix (.v 0) (.int 0))])),(.not (.call 0 [(.ix (.v 0) (.int 1))]))]) [.ret (.bl false)] [],.ret (.and [(.cmp .ge (.ix (.v 0) (.int 1)) (.int 1)),(.cmp .eq (.call 1 [(.ix (.v 0) (.int 0)),(.ix (.v 0) (.int 1))]) (.int 1))])]
theorem oK(g:Fl->Fl)(d:D):dC (aq g d)=dC d:=by simp[dC]
theorem qj{d:D}(h:dC d=true):∃ i,d=.int i:=by
 cases d<;>simp[dC,cU]at h ⊢
theorem uk{x y:D}(h:dC x=false\/dC y=false):dz (.tup [x,y])=false:=by
 cases x<;>cases y<;>simp[dC,cU]at h<;>rfl
theorem Ce(h:ds.length≠2):dz (.tup ds)=false:=by
 unfold dz;split
 ·rename_i e;cases e;simp at h
 ·rfl
theorem d7(Φ:au)(h0:du (Φ 0))(h1:aQ (Φ 1)):cY (mk Φ 1 1 bt):=by
 intro d;unfold du at h0;unfold aQ at h1;cases d with
 | tup ds =>
  by_cases hl:ds.length=2
  ·match ds,hl with
   | [x,y],_ =>
    by_cases hx:dC x=true
    ·by_cases hy:dC y=true
     ·obtain⟨a,rfl⟩:=qj hx;obtain⟨b,rfl⟩:=qj hy;simp[mk_eq,bt,h0,h1,hx,hy,cU,dz];by_cases hg:a.gcd b=1
      ·simp[hg]
      ·simp[hg];left
     ·simp[mk_eq,bt,h0,hx,hy,cU,oK,uk (.inr (by simpa using hy))]
    ·simp[mk_eq,bt,h0,hx,cU,oK,uk (.inl (by simpa using hx))]
  ·have vp:¬ (ds.length:Int)=2:=by left
   simp[mk_eq,bt,cU,vp,Ce hl]
 | _=>simp[mk_eq,bt,cU,dz]
noncomputable def dQ(m:List D->O D):Prop:=∀ p q,Sm 4000 p->Sm 4000 q->m [qD p,qD q]=ok (qD (p+q))
noncomputable def i_(m:List D->O D):Prop:=∀ p q,Sm 4000 p->Sm 4000 q->m [qD p,qD q]=ok (qD (p - q))
noncomputable def dH(m:List D->O D):Prop:=∀ p q,Sm 4000 p->Sm 4000 q->m [qD p,qD q]=ok (qD (p*q))
noncomputable def Ow(m:List D->O D):Prop:=(∀ p q,Sm 4000 p->Sm 4000 q->q≠0->m [qD p,qD q]=ok (qD (p / q)))/\∀ p,Sm 4000 p->m [qD p,qD 0]=some (.error 0)
noncomputable def uD(f:Nat):List CS:=[.ret (.call f [(.bin .add (.bin .mul (.ix (.v 0) (.int 0)) (.ix (.v 1) (.int 1))) (.bin .mul (.ix (.v 1) (.int 0)) (.ix (.v 0) (.int 1)))),(.bin .mul (.ix (.v 0) (.int 1)) (.ix (.v 1) (.int 1)))])]
noncomputable def oj(f:Nat):List CS:=[.ret (.call f [(.bin .sub (.bin .mul (.ix (.v 0) (.int 0)) (.ix (.v 1) (.int 1))) (.bin .mul (.ix (.v 1) (.int 0)) (.ix (.v 0) (.int 1)))),(.bin .mul (.ix (.v 0) (.int 1)) (.ix (.v 1) (.int 1)))])]
noncomputable def kH(f:Nat):List CS:=[.ret (.call f [(.bin .mul (.ix (.v 0) (.int 0)) (.ix (.v 1) (.int 0))),(.bin .mul (.ix (.v 0) (.int 1)) (.ix (.v 1) (.int 1)))])]
noncomputable def Gd(f:Nat):List CS:=[.ret (.call f [(.bin .mul (.ix (.v 0) (.int 0)) (.ix (.v 1) (.int 1))),(.bin .mul (.ix (.v 0) (.int 1)) (.ix (.v 1) (.int 0)))])]
section
variable (Φ:au){f:Nat}(h2:gL (Φ f))
theorem N9{p q:Rat}(hp:Sm 4000 p)(hq:Sm 4000 q):(p.den:Int)*q.den≠0/\((p.den:Int)*q.den).natAbs<2 ^ 9000 :=
 ⟨abr (lq p) (lq q),aan (hp.den hq) (aau (by decide) (by decide))⟩
theorem BR{p q:Rat}(hp:Sm 4000 p)(hq:Sm 4000 q):cq .mul (.int p.num) (.int q.den)=ok (.int (p.num*q.den))/\cq .mul (.int p.num) (.int q.num)=ok (.int (p.num*q.num))/\cq .mul (.int p.den) (.int q.den)=ok (.int (p.den*q.den))/\cq .mul (.int p.den) (.int q.num)=ok (.int (p.den*q.num)):=by
 obtain⟨a,b⟩:=hp.big (by decide);obtain⟨c,d⟩:=hq.big (by decide);exact⟨iG (mulOk_of a d),iG (mulOk_of a c),iG (mulOk_of b d),iG (mulOk_of b c)⟩
include h2
theorem JQ:dQ (mk Φ 2 2 (uD f)):=by
 intro p q hp hq;obtain⟨a,b,c,d⟩:=BR hp hq;obtain⟨a',b',c',d'⟩:=BR hq hp;obtain⟨n,k⟩:=N9 hp hq;have e:=h2 (p.num*q.den+q.num*p.den) _ n k;rw[<- JT]at e;simp[mk_eq,uD,a,a',c,e]
theorem DJ:i_ (mk Φ 2 2 (oj f)):=by
 intro p q hp hq;obtain⟨a,b,c,d⟩:=BR hp hq;obtain⟨a',b',c',d'⟩:=BR hq hp;obtain⟨n,k⟩:=N9 hp hq;have e:=h2 (p.num*q.den - q.num*p.den) _ n k;rw[<- JR]at e;simp[mk_eq,oj,a,a',c,e]
theorem zZ:dH (mk Φ 2 2 (kH f)):=by
 intro p q hp hq;obtain⟨a,b,c,d⟩:=BR hp hq;obtain⟨n,k⟩:=N9 hp hq;have e:=h2 (p.num*q.num) _ n k;rw[<- JS]at e;simp[mk_eq,kH,b,c,e]
omit h2 in
theorem s_by(h2:bP (Φ f)):Ow (mk Φ 2 2 (Gd f)):=by
 refine⟨λp q hp hq h0=>?_,λp hp=>?_⟩
 ·obtain⟨a,b,c,d⟩:=BR hp hq;have n:(p.den:Int)*q.num≠0:=abr (lq p) (DS h0);have k:((p.den:Int)*q.num).natAbs<2 ^ 9000:=by
   rw[Int.natAbs_mul];exact aan (aN (by simpa using hp.2) hq.1) (aau (by decide) (by decide))
  have e:=h2.1 (p.num*q.den) _ n k;rw[<- QK]at e;simp[mk_eq,Gd,a,d,e]
 ·have e:=h2.2 p.num;simp[mk_eq,Gd,e]
end
theorem xS{bind:D->O aD}{test:aD->O Bool}{el:aD->O D}{g:D->D}{xs:List D}(h:∀ x∈xs,∃ ρ,bind x=ok ρ/\test ρ=ok true/\el ρ=ok (g x)):iF bind test el xs=ok (xs.map g):=by
 have:=aU (bind:=bind) (test:=test) (el:=el) (e:=λd=>d) (g:=g) (xs:=xs) h
 rwa [List.map_id']at this
theorem lF(g:Fl->Fl)(d:D):dz (aq g d)=dz d:=by
 cases d with
 | tup ds =>
  match ds with
  | []=>simp
  | [_]=>simp[dz]
  | [x,y]=>cases x<;>cases y<;>simp[dz]
  | _::_::_::_=>simp[dz]
 | _=>simp[dz]
def jJ(d:D)(n:Int):Bool:=match d with
 | .lst _ ds=>decide ((ds.length:Int)=n)&&ds.all dz
 | _=>false
noncomputable def tw(d:D):Prop:=match d with
 | .lst _ ds=>ds.length<=1000000
 | .tup ds=>ds.length<64
 | _=>True
def eO(m:List D->O D):Prop:=∀ d n,tw d->m [d,.int n]=ok (.bl (jJ d n))
noncomputable def bH:List CS:=[.ifs (.or [(.not (.pd (.v 0) .list)),(.cmp .ne (.bf .len [(.v 0)]) (.v 1))]) [.ret (.bl false)] [],.ret (.bf .all1 [(.comp 1 (.nm 0) [] .seq [(.v 0)] [] (.call 3 [(.v 0)]))])]
theorem de(Φ:au)(h3:cY (Φ 3)):eO (mk Φ 2 2 bH):=by
 intro d n hc;unfold cY at h3;cases d with
 | lst f ds =>
  by_cases hn:(ds.length:Int)=n
  ·have ui:aK Φ (.comp 1 (.nm 0) [] .seq [(.v 0)] [] (.call 3 [(.v 0)])) [some (.lst f ds),some (.int n)]=ok (.lst .ow (mU (ds.map dz))):=by
    rw[bo (xs:=[.lst (aR f) (ag aR ds)]) (by simp) (df ..) (xS (g:=λd=>.bl (dz d)) λx _=>⟨[some x],by simp[aM],by simp,by simp[h3,lF]⟩) (by simp;exact aX hc)];simp[aB,Function.comp_def,lF,mU]
   simp[mk_eq,bH,cU,hn,ui,jJ]
  ·simp[mk_eq,bH,cU,hn,jJ]
 | _=>simp[mk_eq,bH,cU,jJ]
theorem i8(f:Fl)(qs:List Rat)(n:Int):jJ (.lst f (ai qs)) n=decide ((qs.length:Int)=n):=by
 unfold jJ;have:(ai qs).all dz=true:=by unfold ai;rw[List.all_map];exact List.all_eq_true.mpr λq _=>AU q
 simp[this]
noncomputable def aO(qs:List Rat):Nat:=qs.foldl (λb q=>Nat.lcm b q.den) 1
theorem Ey(b:Nat)(q:Rat):(b:Int).fdiv (Int.gcd b q.den)*q.den=(Nat.lcm b q.den:Nat):=by
 have hg:0<Nat.gcd b q.den:=Nat.gcd_pos_of_pos_right _ q.den_pos;have e:Int.gcd (b:Int) (q.den:Int)=Nat.gcd b q.den:=by simp[Int.gcd]
 rw[e,Int.fdiv_eq_ediv_of_nonneg _ (by left)];have:((b:Int) / (Nat.gcd b q.den:Nat))=((b / Nat.gcd b q.den:Nat):Int):=(Int.natCast_ediv ..).symm;rw[this,Nat.lcm];have hd:Nat.gcd b q.den∣b:=Nat.gcd_dvd_left ..;rw[Nat.mul_comm b,Nat.mul_div_assoc _ hd,Nat.mul_comm];exact(Int.natCast_mul ..).symm
theorem lcm_pos{b:Nat}(hb:0<b)(q:Rat):0<Nat.lcm b q.den:=Nat.lcm_pos hb q.den_pos
theorem AB:∀(qs:List Rat) (b k j:Nat),0<b->b<2 ^ j->(∀ q∈qs,Sm k q)->0<qs.foldl (λb q=>Nat.lcm b q.den) b/\qs.foldl (λb q=>Nat.lcm b q.den) b<2 ^ (j+k*qs.length)/\b∣qs.foldl (λb q=>Nat.lcm b q.den) b/\∀ q∈qs,q.den∣qs.foldl (λb q=>Nat.lcm b q.den) b
 | [],b,k,j,h0,h1,_=>⟨h0,by simpa using h1,Nat.dvd_refl _,λq hq=>nomatch hq⟩
 | q::qs,b,k,j,h0,h1,hs=>by
  have hq:=hs q aao;have h2:Nat.lcm b q.den<2 ^ (j+k):=aax (Nat.lcm_le_mul h0 q.den_pos) (aN h1 hq.2);obtain⟨g1,g2,g3,g4⟩:=AB qs (Nat.lcm b q.den) k (j+k) (lcm_pos h0 q) h2 λp hp=>hs p (aam _ hp);have e:j+k*(q::qs).length=j+k+k*qs.length:=by rw[List.length_cons,Nat.mul_succ];left
  refine⟨g1,by rw[e];exact g2,Nat.dvd_trans (Nat.dvd_lcm_left ..) g3,λp hp=>?_⟩;rcases List.mem_cons.mp hp with rfl | hp
  ·exact Nat.dvd_trans (Nat.dvd_lcm_right ..) g3
  ·exact g4 p hp
structure Bk(k:Nat)(qs:List Rat):Prop where
 sm:∀ q∈qs,Sm k q
 ym:k*qs.length<=3000
 len:qs.length<=1000
variable {qs ws xs:List Rat}
theorem Bk.lcm{k:Nat}(h:Bk k qs):0<aO qs/\aO qs<2 ^ (1+k*qs.length)/\∀ q∈qs,q.den∣aO qs:=by
 obtain⟨g1,g2,_,g4⟩:=AB qs 1 k 1 (by decide) (by decide) h.sm;exact⟨g1,g2,g4⟩
theorem yU{n j:Nat}(h:n<2 ^ j)(hj:j<=9000):n<2 ^ 9000:=aan h (aau (by decide) hj)
def dh(m:List D->O D):Prop:=∀ f qs k,Bk k qs->m [.lst f (ai qs)]=ok (.int (aO qs))
noncomputable def bF:List CS:=[.asg (.nm 1) (.bin .mul (.bin .fdiv (.v 1) (.call 1 [(.v 1),(.ix (.v 2) (.int 1))])) (.ix (.v 2) (.int 1)))]
def cf:List CS:=[.asg (.nm 1) (.int 1),.fr (.nm 2) (.seq (.v 0)) bF,.ret (.v 1)]
theorem A_(Φ:au)(h1:aQ (Φ 1))(x:Option D):∀(qs:List Rat) (b k j:Nat) (z:Option D),0<b->b<2 ^ j->j+k*qs.length<=8000->(∀ q∈qs,Sm k q) ->
  ∃ z',dO (λd ρ=>bT (.nm 2) d ρ) (λρ=>aT Φ bF ρ) (ai qs) [x,some (.int b),z]=ok (.nx,[x,some (.int (qs.foldl (λb q=>Nat.lcm b q.den) b:Nat)),z'])
 | [],b,k,j,z,_,_,_,_=>⟨z,rfl⟩
 | q::qs,b,k,j,z,h0,hb,hj,hs=>by
  have hq:=hs q aao;have h2:Nat.lcm b q.den<2 ^ (j+k):=aax (Nat.lcm_le_mul h0 q.den_pos) (aN hb hq.2);have e:j+k*(q::qs).length=j+k+k*qs.length:=by rw[List.length_cons,Nat.mul_succ];left
  obtain⟨z',ih⟩:=A_ Φ h1 x qs (Nat.lcm b q.den) k (j+k) (some (qD q)) (lcm_pos h0 q) h2 (by left) λp hp=>hs p (aam _ hp);have hg:0<Nat.gcd b q.den:=Nat.gcd_pos_of_pos_right _ q.den_pos;have eg:Int.gcd (b:Int) (q.den:Int)=Nat.gcd b q.den:=by simp[Int.gcd]
  have WZ:Nat.gcd b q.den<=b:=abo h0 (Nat.gcd_dvd_left ..);have ZO:b<2 ^ 9000:=yU hb (by left);have d1:cq .fdiv (.int b) (.int (Nat.gcd b q.den:Nat))=ok (.int ((b:Int).fdiv (Nat.gcd b q.den:Nat))):=rZ (j6 (by left) (by simpa using Nat.lt_of_le_of_lt WZ ZO));have hm:((b:Int).fdiv (Nat.gcd b q.den:Nat)).natAbs<=b:=by
   rw[Int.fdiv_eq_ediv_of_nonneg _ (by left),<- Int.natCast_ediv];simp;exact ab4 ..
  have d2:cq .mul (.int ((b:Int).fdiv (Nat.gcd b q.den:Nat))) (.int q.den)=ok (.int (Nat.lcm b q.den:Nat)):=by
   have:=Ey b q;rw[eg]at this;rw[iG (mulOk_of (Nat.lt_of_le_of_lt hm ZO) (hq.big (by
    rw[e]at hj;have:k<=j+k+k*qs.length:=by left
    left)).2),this]
  unfold aQ at h1;refine⟨z',dt (ρ1:=[x,some (.int b),some (qD q)]) (by simp) (ρ2:=[x,some (.int (Nat.lcm b q.den:Nat)),some (qD q)]) ?_ ih⟩;simp[bF,h1,d1,d2]
theorem cZ(Φ:au)(h1:aQ (Φ 1)):dh (mk Φ 1 3 cf):=by
 intro f qs k hs;have hit:cA Φ (.seq (.v 0)) [some (.lst f (ai qs)),some (.int 1),none]=ok (ai qs,if (bE (aR f)||false)then[some (.lst (aC f) (ai qs)),some (.int 1),none]else[some (.lst f (ai qs)),some (.int 1),none]):=by
  rw[yY (f:=aR f) (ds:=ai qs) (by simp)];simp[show iB (.v 0)=[0] from rfl]
 have hk:=hs.ym;have hx:∀ x:Option D,∃ z',dO (λd ρ=>bT (.nm 2) d ρ) (λρ=>aT Φ bF ρ) (ai qs) [x,some (.int (1:Nat)),none]=ok (.nx,[x,some (.int (aO qs)),z']):=λx=>A_ Φ h1 x qs 1 k 1 none (by decide) (by decide) (by left) hs.sm;cases hf:(bE (aR f)||false)with
 | true =>
  rw[hf]at hit;obtain⟨z',e⟩:=hx (some (.lst (aC f) (ai qs)));have:=fN (t:=.nm 2) (b:=bF) hit e;simp[mk_eq,cf,this]
 | false =>
  rw[hf]at hit;obtain⟨z',e⟩:=hx (some (.lst f (ai qs)));have:=fN (t:=.nm 2) (b:=bF) hit e;simp[mk_eq,cf,this]
noncomputable def aF(b:Nat)(q:Rat):Int:=q.num*(b:Int).fdiv q.den
theorem DT(q:Rat):(q.num:Rat)=q*(q.den:Rat):=by
 have h:(q.den:Rat)≠0:=by
  have:=q.den_pos;intro z;have:((q.den:Int):Rat)=0:=by rw[Rat.intCast_natCast];exact z
  rw[Rat.intCast_eq_zero_iff]at this;left
 have e:q=(q.num:Rat) / (q.den:Rat):=by
  conv=>lhs;rw[<- eL q,Rat.divInt_eq_div,Rat.intCast_natCast]
 grind
theorem mh{b:Nat}{q:Rat}(h:q.den∣b):((aF b q:Int):Rat)=q*(b:Rat):=by
 obtain⟨c,rfl⟩:=h;have hd:(q.den:Int)≠0:=lq q;unfold aF;rw[Int.natCast_mul,Int.mul_fdiv_cancel_left _ hd,Rat.intCast_mul,DT,Rat.natCast_mul,Rat.intCast_natCast];grind
theorem qm{b:Nat}:∀ {qs:List Rat},(∀ q∈qs,q.den∣b)->(((qs.map (aF b)).sum:Int):Rat)=qs.sum*(b:Rat)
 | [],_=>by simp
 | q::qs,h=>by
  rw[List.map_cons,List.sum_cons,List.sum_cons,Rat.intCast_add,mh (h q List.mem_cons_self),qm λp hp=>h p (List.mem_cons_of_mem _ hp)];grind
def gK(m:List D->O D):Prop:=∀ f qs k (b:Nat),Bk k qs->b<2 ^ 8000->m [.lst f (ai qs),.int b]=ok (.lst .ow (aa (qs.map (aF b))))
noncomputable def gH:List CS:=[.ret (.comp 1 (.nm 0) [1] .seq [(.v 0)] [] (.bin .mul (.ix (.v 0) (.int 0)) (.bin .fdiv (.v 1) (.ix (.v 0) (.int 1)))))]
theorem Hm{k:Nat}(h:Bk k qs){q:Rat}(hq:q∈qs):Sm 3000 q:=by
 refine(h.sm q hq).mono ?_;have h1:=h.ym;have h2:0<qs.length:=List.length_pos_of_mem hq;have:k*1<=k*qs.length:=aaR _ h2;left
theorem gn(Φ:au):gK (mk Φ 2 2 gH):=by
 intro f qs k b hs hb;have ui:aK Φ (.comp 1 (.nm 0) [1] .seq [(.v 0)] [] (.bin .mul (.ix (.v 0) (.int 0)) (.bin .fdiv (.v 1) (.ix (.v 0) (.int 1))))) [some (.lst f (ai qs)),some (.int b)]=ok (.lst .ow (aa (qs.map (aF b)))):=by
  rw[bo (xs:=[.lst (aR f) (ai qs)]) (items:=ai qs) (ds:=qs.map λq=>.int (aF b q)) (by simp) (by rw[df];simp) (aU λq hq=>?_) (by have:=hs.len;simp;exact aX (by left))]
  ·have:(qs.map λq=>D.int (aF b q))=aa (qs.map (aF b)):=by simp[aa]
   rw[this,eJ]
  ·refine⟨[some (qD q),some (.int b)],by simp[aM],by simp,?_⟩;have h3:=Hm hs hq;obtain⟨g1,g2⟩:=h3.big (by decide);have d1:cq .fdiv (.int b) (.int q.den)=ok (.int ((b:Int).fdiv q.den)):=rZ (j6 (lq q) g2);have d2:cq .mul (.int q.num) (.int ((b:Int).fdiv q.den))=ok (.int (q.num*(b:Int).fdiv q.den)):=by
    refine iG (mulOk_of g1 ?_);rw[Int.fdiv_eq_ediv_of_nonneg _ (by left),<- Int.natCast_ediv];have:=ab4 b q.den;have h9:=yU hb (by decide);rw[Int.natAbs_natCast];exact aax this h9
   simp[d1,d2,aF]
 simp[mk_eq,gH,ui]
def i9(m:List D->O D):Prop:=∀ f qs k,Bk k qs->m [.lst f (ai qs)]=ok (.tup [.int (aO qs),.lst .ow (aa (qs.map (aF (aO qs))))])
noncomputable def i3:List CS:=[.asg (.nm 1) (.call 9 [(.v 0)]),.ret (.tup [(.v 1),(.call 10 [(.v 0),(.v 1)])])]
theorem Bk.Ig{k:Nat}(h:Bk k qs):aO qs<2 ^ 8000:=aan h.lcm.2.1 (aau (by decide) (by have:=h.ym;left))
theorem iS(Φ:au)(h9:dh (Φ 9))(Kd:gK (Φ 10)):i9 (mk Φ 1 2 i3):=by
 intro f qs k hs;have e1:=λf=>h9 f qs k hs;have e2:=λf=>Kd f qs k (aO qs) hs hs.Ig;simp[mk_eq,i3,e1,e2]
def jb(m:List D->O D):Prop:=∀ f qs k,Bk k qs->m [.lst f (ai qs)]=ok (qD qs.sum)
noncomputable def fF:List CS:=[.asg (.nm 1) (.call 41 [(.v 0)]),.ret (.call 2 [(.bf .fQ [(.ix (.v 1) (.int 1))]),(.ix (.v 1) (.int 0))])]
theorem uJ{b:Nat}(h0:0<b)(h:∀ q∈qs,q.den∣b):Rat.divInt (qs.map (aF b)).sum b=qs.sum:=by
 have hb:((b:Nat):Rat)≠0:=by
  intro z;have:((b:Int):Rat)=0:=by rw[Rat.intCast_natCast];exact z
  rw[Rat.intCast_eq_zero_iff]at this;left
 rw[Rat.divInt_eq_div,qm h,Rat.intCast_natCast];grind
theorem fi(Φ:au)(h2:bP (Φ 2))(Xp:i9 (Φ 41)):jb (mk Φ 1 2 fF):=by
 intro f qs k hs;have e1:=λf=>Xp f qs k hs;obtain⟨g1,g2,g3⟩:=hs.lcm;have e2:=h2.1 (qs.map (aF (aO qs))).sum (aO qs) (by left) (by have:=yU hs.Ig (by decide);simpa using this);rw[uJ g1 g3]at e2;simp[mk_eq,fF,e1,e2]
noncomputable def bN(n:Int):D->Bool
 | .int i=>decide (0<=i)&&decide (i<n)
 | _=>false
theorem oW(g:Fl->Fl)(n:Int)(d:D):bN n (aq g d)=bN n d:=by
 cases d<;>simp[bN]
theorem gD{n:Int}:∀ {ds:List D},ds.all (bN n)=true->∃ ns:List Int,ds=aa ns
 | [],_=>⟨[],rfl⟩
 | d::ds,h=>by
  simp only[List.all_cons,Bool.and_eq_true]at h;obtain⟨ns,rfl⟩:=gD h.2;cases d with
  | int i=>exact⟨i::ns,rfl⟩
  | _=>simp[bN]at h
def numsOf(ds:List D):List Int:=(intsOf ds).getD []
theorem gv(ns:List Int):numsOf (aa ns)=ns:=by unfold numsOf aa;rw[aV];rfl
def b9(d:D)(n:Int):Bool:=match d with
 | .tup ds=>ds.all (bN n)&&decide ((vG (numsOf ds)).length=ds.length)
 | _=>false
def xm(d:D)(n:Int):Bool:=b9 d n&&(match d with
 | .tup ds=>decide (numsOf ds=sortI (numsOf ds))
 | _=>false)
def fH(m:List D->O D):Prop:=∀ d n,tw d->m [d,.int n]=ok (.bl (b9 d n))
noncomputable def cO:List CS:=[.ifs (.not (.pd (.v 0) .tuple)) [.ret (.bl false)] [],.ifs (.not (.bf .all1 [(.comp 1 (.nm 0) [1] .seq [(.v 0)] [] (.and [(.call 0 [(.v 0)]),(.cmp .ge (.v 0) (.int 0)),(.cmp .lt (.v 0) (.v 1))]))])) [.ret (.bl false)] [],.ret (.cmp .eq (.mF (.v 0)) (.bf .len [(.v 0)]))]
theorem fj(Φ:au)(h0:du (Φ 0)):fH (mk Φ 2 2 cO):=by
 intro d n hc;unfold du at h0;cases d with
 | tup ds =>
  have hl:ds.length<64:=hc;have ui:aK Φ (.comp 1 (.nm 0) [1] .seq [(.v 0)] [] (.and [(.call 0 [(.v 0)]),(.cmp .ge (.v 0) (.int 0)),(.cmp .lt (.v 0) (.v 1))])) [some (.tup ds),some (.int n)]=ok (.lst .ow (mU (ds.map (bN n)))):=by
   rw[bo (xs:=[.tup (ag aR ds)]) (by simp) (vn ..) (xS (g:=λd=>.bl (bN n d)) λx _=>⟨[some x,some (.int n)],by simp[aM],by simp,?_⟩) (by simp;exact aX (by left))]
   ·simp[aB,Function.comp_def,oW,mU]
   ·cases x with
    | int i =>
     simp[h0,dC,cU,bN]
    | _=>simp[h0,dC,cU,bN]
  cases ha:ds.all (bN n)with
  | true =>
   obtain⟨ns,rfl⟩:=gD ha;have vp:ns.length<4000:=by simp at hl;left
   have e:(List.all (List.map (bN n) (aa ns)) id)=true:=by rw[List.all_map];exact ha
   simp[mk_eq,cO,cU,ui,e,NO vp,b9,ha,gv];simp[Int.natCast_inj]
  | false =>
   have e:(List.all (List.map (bN n) ds) id)=false:=by rw[List.all_map];exact ha
   simp only[mk_eq,cO,List.length_cons,List.length_nil];simp[cU,ui,e,b9,ha]
 | _=>simp[mk_eq,cO,cU,b9]
def sh(m:List D->O D):Prop:=∀ d n,tw d->m [d,.int n]=ok (.bl (xm d n))
noncomputable def iH:List CS:=[.ret (.and [(.call 43 [(.v 0),(.v 1)]),(.cmp .eq (.bf .list1 [(.v 0)]) (.bf .iQ [(.v 0)]))])]
theorem xh(n:Nat)(f:Fl)(ns:List Int):cQ (n+1) (.lst f (aa ns))=true:=pV (gu n) ns
theorem Ci(ns ms:List Int):cC (aa ns) (aa ms)=decide (ns=ms):=j5 (λx y=>mR x y) ns ms
theorem mL(g:Fl->Fl)(d:D)(n:Int):b9 (aq g d) n=b9 d n:=by
 cases d with
 | tup ds =>
  cases h:ds.all (bN n)with
  | true =>
   obtain⟨ns,rfl⟩:=gD h;simp
  | false =>
   have h2:(ag g ds).all (bN n)=false:=by
    rw[aB,List.all_map,show(bN n∘aq g)=bN n from funext λd=>oW g n d];exact h
   simp[b9,h,h2]
 | _=>simp[b9]
theorem kE{g:Fl->Fl}{d:D}(h:tw d):tw (aq g d):=by
 cases d<;>simp_all [tw]
theorem my(Φ:au)(Xo:fH (Φ 43)):sh (mk Φ 2 2 iH):=by
 intro d n hc;have e1:=Xo (aq aC (aq aR d)) n (kE (kE hc));rw[mL,mL]at e1;cases d with
 | tup ds =>
  have hl:ds.length<64:=hc;simp only[Et]at e1;cases ha:b9 (.tup ds) n with
  | true =>
   have Uz:=ha;simp only[b9,Bool.and_eq_true]at Uz;obtain⟨ns,rfl⟩:=gD Uz.1;have vp:ns.length<64:=by simpa using hl
   have e2:dG .eq (.lst .ow (aa ns)) (.lst .ow (aa (sortI ns)))=ok (.bl (decide (ns=sortI ns))):=by
    rw[zC (xh 39 _ _) (xh 39 _ _),IT,Ci]
   rw[ha]at e1;simp at e1;simp[mk_eq,iH,e1,IL vp,e2,xm,ha,gv]
  | false =>
   rw[ha]at e1;simp[mk_eq,iH,e1,xm,ha]
 | _=>(simp at e1;simp[mk_eq,iH,e1,xm,b9])
noncomputable def sI(n:Nat)(l:List Int):Prop:=l.Pairwise (· < ·)/\∀ h∈l,0<=h/\h<(n:Int)
theorem vF:∀(l m:List Int),(∀ x∈l,x∉m)->l.Nodup->l.foldl (λ(m:List Int) (k:Int)=>if m.any (· == k)then m else m++[k]) m=m++l
 | [],m,_,_=>by simp
 | x::l,m,h,hn=>by
  have hx:m.any (· == x)=false:=by
   rw[List.any_eq_false];intro y hy z;have:y=x:=by simpa using z
   exact h x aao (this▸hy)
  rw[List.foldl_cons,hx,if_neg Bool.false_ne_true,vF l (m++[x])]
  ·simp
  ·intro y hy z;rcases List.mem_append.mp z with z | z
   ·exact h y (aam _ hy) z
   ·have:y=x:=by simpa using z
    subst this;exact(List.nodup_cons.mp hn).1 hy
  ·exact(List.nodup_cons.mp hn).2
theorem sI.nodup{n:Nat}{l:List Int}(h:sI n l):l.Nodup:=h.1.imp λz=>by left
theorem Du{l:List Int}(h:l.Pairwise (· < ·)):sortI l=l:=by
 unfold sortI;apply List.mergeSort_of_pairwise;exact h.imp λz=>by simp;left
theorem sI.xm{n:Nat}{l:List Int}(h:sI n l):xm (.tup (aa l)) n=true:=by
 have h1:(aa l).all (bN n)=true:=by
  unfold aa;rw[List.all_map,List.all_eq_true];intro x hx;have:=h.2 x hx;simp[bN,this.1,this.2]
 have h2:vG l=l:=by
  have:=vF l [] (by simp) h.nodup;rw[List.nil_append]at this;exact this
 simp[DI.xm,b9,h1,gv,h2,Du h.1]
def eD(c:Nat)(p:D->Int->Bool)(m:List D->O D):Prop:=∀ d n,tw d->m [d,.int n]=if p d n then ok .bh else some (.error c)
noncomputable def i6(f c:Nat):List CS:=[.ifs (.not (.call f [(.v 0),(.v 1)])) [.rs c] []]
theorem uE(g:Fl->Fl)(d:D)(n:Int):jJ (aq g d) n=jJ d n:=by
 cases d<;>simp[jJ];rw[aB,List.all_map,show(dz∘aq g)=dz from funext λd=>lF g d]
theorem z_(Φ:au){f c:Nat}{p:D->Int->Bool}(hp:∀ g d n,p (aq g d) n=p d n)(h:∀ d n,tw d->Φ f [d,.int n]=ok (.bl (p d n))):eD c p (mk Φ 2 2 (i6 f c)):=by
 intro d n hc;have e1:=h (aq aC (aq aR d)) n (kE (kE hc));rw[hp,hp]at e1;cases hd:p d n with
 | true=>rw[hd]at e1;simp[mk_eq,i6,e1]
 | false=>rw[hd]at e1;simp[mk_eq,i6,e1]
noncomputable def bq(ns:List Int)(k:Int):Int :=
 let c:=if k<ns.length then ns.getD k.toNat 0 else 0
 if (10:Int) ^ 18<=c then(c - 10 ^ 18).fmod (10 ^ 60)else
  let n:=(c*48271+k*69621+11).fmod 2147483629
  let n:=(n*n).fmod 2147483587
  n*2147483563+(n*n).fmod 2147483563
def si(m:List D->O D):Prop:=∀(ns:List Int) (k:Int),0<=k->m [.lst .sc (aa ns),.int k]=ok (.int (bq ns k))
noncomputable def eN:List CS:=[.asg (.nm 2) (.int 0),.ifs (.cmp .lt (.v 1) (.bf .len [(.v 0)])) [.asg (.nm 2) (.ix (.v 0) (.v 1))] [],.ifs (.cmp .ge (.v 2) (.bin .pow (.int 10) (.int 18))) [.ret (.bin .mod (.bin .sub (.v 2) (.bin .pow (.int 10) (.int 18))) (.bin .pow (.int 10) (.int 60)))] [],.asg (.nm 3) (.bin .mod (.bin .add (.bin .add (.bin .mul (.v 2) (.int 48271)) (.bin .mul (.v 1) (.int 69621))) (.int 11)) (.int 2147483629)),.asg (.nm 3) (.bin .mod (.bin .mul (.v 3) (.v 3)) (.int 2147483587)),.ret (.bin .add (.bin .mul (.v 3) (.int 2147483563)) (.bin .mod (.bin .mul (.v 3) (.v 3)) (.int 2147483563)))]
theorem iY(a:Int){b:Int}(h:0<b):0<=a.fmod b/\a.fmod b<b:=⟨abI a h,acd a h⟩
theorem Cy(Φ:au)(x:D)(k c:Int)(hx:cU .list x=true)(o:Option D):sV (aT Φ (eN.drop 2) [some x,some (.int k),some (.int c),o])=ok (.int (if (10:Int) ^ 18<=c then(c - 10 ^ 18).fmod (10 ^ 60)else
  let n:=(c*48271+k*69621+11).fmod 2147483629
  let n:=(n*n).fmod 2147483587
  n*2147483563+(n*n).fmod 2147483563)):=by
 have p1:cq .pow (.int 10) (.int 18)=ok (.int (10 ^ 18)):=Kr (by decide);have p2:cq .pow (.int 10) (.int 60)=ok (.int (10 ^ 60)):=Kr (by decide);by_cases h:(10:Int) ^ 18<=c
 ·have h':(1000000000000000000:Int)<=c:=h;simp[eN,p1,p2,h']
 ·have h':¬ (1000000000000000000:Int)<=c:=h;obtain⟨a1,a2⟩:=iY (c*48271+k*69621+11) (b:=2147483629) (by decide);generalize hn:(c*48271+k*69621+11).fmod 2147483629=n at *;obtain⟨a3,a4⟩:=iY (n*n) (b:=2147483587) (by decide);have m1:cq .mul (.int n) (.int n)=ok (.int (n*n)):=iG (vb _ (by left));generalize hm:(n*n).fmod 2147483587=m at *;have m2:cq .mul (.int m) (.int m)=ok (.int (m*m)):=iG (vb _ (by left));simp[eN,p1,h',hn,m1,hm,m2]
theorem Lr(Φ:au):si (mk Φ 2 4 eN):=by
 intro ns k hk;have:=λc=>Cy Φ (.lst .sc (aa ns)) k c rfl none;by_cases h:k<ns.length
 ·have hg:yn (aa ns) k=ok (.int (ns.getD k.toNat 0)):=by
   have hl:k.toNat<ns.length:=by left
   rw[at_of hk (d:=.int (ns.getD k.toNat 0)) (by rw[uh,List.getElem?_eq_getElem hl,Option.map_some,List.getD_eq_getElem?_getD,List.getElem?_eq_getElem hl];rfl)];simp
  have e:sV (aT Φ eN ([some (D.lst Fl.sc (aa ns)),some (D.int k)]++[none,none]))=sV (aT Φ (eN.drop 2) [some (.lst .sc (aa ns)),some (.int k),some (.int (ns.getD k.toNat 0)),none]):=by
   rw[eN,dB,C0];simp only[J6,Ki,mJ,rl];simp only[List.cons_append,List.nil_append,Bh,List.length_cons,List.length_nil,Nat.reduceAdd,Nat.reduceLT,wI,List.set_cons_succ,List.set_cons_zero];rw[dB,CZ];simp[h,hg]
  rw[mk_eq (ar:=2) (ds:=[_,_]) rfl];refine(show _=_ from e).trans ?_;rw[this,bq,if_pos h]
 ·have e:sV (aT Φ eN ([some (D.lst Fl.sc (aa ns)),some (D.int k)]++[none,none]))=sV (aT Φ (eN.drop 2) [some (.lst .sc (aa ns)),some (.int k),some (.int 0),none]):=by
   rw[eN,dB,C0];simp only[J6,Ki,mJ,rl];simp only[List.cons_append,List.nil_append,Bh,List.length_cons,List.length_nil,Nat.reduceAdd,Nat.reduceLT,wI,List.set_cons_succ,List.set_cons_zero];rw[dB,CZ];simp[h]
  rw[mk_eq (ar:=2) (ds:=[_,_]) rfl];refine(show _=_ from e).trans ?_;rw[this,bq,if_neg h]
noncomputable def ma:CS:=.KI (.cmp .gt (.v 3) (.int 0)) [.par 2 3 (.v 3) (.bin .mod (.v 2) (.v 3))]
def mY:List CS:=[.asg (.nm 2) (.bf .abs [(.v 0)]),.asg (.nm 3) (.bf .abs [(.v 1)]),ma,.ifs (.cmp .lt (.v 1) (.int 0)) [.asg (.nm 2) (.bin .sub (.int 0) (.v 2))] [],.ret (.tup [(.bin .fdiv (.v 0) (.v 2)),(.bin .fdiv (.v 1) (.v 2))])]
theorem yV(Φ:au)(x y:Option D):∀(n:Nat) (a b:Nat),b<=n->rF Φ ma [x,y,some (.int a),some (.int b)]=ok (.nx,[x,y,some (.int (Nat.gcd a b)),some (.int 0)]):=by
 intro n;induction n with
 | zero =>
  intro a b h;have hb:b=0:=by left
  subst hb;rw[ma,tJ];exact iM (by simp)
 | succ n ih =>
  intro a b h;by_cases hb:b=0
  ·subst hb;rw[ma,tJ];exact iM (by simp)
  ·have jI:=Nat.mod_lt a (show 0<b by left);have e:=ih b (a % b) (by left);have eg:Nat.gcd b (a % b)=Nat.gcd a b:=by rw[Nat.gcd_comm a b,Nat.gcd_rec b a,Nat.gcd_comm]
   rw[eg]at e;rw[ma,tJ]at e ⊢;rw[<- e];have xG:0<b:=by left
   have em:((a:Int)).fmod (b:Int)=((a % b:Nat):Int):=by
    rw[Int.fmod_eq_emod_of_nonneg _ (by left)];exact(Int.natCast_emod a b).symm
   have ep:rF Φ (.par 2 3 (.v 3) (.bin .mod (.v 2) (.v 3))) [x,y,some (.int a),some (.int b)]=ok (.nx,[x,y,some (.int b),some (.int ((a % b:Nat):Int))]):=by
    rw[Pu];simp[hb,em]
   exact qk (by simp[xG,ep])
theorem Hv(Φ:au):gL (mk Φ 2 4 mY):=by
 intro t b hb h;obtain⟨e1,e2⟩:=vB (t:=t) hb;have d1:=p6 (t:=t) hb h t;have d2:=p6 (t:=t) hb h b;have hl:=yV Φ (some (.int t)) (some (.int b)) b.natAbs t.natAbs b.natAbs (aas _);rw[qD,<- e1,<- e2];by_cases hn:b<0
 ·have ed:0 - (Nat.gcd t.natAbs b.natAbs:Int)=fY t b:=by simp[fY,hn,Int.gcd]
  have ed':-(Nat.gcd t.natAbs b.natAbs:Int)=fY t b:=by simp[fY,hn,Int.gcd]
  simp[mk_eq,mY,hl,hn,ed',d1,d2]
 ·have ed:(Nat.gcd t.natAbs b.natAbs:Int)=fY t b:=by simp[fY,hn,Int.gcd]
  simp[mk_eq,mY,hl,hn,ed,d1,d2]
noncomputable def Gi(m:List D->O D):Prop:=∀ q,m [qD q]=ok (.bl true)
noncomputable def Bc:List CS:=[.ifs (.or [(.not (.pd (.v 0) .tuple)),(.cmp .ne (.bf .len [(.v 0)]) (.int 2))]) [.ret (.bl false)] [],.ret (.cmp .eq (.bf .len [(.comp 1 (.nm 0) [] .seq [(.v 0)] [(.or [(.not (.pd (.v 0) .int)),(.pd (.v 0) .bool)])] (.v 0))]) (.int 0))]
theorem Qx(Φ:au):Gi (mk Φ 1 1 Bc):=by
 intro q;have hc:aK Φ (.comp 1 (.nm 0) [] .seq [(.v 0)] [(.or [(.not (.pd (.v 0) .int)),(.pd (.v 0) .bool)])] (.v 0)) [some (qD q)]=ok (.lst .ow []):=by
  rw[bo (xs:=[qD q]) (items:=[.int q.num,.int q.den]) (ds:=[]) (by simp) (by unfold qD;rw[vn];simp) (by simp[iF,aM,cU]) (by simp)];simp
 have h2:cU .tuple (qD q)=true:=rfl;have h3:oZ .len [qD q]=ok (.int 2):=rfl;simp[mk_eq,Bc,hc,h2,h3]
noncomputable def b6(qs:List Rat)(h:Int):Rat:=qs.getD h.toNat 0
theorem bB{h:Int}(h0:0<=h)(h1:h<qs.length):qs[h.toNat]?=some (b6 qs h)/\b6 qs h∈qs:=by
 have hl:h.toNat<qs.length:=by left
 have e:qs[h.toNat]?=some (b6 qs h):=by
  unfold b6;rw[List.getD_eq_getElem?_getD,List.getElem?_eq_getElem hl];rfl
 exact⟨e,aaB e⟩
theorem yc{h:Int}(h0:0<=h)(h1:h<qs.length):yn (ai qs) h=ok (qD (b6 qs h)):=by
 rw[at_of h0 (d:=qD (b6 qs h)) (by rw[HE,(bB h0 h1).1];rfl)];simp
theorem gF(ps qs:List Rat):cC (ai ps) (ai qs)=decide (ps=qs):=j5 FO ps qs
theorem iV(n:Nat)(f:Fl)(qs:List Rat):cQ (n+2) (.lst f (ai qs))=true:=pV (Ar n) qs
theorem nH{q:Rat}(h:0<q):0<q.num:=by
 have:=(Rat.lt_iff 0 q).mp h;simpa using this
noncomputable def Ua(p:Rat×Rat):D:=.tup [qD p.1,qD p.2]
theorem CY(hz:Φ 1000=sL)(f g:Fl)(ps qs:List Rat):cS Φ (.cw 1000) [.lst f (ai ps),.lst g (ai qs)]=ok ((ps.zip qs).map Ua):=by
 show bd (Φ 1000 _) nF=_;rw[hz];show ok (ag aC (List.zipWith (λx y=>D.tup [x,y]) (ai ps) (ai qs)))=_;congr 1;unfold ai;rw[List.zipWith_map,aB,List.map_zipWith,List.zip,List.map_zipWith];simp[Ua]
theorem sI.len{n:Nat}{l:List Int}(h:sI n l):l.length<=n:=by
 have hn:(l.map Int.toNat).Nodup:=by
  unfold List.Nodup;rw[List.pairwise_map];refine h.1.imp_of_mem λha hb z e=>?_;have:=h.2 _ ha;have:=h.2 _ hb;left
 have hs:(l.map Int.toNat) ⊆ List.range n:=λx hx=>by
  obtain⟨y,hy,rfl⟩:=List.mem_map.mp hx;have:=h.2 y hy;rw[List.mem_range];left
 have:=hn.length_le_of_subset hs;simpa using this
theorem sI.iL{n:Nat}{l:List Int}(h:sI n l)(hn:n<=12):tw (.tup (aa l)):=by
 have:=h.len;show(aa l).length<64;simp;left
theorem Dw{t b:Int}{k:Nat}(h0:b≠0)(h1:t.natAbs<2 ^ k)(h2:b.natAbs<2 ^ k):Sm k (Rat.divInt t b):=nE h0 h1 h2
theorem rL{t b:Int}(ht:0<t)(hb:0<b):0<Rat.divInt t b:=by
 rw[Rat.divInt_eq_div];have h1:(0:Rat)<(t:Rat):=by
  have:=Rat.intCast_lt_intCast (a:=0) (b:=t);simpa using this.mpr ht
 have h2:(0:Rat)<(b:Rat):=by
  have:=Rat.intCast_lt_intCast (a:=0) (b:=b);simpa using this.mpr hb
 rw[Rat.div_def];exact Rat.mul_pos h1 (Rat.inv_pos.mpr h2)
theorem QJ{q:Rat}:q⁻¹=Rat.divInt q.den q.num:=by conv=>lhs;rw[<- eL q,Rat.inv_divInt]
theorem Sm.inv{k:Nat}{q:Rat}(h:Sm k q)(h0:q≠0):Sm k (q⁻¹):=by
 rw[QJ];exact nE (DS h0) (by simpa using h.2) h.1
theorem Sm.neg{k:Nat}{q:Rat}(h:Sm k q):Sm k (-q):=⟨by simpa using h.1,h.2⟩
theorem Sm.zero(k:Nat)(h:1<=k):Sm k 0:=by
 have:Sm 1 (0:Rat):=by constructor<;>decide
 exact this.mono h
theorem Sm.sum{k:Nat}:∀ {qs:List Rat},(∀ q∈qs,Sm k q)->Sm (1+(k+1)*qs.length) qs.sum
 | [],_=>Sm.zero _ (by simp)
 | q::qs,h=>by
  have h1:=h q aao;have h2:=Sm.sum (qs:=qs) λp hp=>h p (aam _ hp);rw[List.sum_cons];refine(h1.add h2).mono ?_;rw[List.length_cons,Nat.mul_succ];left
noncomputable def dN(l:List Int)(f:Int->Rat):Rat:=(l.map f).sum
@[simp] theorem Ql(f:Int->Rat):dN [] f=0:=rfl
theorem nA(h:Int)(l:List Int)(f:Int->Rat):dN (h::l) f=f h+dN l f:=rfl
theorem qq{l:List Int}{f g:Int->Rat}(h:∀ x∈l,f x=g x):dN l f=dN l g:=by
 unfold dN;rw[List.map_congr_left h]
noncomputable abbrev Row:=Rat×List Int
def rD(r:Row):D:=.tup [qD r.1,.tup (aa r.2)]
@[simp] theorem Mf(g:Fl->Fl)(r:Row):aq g (rD r)=rD r:=by unfold rD;simp
@[simp] theorem M4(g:Fl->Bool)(r:Row):aI g (rD r)=false:=by unfold rD;simp
noncomputable def bJ(rs:List Row):List D:=rs.map rD
@[simp] theorem TZ(rs:List Row):(bJ rs).length=rs.length:=abh ..
@[simp] theorem qM(g:Fl->Fl)(rs:List Row):ag g (bJ rs)=bJ rs:=cK g (Mf g) rs
@[simp] theorem Ss(g:Fl->Bool)(rs:List Row):av g (bJ rs)=false:=bG g (M4 g) rs
theorem Q3(n:Nat)(r:Row):cQ (n+2) (rD r)=true:=by
 unfold rD;rw[fm,List.all_cons,List.all_cons,Ar n];have:cQ (n+1) (.tup (aa r.2))=true:=by
  rw[fm];exact pV (λ_=>by cases n<;>rfl) r.2
 rw[this];rfl
theorem FP(a b:List Int):cC (aa a) (aa b)=decide (a=b):=j5 (λx y=>by show(x==y)=_;rfl) a b
theorem S5(r s:Row):jH (rD r) (rD s)=decide (r=s):=by
 unfold rD;show(jH (qD r.1) (qD s.1)&&(cC (aa r.2) (aa s.2)&&true))=_;rw[FO,FP,Bool.and_true];have:decide (r=s)=decide (r.1=s.1/\r.2=s.2):=by
  congr 1;exact propext ⟨λh=>by rw[h];exact⟨rfl,rfl⟩,λh=>Prod.ext h.1 h.2⟩
 rw[this,<- Bool.decide_and]
theorem IQ(r s:List Row):cC (bJ r) (bJ s)=decide (r=s):=j5 S5 r s
def aw(n:Nat)(rs:List Row):D:=.tup [.int n,.lst .fz (bJ rs)]
noncomputable def tI(rs:List Row):Prop:=∃ W:Nat,0<W/\W<64/\∀ r∈rs,r.1.den∣W
noncomputable def Rw(n:Nat)(l:List Int):Prop:=l.Nodup/\l.length<=n/\∀ h∈l,0<=h/\h<(n:Int)
theorem sI.rw{n:Nat}{l:List Int}(h:sI n l):Rw n l:=⟨h.nodup,h.len,h.2⟩
structure Dp(P:List Int->Prop)(k n:Nat)(rs:List Row):Prop where
 n1:1<=n
 n2:n<=12
 ym:k*(rs.length+1)<=66
 fin:k*(rs.length+1)<=60\/tI rs
 len:rs.length<=1000
 bu:∀ r∈rs,P r.2
 pos:∀ r∈rs,0<r.1
 sm:∀ r∈rs,Sm k r.1
 one:(rs.map (·.1)).sum=1
 rise:zJ (rs.map (·.2))
abbrev Dr(k n:Nat)(rs:List Row):Prop:=Dp (sI n) k n rs
theorem Dp.imp{P Q:List Int->Prop}{k n:Nat}{rs:List Row}(I:Dp P k n rs)(h:∀ r∈rs,P r.2->Q r.2):Dp Q k n rs:=⟨I.n1,I.n2,I.ym,I.fin,I.len,λr hr=>h r hr (I.bu r hr),I.pos,I.sm,I.one,I.rise⟩
noncomputable def bC(rs:List Row):List Rat:=rs.map (·.1)
section
variable {P:List Int->Prop}{k n:Nat}{rs:List Row}(I:Dp P k n rs)
include I
theorem Dp.CJ:Bk k (bC rs):=⟨λq hq=>by
 obtain⟨r,hr,rfl⟩:=List.mem_map.mp hq;exact I.sm r hr,by
  have:=I.ym;have h:k*(bC rs).length<=k*(rs.length+1):=aaR _ (by simp[bC]);left,by simp[bC];exact I.len⟩
omit I in
theorem qT{W:Nat}:∀(qs:List Rat) (b:Nat),b∣W->(∀ q∈qs,q.den∣W)->qs.foldl (λb q=>Nat.lcm b q.den) b∣W
 | [],_,h,_=>h
 | q::qs,b,h,hq=>qT qs _ (Nat.lcm_dvd h (hq q aao)) λp hp=>hq p (aam _ hp)
theorem Dp.bot:0<aO (bC rs)/\aO (bC rs)<2 ^ 61/\∀ q∈bC rs,q.den∣aO (bC rs):=by
 obtain⟨a,b,c⟩:=I.CJ.lcm;refine⟨a,?_,c⟩;rcases I.fin with f | ⟨W,w0,w1,w2⟩
 ·refine aan b (aau (by decide) ?_);have h:k*(bC rs).length<=k*(rs.length+1):=aaR _ (by simp[bC]);left
 ·have:aO (bC rs)∣W:=qT _ 1 (Nat.one_dvd _) λq hq=>by
   obtain⟨r,hr,rfl⟩:=List.mem_map.mp hq;exact w2 r hr
  exact aax (abo w0 this) (aan w1 (by decide))
theorem Dp.top{r:Row}(hr:r∈rs):(aF (aO (bC rs)) r.1).natAbs<2 ^ 64:=by
 obtain⟨a,b,c⟩:=I.CJ.lcm;have s:=I.sm r hr;unfold aF;rw[Int.natAbs_mul,Int.fdiv_eq_ediv_of_nonneg _ (by left),<- Int.natCast_ediv,Int.natAbs_natCast];have h4:(bC rs).length=rs.length:=by simp[bC]
 have h3:=I.ym;rcases I.fin with f | ⟨W,w0,w1,w2⟩
 ·have h1:aO (bC rs) / r.1.den<2 ^ (1+k*(bC rs).length):=aax (ab4 _ _) b;have h2:=aN s.1 h1;refine aan h2 (aau (by decide) ?_);rw[h4];rw[Nat.mul_succ]at f;left
 ·have:aO (bC rs)∣W:=qT _ 1 (Nat.one_dvd _) λq hq=>by
   obtain⟨r,hr,rfl⟩:=List.mem_map.mp hq;exact w2 r hr
  have h1:aO (bC rs) / r.1.den<2 ^ 6:=aax (ab4 _ _) (aax (abo w0 this) w1);have h2:=aN s.1 h1;refine aan h2 (aau (by decide) ?_);have hl:1<=rs.length:=List.length_pos_of_mem hr;have:k*2<=k*(rs.length+1):=aaR _ (by left);left
end
def m_(m:List D->O D):Prop:=∀(r:Row) (n:Nat),n<=12->Rw n r.2->0<r.1->m [rD r,.int n]=ok (.bl true)
noncomputable def m5:List CS:=[.ifs (.or [(.not (.pd (.v 0) .tuple)),(.cmp .ne (.bf .len [(.v 0)]) (.int 2))]) [.ret (.bl false)] [],.ifs (.not (.call 43 [(.ix (.v 0) (.int 1)),(.v 1)])) [.ret (.bl false)] [],.ret (.and [(.call 3 [(.ix (.v 0) (.int 0))]),(.cmp .gt (.ix (.ix (.v 0) (.int 0)) (.int 0)) (.int 0))])]
theorem Rw.MP{n:Nat}{l:List Int}(h:Rw n l):b9 (.tup (aa l)) n=true:=by
 have h1:(aa l).all (bN n)=true:=by
  unfold aa;rw[List.all_map,List.all_eq_true];intro x hx;have:=h.2.2 x hx;simp[bN,this.1,this.2]
 have h2:vG l=l:=by
  have:=vF l [] (by simp) h.1;rw[List.nil_append]at this;exact this
 simp[b9,h1,gv,h2]
theorem Rw.iL{n:Nat}{l:List Int}(h:Rw n l)(hn:n<=12):tw (.tup (aa l)):=by
 have:=h.2.1;show(aa l).length<64;simp;left
theorem mx(Φ:au)(h3:cY (Φ 3))(Xo:fH (Φ 43)):m_ (mk Φ 2 2 m5):=by
 intro r n hn hl hp;have e1:=Xo (.tup (aa r.2)) n (hl.iL hn);rw[hl.MP]at e1;have e2:=h3 (qD r.1);rw[AU]at e2;have WQ:=nH hp;have e3:rD r=.tup [qD r.1,.tup (aa r.2)]:=rfl;have e4:qD r.1=.tup [.int r.1.num,.int r.1.den]:=rfl;simp[mk_eq,m5,e3,cU,e1,e2];simp[e4,WQ]
theorem HA(oY:Φ 1022=Nh){a b:List Int}(h:HT.lexLt a b=true):Φ 1022 [.tup (aa a),.tup (aa b)]=ok (.bl false):=by
 rw[oY];show(match intsOf (aa a)with | some ns=>(match intsOf (aa b)with | some ms=>ok (D.bl (!HT.lexLt ns ms)) | none=>none) | none=>none)=_;unfold aa;rw[aV,aV];show ok (D.bl (!HT.lexLt a b))=_;rw[h];rfl
def ka(m:List D->O D):Prop:=∀(rs:List Row),1<=rs.length->zJ (rs.map (·.2))->m [.lst .fz (bJ rs)]=ok (.bl true)
noncomputable def Ha:List CS:=[.ifs (.cw 1022 [(.ix (.v 1) (.int 1)),(.ix (.v 2) (.int 1))]) [.ret (.bl false)] []]
def gJ:List CS:=[.fr (.tp [1,2]) (.LG 1000 [(.v 0),(.cw 1020 [(.v 0),(.int 1)])]) Ha,.ret (.bl true)]
theorem Aa(Φ:au)(oY:Φ 1022=Nh)(c0:Option D):∀(rs:List Row) (r:Row) (c1 c2:Option D),zJ ((r::rs).map (·.2)) ->
  ∃ Yg Og,dO (λd ρ=>bT (.tp [1,2]) d ρ) (λρ=>aT Φ Ha ρ) (List.zipWith (λx y=>D.tup [x,y]) (bJ (r::rs)) (bJ rs)) [c0,c1,c2]=ok (.nx,[c0,Yg,Og])
 | [],r,c1,c2,_=>⟨c1,c2,rfl⟩
 | s::rs,r,c1,c2,h=>by
  have h':=List.pairwise_cons.mp h;obtain⟨Yg,Og,ih⟩:=Aa Φ oY c0 rs s (some (rD r)) (some (rD s)) h'.2;have hl:=h'.1 s.2 (by simp);have e:=HA oY hl;refine⟨Yg,Og,dt (ρ1:=[c0,some (rD r),some (rD s)]) (by simp) (ρ2:=[c0,some (rD r),some (rD s)]) ?_ ih⟩;have e1:∀ r:Row,rD r=.tup [qD r.1,.tup (aa r.2)]:=λ_=>rfl;simp[Ha,e1,e]
theorem gq(Φ:au)(j3:Φ 1000=sL)(Fs:Φ 1020=cutD true)(oY:Φ 1022=Nh):ka (mk Φ 1 3 gJ):=by
 intro rs h1 hr;obtain⟨r,rs,rfl⟩:∃ r yJ,rs=r::yJ:=by
  cases rs with
  | nil=>simp at h1
  | cons r rs=>exact⟨r,rs,rfl⟩
 obtain⟨c1,c2,e⟩:=Aa Φ oY (some (.lst .fz (bJ (r::rs)))) rs r none none hr;have e1:Φ 1020 [.lst .fz (bJ (r::rs)),.int 1]=ok (.lst .ow (bJ rs)):=by
  rw[Fs];show(if (0:Int)<=1/\(1:Int)<=((bJ (r::rs)).length:Nat)then ok (D.lst .ow (ag aR (sW true (1:Int).toNat (bJ (r::rs)))))else none)=_;rw[if_pos ⟨by decide,by simp;left⟩];show ok (D.lst .ow (ag aR (bJ rs)))=_;simp
 have e2:Φ 1000 [.lst .fz (bJ (r::rs)),.lst .ow (bJ rs)]=ok (.lst .ow (List.zipWith (λx y=>D.tup [x,y]) (bJ (r::rs)) (bJ rs))):=by rw[j3];rfl
 have e3:ag aC (List.zipWith (λx y=>D.tup [x,y]) (bJ (r::rs)) (bJ rs))=List.zipWith (λx y=>D.tup [x,y]) (bJ (r::rs)) (bJ rs):=by
  have:=dy aC (bJ (r::rs)) (bJ rs);rw[qM,qM]at this;exact this
 have hit:cA Φ (.LG 1000 [(.v 0),(.cw 1020 [(.v 0),(.int 1)])]) [some (.lst .fz (bJ (r::rs))),none,none]=ok (List.zipWith (λx y=>D.tup [x,y]) (bJ (r::rs)) (bJ rs),[some (.lst .fz (bJ (r::rs))),none,none]):=by
  show bd (bL Φ [(.v 0),(.cw 1020 [(.v 0),(.int 1)])] [some (.lst .fz (bJ (r::rs))),none,none]) _=_;have:bL Φ [(.v 0),(.cw 1020 [(.v 0),(.int 1)])] [some (.lst .fz (bJ (r::rs))),none,none]=ok [.lst .fz (bJ (r::rs)),.lst .ow (bJ rs)]:=by simp[e1]
  rw[this,dW,e2,dW];show ok (ag aC (List.zipWith (λx y=>D.tup [x,y]) (bJ (r::rs)) (bJ rs)),if av bE [D.lst .fz (bJ (r::rs)),.lst .ow (bJ rs)]then _ else _)=_;rw[e3];simp
 have hf:=fN (Φ:=Φ) (t:=.tp [1,2]) (b:=Ha) hit e;simp[mk_eq,gJ,hf]
def qP(rs:List Row):List D:=rs.map λr=>.tup (aa r.2)
@[simp] theorem qO(g:Fl->Fl)(rs:List Row):ag g (qP rs)=qP rs:=cK g (λr=>by simp) rs
@[simp] theorem M0(g:Fl->Bool)(rs:List Row):av g (qP rs)=false:=bG g (λr=>by simp) rs
def nj(b:Nat)(rs:List Row):List D:=rs.map λr=>.tup [.int (aF b r.1),.tup (aa r.2)]
@[simp] theorem qL(g:Fl->Fl)(b:Nat)(rs:List Row):ag g (nj b rs)=nj b rs:=cK g (λr=>by simp) rs
@[simp] theorem Sr(g:Fl->Bool)(b:Nat)(rs:List Row):av g (nj b rs)=false:=bG g (λr=>by simp) rs
noncomputable def I_:CE:=.comp 2 (.tp [0,1]) [] .seq [(.v 0)] [] (.v 0)
noncomputable def IZ:CE:=.comp 2 (.tp [0,1]) [] .seq [(.v 0)] [] (.v 1)
theorem Tf(Φ:au){rs:List Row}(h:rs.length<=1000)(r:aD):aK Φ I_ (some (.lst .fz (bJ rs))::r)=ok (.lst .ow (ai (bC rs))):=by
 unfold I_;rw[bo (xs:=[.lst .fz (bJ rs)]) (items:=bJ rs) (ds:=rs.map λr=>qD r.1) (by simp) (by rw[df];simp) (aU λr hr=>?_) (by simp;exact aX (by left))]
 ·simp[ai,bC,aB]
 ·exact⟨[some (qD r.1),some (.tup (aa r.2))],by simp[aM,rD],by simp,by simp⟩
theorem Rl(Φ:au){rs:List Row}(h:rs.length<=1000)(r:aD):aK Φ IZ (some (.lst .fz (bJ rs))::r)=ok (.lst .ow (qP rs)):=by
 unfold IZ;rw[bo (xs:=[.lst .fz (bJ rs)]) (items:=bJ rs) (ds:=rs.map λr=>.tup (aa r.2)) (by simp) (by rw[df];simp) (aU λr hr=>?_) (by simp;exact aX (by left))]
 ·exact aaS (λx=>ok (D.lst .ow x)) (qO mP rs)
 ·exact⟨[some (qD r.1),some (.tup (aa r.2))],by simp[aM,rD],by simp,by simp⟩
def fM(m:List D->O D):Prop:=∀(rs:List Row) k,Bk k (bC rs)->m [.lst .fz (bJ rs)]=ok (.tup [.int (aO (bC rs)),.lst .ow (nj (aO (bC rs)) rs)])
def kG:List CS:=[.asg (.nm 1) I_,.asg (.nm 2) IZ,.asg (.nm 3) (.call 9 [(.v 1)]),.ret (.tup [(.v 3),(.cw 1040 [(.call 10 [(.v 1),(.v 3)]),(.v 2)])])]
theorem BE(Φ:au)(h9:dh (Φ 9))(Kd:gK (Φ 10))(Fg:Φ 1040=ON):fM (mk Φ 1 4 kG):=by
 intro rs k hs;have hl:rs.length<=1000:=by have:=hs.len;simpa [bC]using this
 have e1:=Tf Φ hl;have e2:=Rl Φ hl;have e3:=λf=>h9 f (bC rs) k hs;have e4:=λf=>Kd f (bC rs) k (aO (bC rs)) hs hs.Ig;generalize aO (bC rs)=b at *;have e5:Φ 1040 [.lst .ow (aa ((bC rs).map (aF b))),.lst .al (qP rs)]=ok (.lst .ow (nj b rs)):=by
  rw[Fg];show ok (D.lst .ow (ag aR (List.zipWith pairD (aa ((bC rs).map (aF b))) (qP rs))))=_;rw[dy,eJ,qO];unfold bC aa qP nj;rw[List.map_map,List.map_map,List.zipWith_map,List.zipWith_self];rfl
 simp[mk_eq,kG,Gr Φ I_ _ rfl,Gr Φ IZ _ rfl,e1,e2,e3,e4,e5]
noncomputable def NU:CE:=.comp 2 (.tp [0,1]) [] .seq [(.ix (.v 1) (.int 1))] [] (.v 0)
def gY(m:List D->O D):Prop:=∀(rs:List Row) k,Bk k (bC rs)->(bC rs).sum=1->m [.lst .fz (bJ rs)]=ok (.bl true)
def ej:List CS:=[.asg (.nm 1) (.call 14 [(.v 0)]),.ret (.cmp .eq (.bf .fQ [NU]) (.ix (.v 1) (.int 0)))]
theorem Dc{b:Nat}(h:∀ q∈qs,q.den∣b)(h1:qs.sum=1):(qs.map (aF b)).sum=(b:Int):=by
 have:=qm h;rw[h1,Rat.one_mul,<- Rat.intCast_natCast]at this;exact Rat.intCast_inj.mp this
theorem d5(Φ:au)(Nf:fM (Φ 14)):gY (mk Φ 1 2 ej):=by
 intro rs k hs h1;have hl:rs.length<=1000:=by have:=hs.len;simpa [bC]using this
 have e1:=Nf rs k hs;have hb:=hs.lcm;have e2:=Dc hb.2.2 h1;generalize aO (bC rs)=b at *;have e3:∀ c0,aK Φ NU [c0,some (.tup [.int b,.lst .ow (nj b rs)])]=ok (.lst .ow (aa ((bC rs).map (aF b)))):=λc0=>by
  unfold NU;rw[bo (xs:=[.lst .al (nj b rs)]) (items:=nj b rs) (ds:=rs.map λr=>.int (aF b r.1)) (by simp) (by rw[df];simp) (aU λr hr=>?_) (by simp;exact aX (by left))]
  ·simp[aa,bC,aB]
  ·exact⟨[some (.int (aF b r.1)),some (.tup (aa r.2))],by simp[aM],by simp,by simp⟩
 have e4:oZ .fQ [.lst .ow (aa ((bC rs).map (aF b)))]=ok (.int b):=by
  show(match intsOf (aa ((bC rs).map (aF b)))with | some ns=>ok (D.int ns.sum) | none=>none)=_;unfold aa;rw[aV];show ok (D.int ((bC rs).map (aF b)).sum)=_;rw[e2]
 have e5:dG .eq (.int (b:Int)) (.int (b:Int))=ok (.bl true):=by
  show(if cQ 40 (.int (b:Int))&&cQ 40 (.int (b:Int))then ok (D.bl ((b:Int)==(b:Int)))else none)=_;simp[cQ]
 simp[mk_eq,ej,e1,e3,e4,e5]
noncomputable def pM:List CS:=[.ifs (.not (.call 12 [(.v 3),(.v 1)])) [.ret (.bl false)] []]
def i5:List CS:=[.ifs (.or [(.not (.pd (.v 0) .tuple)),(.cmp .ne (.bf .len [(.v 0)]) (.int 2))]) [.ret (.bl false)] [],.asg (.nm 1) (.ix (.v 0) (.int 0)),.asg (.nm 2) (.ix (.v 0) (.int 1)),.ifs (.or [(.not (.call 0 [(.v 1)])),(.cmp .lt (.v 1) (.int 1)),(.cmp .gt (.v 1) (.glo "MOST_HOUSES" 12))]) [.ret (.bl false)] [],.ifs (.not (.pd (.v 2) .list)) [.ret (.bl false)] [],.fr (.nm 3) (.seq (.v 2)) pM,.ret (.and [(.call 44 [(.v 2)]),(.call 15 [(.v 2)])])]
def Ou(m:List D->O D):Prop:=∀ k n rs,Dr k n rs->m [aw n rs]=ok (.bl true)
def Gj(m:List D->O D):Prop:=∀ k n rs,Dp (Rw n) k n rs->m [aw n rs]=ok (.bl true)
theorem rK(Φ:au)(Pa:m_ (Φ 12)){n:Nat}(hn:n<=12)(c0 c2:Option D):∀(rs:List Row) (c3:Option D),(∀ r∈rs,Rw n r.2/\0<r.1)->∃ Of,dO (λd ρ=>bT (.nm 3) d ρ) (λρ=>aT Φ pM ρ) (bJ rs) [c0,some (.int n),c2,c3]=ok (.nx,[c0,some (.int n),c2,Of])
 | [],c3,_=>⟨c3,rfl⟩
 | r::rs,c3,h=>by
  obtain⟨Of,ih⟩:=rK Φ Pa hn c0 c2 rs (some (rD r)) λs hs=>h s (aam _ hs);have h1:=h r aao;have e:=Pa r n hn h1.1 h1.2;refine⟨Of,dt (ρ1:=[c0,some (.int n),c2,some (rD r)]) (by simp) (ρ2:=[c0,some (.int n),c2,some (rD r)]) ?_ ih⟩;simp[pM,e]
theorem Dp.some{P:List Int->Prop}{k n:Nat}{rs:List Row}(I:Dp P k n rs):1<=rs.length:=by
 cases rs with
 | nil=>have:=I.one;simp at this
 | cons r rs=>simp
theorem iU(Φ:au)(h0:du (Φ 0))(Pa:m_ (Φ 12))(h15:gY (Φ 15))(h44:ka (Φ 44)):Gj (mk Φ 1 4 i5):=by
 intro k n rs I;have n1:=I.n1;have n2:=I.n2;have e1:=h15 rs k I.CJ I.one;have e2:=h44 rs I.some I.rise;have e3:Φ 0 [.int (n:Int)]=ok (.bl true):=by rw[h0];rfl
 obtain⟨c3,e4⟩:=rK Φ Pa n2 (some (aw n rs)) (some (.lst .fz (bJ rs))) rs none λr hr=>⟨I.bu r hr,I.pos r hr⟩
 have hit:cA Φ (.seq (.v 2)) [some (aw n rs),some (.int n),some (.lst .fz (bJ rs)),none]=ok (bJ rs,[some (aw n rs),some (.int n),some (.lst .fz (bJ rs)),none]):=by
  rw[yY (f:=.fz) (ds:=bJ rs) (by simp)];simp
 have hf:=fN (Φ:=Φ) (t:=.nm 3) (b:=pM) hit e4;have c1:dG .lt (.int (n:Int)) (.int 1)=ok (.bl false):=by
  show ok (D.bl (decide ((n:Int)<1)))=_;rw[decide_eq_false (by left)]
 have c2:dG .gt (.int (n:Int)) (.int 12)=ok (.bl false):=by
  show ok (D.bl (decide ((12:Int)<n)))=_;rw[decide_eq_false (by left)]
 have ty1:∀ ds,cU .tuple (.tup ds)=true:=λ_=>rfl;have ty2:∀ f ds,cU .list (.lst f ds)=true:=λ_ _=>rfl;unfold aw at hf ⊢;simp[mk_eq,i5,ty1,ty2,e3,c1,c2,hf,e2,e1]
noncomputable def N0:CE:=.comp 2 (.tp [0,1]) [0] .seq [(.ix (.v 0) (.int 1))] [] (.call 11 [(.v 1),(.ix (.v 2) (.int 0))])
def fD:List CS:=[.ret (.and [(.call 45 [(.v 0)]),(.bf .all1 [N0])])]
theorem fg(Φ:au)(Xy:sh (Φ 11))(h45:Gj (Φ 45)):Ou (mk Φ 1 1 fD):=by
 intro k n rs I;have e1:=h45 k n rs (I.imp λ_ _ h=>h.rw);have e2:aK Φ N0 [some (aw n rs)]=ok (.lst .ow (mU (rs.map λ_=>true))):=by
  unfold N0;rw[bo (xs:=[.lst .fz (bJ rs)]) (items:=bJ rs) (ds:=rs.map λ_=>.bl true) (by simp[aw]) (by rw[df];simp) (aU λr hr=>?_) (by simp;exact aX (by have:=I.len;left))]
  ·simp[mU,aB]
  ·have hl:=I.bu r hr;have e:=Xy (.tup (aa r.2)) n (hl.iL I.n2);rw[hl.xm]at e;exact⟨[some (qD r.1),some (.tup (aa r.2)),some (aw n rs)],by simp[aM,rD,aw],by simp,by simp[aw,e]⟩
 have e3:oZ .all1 [.lst .ow (mU (rs.map λ_=>true))]=ok (.bl true):=by
  show(match j9 (mU (rs.map λ_=>true))with | some bs=>ok (D.bl (bs.all id)) | none=>none)=_;unfold mU;rw[oi];show ok (D.bl ((rs.map λ_=>true).all id))=_;congr 2;simp
 have m1:aq aC (aw n rs)=aw n rs:=by simp[aw]
 have m2:aq aR (aw n rs)=aw n rs:=by simp[aw]
 simp[mk_eq,fD,m1,m2,e1,e2,e3]
def dY(m:List D->O D):Prop:=∀ k n rs,Dr k n rs->m [aw n rs]=ok .bh
noncomputable def dg:List CS:=[.ifs (.not (.call 16 [(.v 0)])) [.rs 1] []]
theorem c_(Φ:au)(h16:Ou (Φ 16)):dY (mk Φ 1 1 dg):=by
 intro k n rs I;have e1:=h16 k n rs I;have m1:aq aC (aw n rs)=aw n rs:=by simp[aw]
 have m2:aq aR (aw n rs)=aw n rs:=by simp[aw]
 simp[mk_eq,dg,m1,m2,e1]
noncomputable def dM(ws xs:List Rat):List Rat:=(ws.zip xs).map λp=>p.1*p.2
noncomputable def i7(ts:List Int)(h:Int):Int:=ts.getD h.toNat 0
def sumZ(bu:List Int)(ts:List Int):Int:=(bu.map (i7 ts)).sum
theorem Jt{ts:List Int}{h:Int}(h0:0<=h)(h1:h<ts.length):yn (aa ts) h=ok (.int (i7 ts h)):=by
 have hl:h.toNat<ts.length:=by left
 have:=at_of (ds:=aa ts) (d:=.int (i7 ts h)) h0 (by
  rw[uh,List.getElem?_eq_getElem hl];show some (D.int ts[h.toNat])=_;unfold i7;simp[hl])
 simpa using this
noncomputable def NV:CE:=.comp 2 (.tp [0,1]) [] (.cw 1000) [(.v 1),(.v 2)] [] (.call 6 [(.v 0),(.v 1)])
noncomputable def NW:CE:=.comp 1 (.nm 0) [2] .seq [(.v 1)] [] (.ix (.v 1) (.v 0))
def NX:CE:=.comp 2 (.tp [0,1]) [4] .seq [(.ix (.v 0) (.int 1))] [] (.bf .fQ [NW])
def eu:List CS:=[.asg (.nm 3) (.call 41 [NV]),.asg (.nm 4) (.ix (.v 3) (.int 1)),.ret (.tup [(.ix (.v 3) (.int 0)),NX])]
structure Gs(j n:Nat)(ws xs:List Rat):Prop where
 l1:ws.length=n
 l2:xs.length=n
 s1:∀ q∈ws,Sm j q
 s2:∀ q∈xs,Sm j q
 jj:j<=100
theorem Gs.CJ{j n:Nat}(G:Gs j n ws xs)(hn:n<=12):Bk (j+j) (dM ws xs):=by
 have hl:(dM ws xs).length=n:=by unfold dM;rw[List.length_map,List.length_zip,G.l1,G.l2,Nat.min_self]
 have hj:=G.jj;refine⟨λq hq=>?_,?_,by left⟩
 ·obtain⟨p,hp,rfl⟩:=List.mem_map.mp hq;have m:=aaN hp;exact(G.s1 _ m.1).mul (G.s2 _ m.2)
 ·rw[hl];have:(j+j)*n<=200*12:=aa6 (by left) hn;left
theorem Gs.at{j n:Nat}{ws xs:List Rat}(G:Gs j n ws xs){h:Int}(h0:0<=h)(h1:h<n):b6 (dM ws xs) h=b6 ws h*b6 xs h:=by
 obtain⟨g1,_⟩:=bB (qs:=ws) h0 (by rw[G.l1];exact h1);obtain⟨g2,_⟩:=bB (qs:=xs) h0 (by rw[G.l2];exact h1);unfold b6 at *;unfold dM;rw[List.getD_eq_getElem?_getD,List.getElem?_map,List.zip,List.getElem?_zipWith,g1,g2];rfl
def dS(rs:List Row)(P:List Rat):List Int:=rs.map λr=>sumZ r.2 (P.map (aF (aO P)))
def eA(m:List D->O D):Prop:=∀ k n rs f g ws xs j,Dr k n rs->Gs j n ws xs->m [aw n rs,.lst f (ai ws),.lst g (ai xs)]=ok (.tup [.int (aO (dM ws xs)),.lst .ow (aa (dS rs (dM ws xs)))])
theorem d6(Φ:au)(h6:dH (Φ 6))(Xp:i9 (Φ 41))(j3:Φ 1000=sL):eA (mk Φ 3 5 eu):=by
 intro k n rs f g ws xs j I G;have hn:=I.n2;have hs:=G.CJ hn;have k1:∀ a b c,aK Φ NV [a,some (.lst f (ai ws)),some (.lst g (ai xs)),b,c]=ok (.lst .ow (ai (dM ws xs))):=λa b c=>by
  unfold NV;rw[bo (xs:=[.lst (aR f) (ai ws),.lst (aR g) (ai xs)]) (by simp) (CY j3 ..) (ds:=(ws.zip xs).map λp=>qD (p.1*p.2)) (aU λp hp=>?_) (by simp;exact aX (by have:=G.l1;left))]
  ·simp[dM,ai,aB]
  ·have m:=aaN hp;have hj:=G.jj;have e:=h6 p.1 p.2 ((G.s1 _ m.1).mono (by left)) ((G.s2 _ m.2).mono (by left));exact⟨[some (qD p.1),some (qD p.2)],by simp[aM,Ua],by simp,by simp[e]⟩
 have k2:=λf=>Xp f (dM ws xs) (j+j) hs;have hP:(dM ws xs).length=n:=by unfold dM;rw[List.length_map,List.length_zip,G.l1,G.l2,Nat.min_self]
 unfold dS;generalize hb:aO (dM ws xs)=b at *;generalize hT:(dM ws xs).map (aF b)=ts at *;have hts:ts.length=n:=by rw[<- hT,List.length_map,hP]
 have k3:∀(r:Row),r∈rs->aK Φ NW [some (qD r.1),some (.tup (aa r.2)),some (.lst .fz (aa ts))]=ok (.lst .ow (aa (r.2.map (i7 ts)))):=λr hr=>by
  have hl:=I.bu r hr;unfold NW;rw[bo (xs:=[.tup (aa r.2)]) (items:=r.2.map D.int) (ds:=r.2.map λh=>.int (i7 ts h)) (by simp) (by rw[vn,eJ];rfl) (aU λh hh=>?_) (by simp;exact aX (by have:=hl.len;left))]
  ·simp[aa,aB]
  ·obtain⟨a,b⟩:=hl.2 h hh;have e:=Jt (ts:=ts) a (by rw[hts];exact b);exact⟨[some (.int h),some (.lst .fz (aa ts))],by simp[aM],by simp,by simp[e]⟩
 have k4:∀(r:Row),oZ .fQ [.lst .ow (aa (r.2.map (i7 ts)))]=ok (.int (sumZ r.2 ts)):=λr=>by
  show(match intsOf (aa (r.2.map (i7 ts)))with | some ns=>ok (D.int ns.sum) | none=>none)=_;unfold aa;rw[aV];rfl
 have k5:∀ a b c,aK Φ NX [some (aw n rs),a,b,c,some (.lst .fz (aa ts))]=ok (.lst .ow (aa (rs.map λr=>sumZ r.2 ts))):=λa b c=>by
  unfold NX;rw[bo (xs:=[.lst .fz (bJ rs)]) (items:=bJ rs) (ds:=rs.map λr=>.int (sumZ r.2 ts)) (by simp[aw]) (by rw[df];simp) (aU λr hr=>?_) (by simp;exact aX (by have:=I.len;left))]
  ·simp[aa,aB]
  ·exact⟨[some (qD r.1),some (.tup (aa r.2)),some (.lst .fz (aa ts))],by simp[aM,rD],by simp,by simp[k3 r hr,k4]⟩
 simp[mk_eq,eu,k1,k2,k5,iB]
noncomputable def Cj:CE:=.comp 2 (.tp [0,1]) [] (.cw 1000) [(.ix (.v 2) (.int 1)),(.ix (.v 1) (.int 1))] [] (.bin .mul (.ix (.v 0) (.int 0)) (.v 1))
def kK:List CS:=[.asg (.nm 2) (.call 14 [(.v 0)]),.asg (.nm 3) (.bf .fQ [Cj]),.ret (.call 2 [(.v 3),(.bin .mul (.ix (.v 2) (.int 0)) (.ix (.v 1) (.int 0)))])]
def fP(b:Nat)(rs:List Row)(gs:List Int):Int:=((rs.zip gs).map λp=>aF b p.1.1*p.2).sum
def oq(m:List D->O D):Prop:=∀ {P:List Int->Prop} k n rs gs (gb:Nat),Dp P k n rs->gs.length=rs.length->0<gb->gb<2 ^ 8000->m [.lst .fz (bJ rs),.tup [.int gb,.lst .fz (aa gs)]]=ok (qD (Rat.divInt (fP (aO (bC rs)) rs gs) ((aO (bC rs):Int)*gb)))
theorem kC(Φ:au)(h2:bP (Φ 2))(Nf:fM (Φ 14))(j3:Φ 1000=sL):oq (mk Φ 2 4 kK):=by
 intro P k n rs gs gb I hl g0 g1;have e1:=Nf rs k I.CJ;obtain⟨b0,b1,_⟩:=I.bot;have ht:=λr hr=>I.top (r:=r) hr;generalize aO (bC rs)=b at *;have hz:cS Φ (.cw 1000) [.lst .al (nj b rs),.lst .fz (aa gs)]=ok ((rs.zip gs).map λp=>.tup [.tup [.int (aF b p.1.1),.tup (aa p.1.2)],.int p.2]):=by
  show bd (Φ 1000 _) nF=_;rw[j3];show ok (ag aC (List.zipWith (λx y=>D.tup [x,y]) (nj b rs) (aa gs)))=_;have:=dy aC (nj b rs) (aa gs);rw[qL,eJ]at this;refine aaS ok (Eq.trans this ?_);unfold nj aa;rw[List.zipWith_map,List.zip,List.map_zipWith];rfl
 have k1:∀ a b',aK Φ Cj [a,some (.tup [.int gb,.lst .fz (aa gs)]),some (.tup [.int b,.lst .ow (nj b rs)]),b']=ok (.lst .ow (aa ((rs.zip gs).map λp=>aF b p.1.1*p.2))):=λa b'=>by
  unfold Cj;rw[bo (xs:=[.lst .al (nj b rs),.lst .fz (aa gs)]) (by simp) hz (ds:=(rs.zip gs).map λp=>.int (aF b p.1.1*p.2)) (aU λp hp=>?_) (by simp;exact aX (by have:=I.len;left))]
  ·simp[aa,aB]
  ·have m:=aaN hp;have e:=kI (j:=p.2) (ht p.1 m.1);exact⟨[some (.tup [.int (aF b p.1.1),.tup (aa p.1.2)]),some (.int p.2)],by simp[aM],by simp,by simp[e]⟩
 have k2:oZ .fQ [.lst .ow (aa ((rs.zip gs).map λp=>aF b p.1.1*p.2))]=ok (.int (fP b rs gs)):=by
  show(match intsOf (aa ((rs.zip gs).map λp=>aF b p.1.1*p.2))with | some ns=>ok (D.int ns.sum) | none=>none)=_;unfold aa;rw[aV];rfl
 have Iz:((b:Int)).natAbs<2 ^ 64:=by rw[Int.natAbs_natCast];exact aan b1 (by decide)
 have k3:=kI (j:=(gb:Int)) Iz;have k4:=h2.1 (fP b rs gs) ((b:Int)*gb) (by
  have:(0:Int)<(b:Int)*gb:=Int.mul_pos (by left) (by left);left) (by
  rw[Int.natAbs_mul,Int.natAbs_natCast,Int.natAbs_natCast];exact aan (aN b1 g1) (aau (by decide) (by decide)))
 simp[mk_eq,kK,e1,k1,k2,k3,k4]
def a_(rs:List Row)(ws xs:List Rat):Rat:=(rs.map λr=>r.1*dN r.2 λh=>b6 ws h*b6 xs h).sum
theorem G8{b:Nat}{P:List Rat}(hd:∀ q∈P,q.den∣b){h:Int}(h0:0<=h)(h1:h<P.length):((i7 (P.map (aF b)) h:Int):Rat)=b6 P h*(b:Rat):=by
 obtain⟨g,m⟩:=bB (qs:=P) h0 h1;have hl:h.toNat<P.length:=by left
 have e:i7 (P.map (aF b)) h=aF b (b6 P h):=by
  unfold i7;rw[List.getD_eq_getElem?_getD,List.getElem?_map,g];rfl
 rw[e,mh (hd _ m)]
theorem qp{b:Nat}{P:List Rat}(hd:∀ q∈P,q.den∣b):∀(bu:List Int),(∀ h∈bu,0<=h/\h<(P.length:Int))->((sumZ bu (P.map (aF b)):Int):Rat)=(dN bu λh=>b6 P h)*(b:Rat)
 | [],_=>by simp[sumZ,dN,Rat.zero_mul]
 | h::bu,hh=>by
  have ih:=qp hd bu λx hx=>hh x (aam _ hx);have h1:=hh h aao;have e:sumZ (h::bu) (P.map (aF b))=i7 (P.map (aF b)) h+sumZ bu (P.map (aF b)):=rfl;rw[e,Rat.intCast_add,G8 hd h1.1 h1.2,ih,nA];grind
theorem uK{b c:Nat}{P:List Rat}(hc:∀ q∈P,q.den∣c):∀(rs:List Row),(∀ r∈rs,r.1.den∣b)->(∀ r∈rs,∀ h∈r.2,0<=h/\h<(P.length:Int)) ->
  ((fP b rs (rs.map λr=>sumZ r.2 (P.map (aF c))):Int):Rat)=(rs.map λr=>r.1*dN r.2 λh=>b6 P h).sum*((b:Rat)*(c:Rat))
 | [],_,_=>by simp[fP,Rat.zero_mul]
 | r::rs,hb,hl=>by
  have ih:=uK hc rs (λs hs=>hb s (aam _ hs)) λs hs=>hl s (aam _ hs);have e:fP b (r::rs) ((r::rs).map λr=>sumZ r.2 (P.map (aF c)))=aF b r.1*sumZ r.2 (P.map (aF c))+fP b rs (rs.map λr=>sumZ r.2 (P.map (aF c))):=rfl;rw[e,Rat.intCast_add,Rat.intCast_mul,mh (hb r List.mem_cons_self),qp hc r.2 (hl r List.mem_cons_self),ih,List.map_cons,List.sum_cons];grind
def ja(m:List D->O D):Prop:=∀ k n rs f g ws xs j,Dr k n rs->Gs j n ws xs->m [aw n rs,.lst f (ai ws),.lst g (ai xs)]=ok (qD (a_ rs ws xs))
noncomputable def fE:List CS:=[.ex (.call 17 [(.v 0)]),.ex (.call 46 [(.v 1),(.ix (.v 0) (.int 0))]),.ex (.call 47 [(.v 2),(.ix (.v 0) (.int 0))]),.ret (.call 49 [(.ix (.v 0) (.int 1)),(.call 48 [(.v 0),(.v 1),(.v 2)])])]
theorem fh(Φ:au)(Nc:dY (Φ 17))(Xn:eD 3 jJ (Φ 46))(IE:eD 4 jJ (Φ 47))(Xm:eA (Φ 48))(h49:oq (Φ 49)):ja (mk Φ 3 3 fE):=by
 intro k n rs f g ws xs j I G;have hn:=I.n2;have l1:=G.l1;have l2:=G.l2;have e1:=Nc k n rs I;have e2:=λf=>Xn (.lst f (ai ws)) n (by show(ai ws).length<=1000000;simp;left);have e3:=λf=>IE (.lst f (ai xs)) n (by show(ai xs).length<=1000000;simp;left);simp only[i8,l1,decide_true,if_true]at e2;simp only[i8,l2,decide_true,if_true]at e3;have e4:=λf g=>Xm k n rs f g ws xs j I G;have hs:=G.CJ hn;obtain⟨c0,c1,c2⟩:=hs.lcm;have hc8:=hs.Ig;have e5:=h49 k n rs (dS rs (dM ws xs)) (aO (dM ws xs)) I (by simp[dS]) c0 hc8;have hP:(dM ws xs).length=n:=by unfold dM;rw[List.length_map,List.length_zip,G.l1,G.l2,Nat.min_self]
 obtain⟨b0,b1,b2⟩:=I.bot;have key:Rat.divInt (fP (aO (bC rs)) rs (dS rs (dM ws xs))) ((aO (bC rs):Int)*(aO (dM ws xs):Int))=a_ rs ws xs:=by
  have t:=uK (b:=aO (bC rs)) (c:=aO (dM ws xs)) c2 rs (λr hr=>b2 _ (aaL hr)) λr hr h hh=>by rw[hP];exact(I.bu r hr).2 h hh
  have em:(rs.map λr=>r.1*dN r.2 λh=>b6 (dM ws xs) h).sum=a_ rs ws xs:=by
   unfold a_;congr 1;refine aaz λr hr=>?_;rw[qq λh hh=>G.at ((I.bu r hr).2 h hh).1 ((I.bu r hr).2 h hh).2]
  rw[em]at t;rw[Rat.divInt_eq_div,show fP (aO (bC rs)) rs (dS rs (dM ws xs))=fP (aO (bC rs)) rs (rs.map λr=>sumZ r.2 ((dM ws xs).map (aF (aO (dM ws xs))))) from rfl,t,Rat.intCast_mul,Rat.intCast_natCast,Rat.intCast_natCast];have z:∀ {x:Nat},0<x->(x:Rat)≠0:=λ{x} hx e=>by
   have:((x:Int):Rat)=0:=by rw[Rat.intCast_natCast];exact e
   rw[Rat.intCast_eq_zero_iff]at this;left
  have z1:=z b0;have z2:=z c0;generalize ((aO (bC rs):Nat):Rat)=B at *;generalize ((aO (dM ws xs):Nat):Rat)=C at *;have z3:B*C≠0:=by
   intro h;rcases Rat.mul_eq_zero.mp h with h | h
   ·exact z1 h
   ·exact z2 h
  rw[Rat.mul_div_cancel z3]
 rw[key]at e5;have m1:aq aC (aw n rs)=aw n rs:=by simp[aw]
 have m2:aq aR (aw n rs)=aw n rs:=by simp[aw]
 have hd:aw n rs=.tup [.int n,.lst .fz (bJ rs)]:=rfl;have x0:vm (aw n rs) (.int 0)=ok (.int n):=by rw[hd];simp
 have x1:vm (aw n rs) (.int 1)=ok (.lst .fz (bJ rs)):=by rw[hd];simp
 simp[mk_eq,fE,m1,m2,x0,x1,e1,e2,e3,e4,e5]
def lN(m:List D->O D):Prop:=∀ f qs j,1<=qs.length->qs.length<=12->Bk j qs->m [.lst f (ai qs)]=ok (qD qs.sum)
noncomputable def iZ:List CS:=[.ifs (.or [(.not (.pd (.v 0) .list)),(.cmp .lt (.bf .len [(.v 0)]) (.int 1)),(.cmp .gt (.bf .len [(.v 0)]) (.glo "MOST_HOUSES" 12))]) [.rs 4] [],.ex (.call 47 [(.v 0),(.bf .len [(.v 0)])]),.ret (.call 42 [(.v 0)])]
theorem iR(Φ:au)(h42:jb (Φ 42))(IE:eD 4 jJ (Φ 47)):lN (mk Φ 1 1 iZ):=by
 intro f qs j l1 l2 hs;have e1:=λf=>IE (.lst f (ai qs)) qs.length (by show(ai qs).length<=1000000;simp;left);simp only[i8,decide_true,if_true]at e1;have e2:=λf=>h42 f qs j hs;have ty:∀ f ds,cU .list (.lst f ds)=true:=λ_ _=>rfl;have c1:dG .lt (.int (qs.length:Int)) (.int 1)=ok (.bl false):=by
  show ok (D.bl (decide ((qs.length:Int)<1)))=_;rw[decide_eq_false (by left)]
 have c2:dG .gt (.int (qs.length:Int)) (.int 12)=ok (.bl false):=by
  show ok (D.bl (decide ((12:Int)<qs.length)))=_;rw[decide_eq_false (by left)]
 simp[mk_eq,iZ,ty,c1,c2,e1,e2]
theorem yq{p i:Nat}{xs:List D}{d d':D}(h1:bL Φ es ρ=ok xs)(h2:av bE xs=false)(h3:ρ[i]?=some (some d))(h4:Φ p (d::xs)=ok d'):rF Φ (.mut p i es) ρ=ok (.nx,ρ.set i (some d')):=by
 show bd (bL Φ es ρ) (λxs=>yP Φ p i (qV es xs ρ))=_;rw[h1,dW];unfold qV;rw[h2,if_neg Bool.false_ne_true];unfold yP;rw[h3];show bd (Φ p (d::xs)) _=_;rw[h4];rfl
theorem Oi(i:Int):cq .band (.int i) (.int 1)=ok (.int (i % 2)):=rfl
theorem nM(c:List Int):∀(cs:List (List Int)) (ws:List Int),bO cs (aa ws) c=(bO cs ws c).map D.int
 | [],_=>by cases ‹List Int› <;> rfl
 | _::_,[]=>rfl
 | c'::cs,w::ws=>by
  show(if c'=c then some (D.int w)else bO cs (aa ws) c)=Option.map D.int (if c'=c then some w else bO cs ws c);by_cases e:c'=c
  ·rw[if_pos e,if_pos e];rfl
  ·rw[if_neg e,if_neg e];exact nM c cs ws
theorem tS(c:List Int)(v:Int):∀(cs:List (List Int)) (ws:List Int),setC cs (aa ws) c (.int v)=aa (setC cs ws c v)
 | [],_=>by cases ‹List Int› <;> rfl
 | _::_,[]=>rfl
 | c'::cs,w::ws=>by
  show(if c'=c then D.int v else D.int w)::setC cs (aa ws) c (.int v)=D.int (if c'=c then v else w)::aa (setC cs ws c v);rw[tS c v cs ws];by_cases e:c'=c
  ·rw[if_pos e,if_pos e]
  ·rw[if_neg e,if_neg e]
theorem yt(cs:List (List Int))(ws:List Int)(c:List Int)(v:Int):bw cs (aa ws) c (.int v)=aa (bw cs ws c v):=by
 unfold bw;by_cases e:c∈cs
 ·rw[if_pos e,if_pos e];exact tS c v cs ws
 ·rw[if_neg e,if_neg e];simp
def bU(cs:List (List Int))(ws:List Int)(c:List Int):Int:=(bO cs ws c).getD 0
theorem rm{α:Type}{c:List Int}:∀ {cs:List (List Int)} (ws:List α),c∉cs->bO cs ws c=none
 | [],_,_=>by cases ‹List α› <;> rfl
 | _::_,[],_=>rfl
 | c'::cs,w::ws,h=>by
  show(if c'=c then some w else bO cs ws c)=none;rw[if_neg λe=>h (by rw[e];exact List.mem_cons_self)];exact rm ws λz=>h (aam _ z)
theorem mO{α:Type}{c:List Int}:∀ {cs:List (List Int)} {ws:List α},cs.length=ws.length->c∈cs->∃ w,bO cs ws c=some w/\w∈ws
 | [],_,_,h=>nomatch h
 | _::_,[],hl,_=>by simp at hl
 | c'::cs,w::ws,hl,h=>by
  by_cases e:c'=c
  ·exact⟨w,aa3 e,aao⟩
  ·have h':c∈cs:=(List.mem_cons.mp h).resolve_left λz=>e z.symm;obtain⟨w',e1,e2⟩:=mO (cs:=cs) (ws:=ws) (by simpa using hl) h';exact⟨w',(aco e).trans e1,aam _ e2⟩
theorem qK:∀ {cs:List (List Int)} {ws:List Int},cs.Nodup->cs.length=ws.length->cs.map (bU cs ws)=ws
 | [],[],_,_=>rfl
 | [],_::_,_,h=>by simp at h
 | _::_,[],_,h=>by simp at h
 | c::cs,w::ws,hn,hl=>by
  have AJ:=List.nodup_cons.mp hn;have ih:=qK (cs:=cs) (ws:=ws) AJ.2 (by simpa using hl);rw[List.map_cons];have e1:bU (c::cs) (w::ws) c=w:=by
   show(if c=c then some w else bO cs ws c).getD 0=w;rw[if_pos rfl];rfl
  have e2:cs.map (bU (c::cs) (w::ws))=cs.map (bU cs ws):=aaz λx hx=>by
   show(if c=x then some w else bO cs ws x).getD 0=_;rw[if_neg (show ¬ c=x from λz=>AJ.1 (by rw[z];exact hx))];rfl
  rw[e1,e2,ih]
theorem wV{c:List Int}{v:Int}:∀ {cs:List (List Int)} {ws:List Int},cs.Nodup->cs.length=ws.length->c∈cs->(setC cs ws c v).sum=ws.sum - bU cs ws c+v/\(setC cs ws c v).length=ws.length
 | [],_,_,_,h=>nomatch h
 | _::_,[],_,h,_=>by simp at h
 | c'::cs,w::ws,hn,hl,h=>by
  have AJ:=List.nodup_cons.mp hn;have vp:cs.length=ws.length:=by simpa using hl
  have es:setC (c'::cs) (w::ws) c v=(if c'=c then v else w)::setC cs ws c v:=rfl;by_cases e:c'=c
  ·have RN:∀ {cs:List (List Int)} {ws:List Int},cs.length=ws.length->c∉cs->setC cs ws c v=ws:=λ{cs}=>by
    induction cs with
    | nil=>intro ws hl _;cases ws with | nil=>rfl | cons _ _=>simp at hl
    | cons d cs ih =>
     intro ws hl hc;cases ws with
     | nil=>simp at hl
     | cons w ws =>
      show(if d=c then v else w)::setC cs ws c v=_;rw[if_neg λz=>hc (by rw[z];exact List.mem_cons_self),ih (by simpa using hl) λz=>hc (List.mem_cons_of_mem _ z)]
   have hcn:c∉cs:=e▸AJ.1;rw[es,if_pos e,RN vp hcn];have eg:bU (c'::cs) (w::ws) c=w:=by
    show(if c'=c then some w else bO cs ws c).getD 0=w;rw[if_pos e];rfl
   rw[eg];refine⟨?_,rfl⟩;rw[List.sum_cons,List.sum_cons];left
  ·have h':c∈cs:=(List.mem_cons.mp h).resolve_left λz=>e z.symm;obtain⟨i1,i2⟩:=wV (v:=v) AJ.2 vp h';have eg:bU (c'::cs) (w::ws) c=bU cs ws c:=by
    show(if c'=c then some w else bO cs ws c).getD 0=_;rw[if_neg e];rfl
   rw[es,if_neg e,eg];refine⟨?_,by rw[List.length_cons,List.length_cons,i2]⟩;rw[List.sum_cons,List.sum_cons,i1];left
theorem wW{c:List Int}{v:Int}:∀ {cs:List (List Int)} {ws:List Int} {x:Int},x∈setC cs ws c v->x∈ws\/x=v
 | [],_,_,h=>by cases ‹List Int› <;> exact nomatch h
 | _::_,[],_,h=>nomatch h
 | c'::cs,w::ws,x,h=>by
  have h:x∈(if c'=c then v else w)::setC cs ws c v:=h;rcases List.mem_cons.mp h with e | h
  ·by_cases q:c'=c
   ·rw[if_pos q]at e;exact .inr e
   ·rw[if_neg q]at e;rw[e];exact .inl aao
  ·rcases wW h with h | h
   ·exact .inl (aam _ h)
   ·exact .inr h
structure Tab(P:List Int->Prop)(j:Nat)(cs:List (List Int))(ws:List Int):Prop where
 nd:cs.Nodup
 ln:cs.length=ws.length
 ym:cs.length<=j
 bu:∀ c∈cs,P c
 pos:∀ w∈ws,1<=w
 sum:ws.sum<=7*j
 ne:1<=j->cs≠[]
variable {cs:List (List Int)}
theorem Tab.get{n:List Int->Prop}{j:Nat}{ws:List Int}(T:Tab n j cs ws)(c:List Int):0<=bU cs ws c:=by
 by_cases h:c∈cs
 ·obtain⟨w,e,m⟩:=mO T.ln h;unfold bU;rw[e];have:=T.pos w m;show 0<=w;left
 ·unfold bU;rw[rm ws h];exact Int.le_refl _
theorem Tab.put{n:List Int->Prop}{j:Nat}{ws:List Int}(T:Tab n j cs ws){c:List Int}(hc:n c){i:Int}(h1:1<=i)(h7:i<=7):Tab n (j+1) (cy cs c) (bw cs ws c (bU cs ws c+i)):=by
 have hg:=T.get c;have hf:=T.ym;have hs:=T.sum;by_cases h:c∈cs
 ·obtain⟨s1,s2⟩:=wV (v:=bU cs ws c+i) T.nd T.ln h;unfold cy bw;rw[if_pos h,if_pos h];refine⟨T.nd,by rw[s2];exact T.ln,by left,T.bu,λw hw=>?_,by rw[s1];left,λ_ z=>by rw[z]at h;cases h⟩;rcases wW hw with hw | rfl
  ·exact T.pos w hw
  ·left
 ·have hz:bU cs ws c=0:=by unfold bU;rw[rm ws h];rfl
  unfold cy bw;rw[if_neg h,if_neg h,hz];refine⟨?_,by rw[List.length_append,List.length_append,T.ln];rfl,by rw[List.length_append,List.length_singleton];left,λd hd=>?_,λw hw=>?_,by rw[List.sum_append];simp;left,λ_ z=>by simp at z⟩
  ·refine List.nodup_append.mpr ⟨T.nd,List.nodup_cons.mpr ⟨List.not_mem_nil,abx⟩,λa ha b hb e=>?_⟩;rw[List.mem_singleton.mp hb]at e;exact h (e▸ha)
  ·rcases List.mem_append.mp hd with hd | hd
   ·exact T.bu d hd
   ·rw[List.mem_singleton.mp hd];exact hc
  ·rcases List.mem_append.mp hw with hw | hw
   ·exact T.pos w hw
   ·rw[List.mem_singleton.mp hw];left
def o7(cs:List (List Int))(ws:List Int):List Row:=(bj cs).map λc=>(Rat.divInt (bU cs ws c) ws.sum,c)
theorem Tab.Ax{n:List Int->Prop}{j:Nat}{ws:List Int}(T:Tab n j cs ws):∀ w∈ws,w<=ws.sum:=λw hw=>by
 have:∀ l:List Int,(∀ x∈l,1<=x)->0<=l.sum/\∀ x∈l,x<=l.sum:=λl=>by
  induction l with
  | nil=>intro _;exact⟨Int.le_refl _,λ_ h=>nomatch h⟩
  | cons a l ih =>
   intro h;obtain⟨i1,i2⟩:=ih λx hx=>h x (aam _ hx);have ha:=h a aao;rw[List.sum_cons];refine⟨by left,λx hx=>?_⟩;rcases List.mem_cons.mp hx with rfl | hx
   ·left
   ·have:=i2 x hx;left
 exact(this ws T.pos).2 w hw
theorem uO(W:Int)(hW:W≠0):∀ ls:List Int,(ls.map λx=>Rat.divInt x W).sum=Rat.divInt ls.sum W
 | []=>by simp
 | x::ls=>by
  rw[List.map_cons,List.sum_cons,uO W hW ls,List.sum_cons,Rat.divInt_eq_div,Rat.divInt_eq_div,Rat.divInt_eq_div,Rat.intCast_add];grind
theorem xg{a b:List Rat}(h:a.Perm b):a.sum=b.sum:=by
 induction h with
 | nil=>rfl
 | cons x _ ih=>rw[List.sum_cons,List.sum_cons,ih]
 | swap x y l=>rw[List.sum_cons,List.sum_cons,List.sum_cons,List.sum_cons];grind
 | trans _ _ i1 i2=>rw[i1,i2]
theorem Tab.dr{P:List Int->Prop}{n j:Nat}{ws:List Int}(T:Tab P j cs ws)(h1:1<=j)(h6:j<=8)(n1:1<=n)(n2:n<=12):Dp P 6 n (o7 cs ws):=by
 have hp:(bj cs).Perm cs:=aa4 _ _;have hl:(o7 cs ws).length=cs.length:=by unfold o7;rw[List.length_map];exact hp.length_eq
 have hf:=T.ym;have hs:=T.sum;have val:∀ c∈bj cs,1<=bU cs ws c/\bU cs ws c<=ws.sum:=λc hc=>by
  obtain⟨w,e,m⟩:=mO T.ln (hp.mem_iff.mp hc);unfold bU;rw[e];exact⟨T.pos w m,T.Ax w m⟩
 have hW:1<=ws.sum:=by
  obtain⟨c,hc⟩:=List.exists_mem_of_ne_nil cs (T.ne h1);have:=val c (hp.mem_iff.mpr hc);left
 refine⟨n1,n2,by rw[hl];left,.inl (by rw[hl];left),by rw[hl];left,λr hr=>?_,λr hr=>?_,λr hr=>?_,?_,?_⟩
 ·obtain⟨c,hc,rfl⟩:=List.mem_map.mp hr;exact T.bu c (hp.mem_iff.mp hc)
 ·obtain⟨c,hc,rfl⟩:=List.mem_map.mp hr;exact rL (by have:=val c hc;left) (by left)
 ·obtain⟨c,hc,rfl⟩:=List.mem_map.mp hr;have:=val c hc;exact Dw (by left) (by show _<64;left) (by show _<64;left)
 ·have e:(o7 cs ws).map (·.1)=(bj cs).map λc=>Rat.divInt (bU cs ws c) ws.sum:=by
   unfold o7;rw[List.map_map];rfl
  rw[e];have e2:((bj cs).map λc=>Rat.divInt (bU cs ws c) ws.sum).sum=(cs.map λc=>Rat.divInt (bU cs ws c) ws.sum).sum:=xg (hp.map _);have e3:(cs.map λc=>Rat.divInt (bU cs ws c) ws.sum)=(cs.map (bU cs ws)).map λx=>Rat.divInt x ws.sum:=by rw[List.map_map];rfl
  rw[e2,e3,qK T.nd T.ln,uO _ (by left),Rat.divInt_eq_div];have z:((ws.sum:Int):Rat)≠0:=λz=>by rw[Rat.intCast_eq_zero_iff]at z;left
  grind
 ·have e:(o7 cs ws).map (·.2)=bj cs:=by
   unfold o7;rw[List.map_map];exact(aaz λ_ _=>rfl).trans (List.map_id _)
  rw[e];exact lp T.nd
theorem V7(n:Nat)(t:Nat->Bool):sI n (((List.range n).filter t).map λ(k:Nat)=>(k:Int)):=by
 refine⟨?_,λh hh=>?_⟩
 ·rw[List.pairwise_map];refine(List.Pairwise.filter _ List.pairwise_lt_range).imp λz=>?_;left
 ·obtain⟨k,hk,rfl⟩:=List.mem_map.mp hh;have:=List.mem_range.mp (List.mem_filter.mp hk).1;left
noncomputable def zm:CE:=.comp 1 (.nm 0) [7] .k9 [(.v 4)] [(.cmp .eq (.bin .band (.bin .shr (.v 1) (.v 0)) (.int 1)) (.int 1))] (.v 0)
noncomputable def zD:CS:=.mut 1033 5 [(.bin .add (.bin .add (.cw 1031 [(.v 5),(.v 8),(.int 0)]) (.int 1)) (.bin .mod (.bin .fdiv (.v 7) (.int 4096)) (.int 7))),(.v 8)]
def Hd:List CS:=[.asg (.nm 7) (.call 200 [(.v 0),(.bin .add (.bin .add (.v 1) (.int 1)) (.v 6))]),.asg (.nm 8) (.bf .tuple1 [zm]),zD]
noncomputable def NY:CE:=.comp 1 (.nm 0) [5] (.cw 1100) [(.v 5)] [] (.cw 1032 [(.v 1),(.v 0)])
noncomputable def NZ:CE:=.comp 1 (.nm 0) [9,5] .seq [(.cw 1035 [(.v 5)])] [] (.tup [(.call 201 [(.cw 1032 [(.v 2),(.v 0)]),(.v 1)]),(.v 0)])
def kP:List CS:=[.asg (.nm 3) (.call 200 [(.v 0),(.v 1)]),.asg (.nm 4) (.bin .add (.int 1) (.bin .mod (.v 3) (.v 2))),.asg (.nm 3) (.bin .fdiv (.v 3) (.v 2)),.asg (.nm 5) (.cw 1030 []),.fr (.nm 6) (.k9 (.bin .add (.int 1) (.bin .mod (.v 3) (.int 6)))) Hd,.asg (.nm 9) (.bf .fQ [NY]),.ret (.tup [(.v 4),NZ])]
structure Gm(Φ:au):Prop where
 Fq:Φ 1030=A0
 Fp:Φ 1031=uv
 Fn:Φ 1032=Cn
 Fj:Φ 1033=ur
 Fh:Φ 1035=nS
 Ff:Φ 1100=nU
theorem Je(Φ:au){n:Nat}(hn:n<=12)(N:Int)(a b c d e f:Option D)(r:aD):∃ bu,sI n bu/\aK Φ zm (a::b::c::d::some (.int n)::e::f::some (.int N)::r)=ok (.lst .ow (aa bu)):=by
 refine⟨_,V7 n λ(k:Nat)=>decide (N / 2 ^ k % 2=1),?_⟩;unfold zm;rw[bo (xs:=[.int n]) (ds:=((List.range n).filter λ(k:Nat)=>decide (N / 2 ^ k % 2=1)).map λ(k:Nat)=>D.int (k:Int)) (by simp) (mK Φ (by left) (by left)) ?_ ?_]
 ·simp[aB,aa]
 ·rw[Int.toNat_natCast];refine gG λk hk=>⟨[some (.int k),some (.int N)],by simp[aM],?_,λ_=>by simp⟩
  have e1:cq .shr (.int N) (.int k)=ok (.int (N / 2 ^ k)):=by rw[To (by left)];simp
  simp[e1,Oi]
 ·have:=List.length_filter_le (λ(k:Nat)=>decide (N / 2 ^ k % 2=1)) (List.range n);simp at this ⊢;exact aX (by left)
theorem N8(P:Gm Φ)(f:Fl)(cs:List (List Int))(ws:List Int)(c:List Int):Φ 1031 [.bY f cs (aa ws),.tup (aa c),.int 0]=ok (.int (bU cs ws c)):=by
 rw[P.Fp];show(match intsOf (aa c)with | some c=>if av anyF (aa ws)=false/\aI anyF (.int 0)=false then ok ((bO cs (aa ws) c).getD (.int 0))else none | none=>none)=_;unfold aa;rw[aV];show(if av anyF (aa ws)=false/\aI anyF (.int 0)=false then ok ((bO cs (aa ws) c).getD (.int 0))else none)=_;rw[if_pos ⟨xI _ _,rfl⟩,nM];unfold bU;cases bO cs ws c<;>rfl
theorem N5(P:Gm Φ)(hl:cs.length<1000)(ws:List Int)(c:List Int)(v:Int):Φ 1033 [.bY .ow cs (aa ws),.int v,.tup (aa c)]=ok (.bY .ow (cy cs c) (aa (bw cs ws c v))):=by
 rw[P.Fj];show(match intsOf (aa c)with | some c=>if cL .ow=true/\aI anyF (.int v)=false/\cs.length<iL then ok (D.bY .ow (cy cs c) (bw cs (aa ws) c (.int v)))else none | none=>none)=_;unfold aa;rw[aV];show(if cL .ow=true/\aI anyF (.int v)=false/\cs.length<iL then ok (D.bY .ow (cy cs c) (bw cs (aa ws) c (.int v)))else none)=_;rw[if_pos ⟨rfl,rfl,by show _<1000000;left⟩,yt];rfl
theorem Kk(P:Gm Φ)(f:Fl){ws:List Int}(hl:cs.length=ws.length){c:List Int}(h:c∈cs):Φ 1032 [.bY f cs (aa ws),.tup (aa c)]=ok (.int (bU cs ws c)):=by
 obtain⟨w,e,_⟩:=mO hl h;rw[P.Fn];show(match intsOf (aa c)with | some c=>(match bO cs (aa ws) c with | some v=>if aI anyF v=false then ok v else none | none=>none) | none=>none)=_;unfold aa;rw[aV];show(match bO cs (aa ws) c with | some v=>if aI anyF v=false then ok v else none | none=>none)=_;rw[nM,e];unfold bU;rw[e];rfl
theorem AZ(Φ:au)(P:Gm Φ)(vy:si (Φ 200))(ns:List Int){a:Int}(ha:0<=a){n:Nat}(hn:n<=12)(c2 c3:Option D):∀(k j:Nat) (cs:List (List Int)) (ws:List Int) (c6 c7 c8:Option D),Tab (sI n) j cs ws->j+k<=6 ->
  ∃ Kl TF tF tE Ye,dO (λd ρ=>bT (.nm 6) d ρ) (λρ=>aT Φ Hd ρ) ((List.range' j k).map λ(i:Nat)=>D.int (i:Int)) [some (.lst .sc (aa ns)),some (.int a),c2,c3,some (.int n),some (.bY .ow cs (aa ws)),c6,c7,c8,none] =
   ok (.nx,[some (.lst .sc (aa ns)),some (.int a),c2,c3,some (.int n),some (.bY .ow Kl (aa TF)),tF,tE,Ye,none])/\Tab (sI n) (j+k) Kl TF
 | 0,j,cs,ws,c6,c7,c8,T,_=>⟨cs,ws,c6,c7,c8,rfl,T⟩
 | k+1,j,cs,ws,c6,c7,c8,T,hj=>by
  have e1:=vy ns (a+1+j) (by left);obtain⟨bu,hl,e2⟩:=Je Φ hn (bq ns (a+1+j)) (some (.lst .sc (aa ns))) (some (.int a)) c2 c3 (some (.bY .ow cs (aa ws))) (some (.int j)) [c8,none];obtain⟨f1,f2⟩:=iY ((bq ns (a+1+j)).fdiv 4096) (b:=7) (by decide);have hw:bU cs ws bu+1+((bq ns (a+1+j)).fdiv 4096).fmod 7=bU cs ws bu+(1+((bq ns (a+1+j)).fdiv 4096).fmod 7):=by left
  have T':=T.put hl (i:=1+((bq ns (a+1+j)).fdiv 4096).fmod 7) (by left) (by left);obtain⟨Kl,TF,tF,tE,Ye,ih,T''⟩:=AZ Φ P vy ns ha hn c2 c3 k (j+1) _ _ (some (.int j)) (some (.int (bq ns (a+1+j)))) (some (.tup (aa bu))) T' (by left);have g1:=λf=>N8 P f cs ws bu;have hf:=T.ym;have g2:=N5 P (cs:=cs) (by left) ws bu (bU cs ws bu+(1+((bq ns (a+1+j)).fdiv 4096).fmod 7));have x1:rF Φ zD [some (.lst .sc (aa ns)),some (.int a),c2,c3,some (.int n),some (.bY .ow cs (aa ws)),some (.int j),some (.int (bq ns (a+1+j))),some (.tup (aa bu)),none]=ok (.nx,[some (.lst .sc (aa ns)),some (.int a),c2,c3,some (.int n),some (.bY .ow (cy cs bu) (aa (bw cs ws bu (bU cs ws bu+(1+((bq ns (a+1+j)).fdiv 4096).fmod 7))))),some (.int j),some (.int (bq ns (a+1+j))),some (.tup (aa bu)),none]):=by
   unfold zD;refine(yq (xs:=[.int (bU cs ws bu+(1+((bq ns (a+1+j)).fdiv 4096).fmod 7)),.tup (aa bu)]) (d:=.bY .ow cs (aa ws)) ?_ (by simp) rfl g2).trans rfl;simp[g1,hw]
  refine⟨Kl,TF,tF,tE,Ye,?_,by rw[show j+(k+1)=j+1+k by left];exact T''⟩;rw[List.range'_succ,List.map_cons];refine dt (ρ1:=[some (.lst .sc (aa ns)),some (.int a),c2,c3,some (.int n),some (.bY .ow cs (aa ws)),some (.int j),c7,c8,none]) (by simp) (ρ2:=[some (.lst .sc (aa ns)),some (.int a),c2,c3,some (.int n),some (.bY .ow (cy cs bu) (aa (bw cs ws bu (bU cs ws bu+(1+((bq ns (a+1+j)).fdiv 4096).fmod 7))))),some (.int j),some (.int (bq ns (a+1+j))),some (.tup (aa bu)),none]) ?_ ih;simp[Hd,e1,e2,x1]
theorem lJ{t b:Int}(hb:b≠0):(Rat.divInt t b).den∣b.natAbs:=by
 obtain⟨t',b',e1,e2,h1,h2,h3,h4⟩:=qI (t:=t) hb;obtain⟨g1,g2⟩:=vB (t:=t) hb;rw[show b.fdiv (fY t b)=b' from h2]at g2;have hz:(Rat.divInt t b).den=b'.natAbs:=by left
 have:b.natAbs=(fY t b).natAbs*b'.natAbs:=by rw[<- Int.natAbs_mul,<- e2]
 rw[hz,this];exact Nat.dvd_mul_left ..
def oy(m:List D->O D):Prop:=∀(ns:List Int) (a:Int) (p:Nat),0<=a->1<=p->p<=12->∃ n rs,n<=p/\Dr 6 n rs/\tI rs/\m [.lst .sc (aa ns),.int a,.int p]=ok (.tup [.int n,.lst .ow (bJ rs)])
theorem BK(Φ:au)(P:Gm Φ)(vy:si (Φ 200))(xK:gL (Φ 201)):oy (mk Φ 3 10 kP):=by
 intro ns a p ha p1 p2;have e1:=vy ns a ha;obtain⟨f1,f2⟩:=iY (bq ns a) (b:=(p:Int)) (by left);obtain⟨n,hn⟩:∃ n:Nat,1+(bq ns a).fmod p=(n:Int):=⟨(1+(bq ns a).fmod p).toNat,by left⟩
 obtain⟨g1,g2⟩:=iY ((bq ns a).fdiv p) (b:=6) (by decide);obtain⟨k,hk⟩:∃ k:Nat,1+((bq ns a).fdiv p).fmod 6=(k:Int):=⟨(1+((bq ns a).fdiv p).fmod 6).toNat,by left⟩
 have T0:Tab (sI n) 0 [] []:=⟨abx,rfl,aas _,(λ_ h=>nomatch h),(λ_ h=>nomatch h),by simp,λh=>by left⟩
 obtain⟨cs,ws,c6,c7,c8,el,T⟩:=AZ Φ P vy ns ha (n:=n) (by left) (some (.int p)) (some (.int ((bq ns a).fdiv p))) k 0 [] [] none none none T0 (by left);rw[Nat.zero_add]at T;have D6:=T.dr (n:=n) (by left) (by left) (by left) (by left);have hm:cq .mod (.int (bq ns a)) (.int p)=ok (.int ((bq ns a).fmod p)):=Tp (by left);have hd:cq .fdiv (.int (bq ns a)) (.int p)=ok (.int ((bq ns a).fdiv p)):=rZ (j6 (by left) (vf (by left)));have MR:Φ 1030 []=ok (.bY .ow [] []):=by rw[P.Fq];rfl
 have hit:cA Φ (.k9 (.bin .add (.int 1) (.bin .mod (.v 3) (.int 6)))) [some (.lst .sc (aa ns)),some (.int a),some (.int p),some (.int ((bq ns a).fdiv p)),some (.int n),some (.bY .ow [] []),none,none,none,none]=ok ((List.range' 0 k).map λ(i:Nat)=>D.int (i:Int),[some (.lst .sc (aa ns)),some (.int a),some (.int p),some (.int ((bq ns a).fdiv p)),some (.int n),some (.bY .ow [] []),none,none,none,none]):=by
  rw[EF (n:=k) (by simp[hk]) (by left) (by left),Int.toNat_natCast,List.range_eq_range']
 have hf:=fN (Φ:=Φ) (t:=.nm 6) (b:=Hd) hit el;have hp:(bj cs).Perm cs:=aa4 _ _;have oX:∀ f,cS Φ (.cw 1100) [.bY f cs (aa ws)]=ok (cs.map gR):=λf=>by
  show bd (Φ 1100 _) nF=_;rw[P.Ff];show ok (ag aC (cs.map gR))=_;rw[gA]
 have hfew:=T.ym;have RO:∀ c,gR c=.tup (aa c):=λ_=>rfl;have s1:∀ r,aK Φ NY [some (.lst .sc (aa ns)),some (.int a),some (.int p),some (.int ((bq ns a).fdiv p)),some (.int n),some (.bY .ow cs (aa ws)),c6,c7,c8,r]=ok (.lst .ow (aa (cs.map (bU cs ws)))):=λr=>by
  unfold NY;rw[bo (xs:=[.bY .al cs (aa ws)]) (by simp) (oX _) (ds:=cs.map λc=>.int (bU cs ws c)) (aU λc hc=>?_) (by simp;exact aX (by left))]
  ·simp[aa,aB]
  ·have e:=Kk P .fz T.ln hc;exact⟨[some (.tup (aa c)),some (.bY .fz cs (aa ws))],by simp[aM,RO],by simp,by simp[e]⟩
 rw[qK T.nd T.ln]at s1;have s2:oZ .fQ [.lst .ow (aa ws)]=ok (.int ws.sum):=by
  show(match intsOf (aa ws)with | some ns=>ok (D.int ns.sum) | none=>none)=_;unfold aa;rw[aV]
 have hW:1<=ws.sum/\ws.sum<=42:=by
  have hs:=T.sum;refine⟨?_,by left⟩;obtain⟨c,hc⟩:=List.exists_mem_of_ne_nil cs (T.ne (by left));obtain⟨w,e,m⟩:=mO T.ln hc;have:=T.pos w m;have:=T.Ax w m;left
 refine⟨n,o7 cs ws,by left,D6,⟨ws.sum.toNat,by left,by left,λr hr=>?_⟩,?_⟩
 ·unfold o7 at hr;obtain⟨c,_,rfl⟩:=List.mem_map.mp hr;have h:ws.sum=((ws.sum.toNat:Nat):Int):=by left
  show(Rat.divInt (bU cs ws c) ws.sum).den∣_;have d:=lJ (t:=bU cs ws c) (b:=ws.sum) (by left)
  rwa [show ws.sum.natAbs=ws.sum.toNat by left]at d
 have RM:∀ f,Φ 1035 [.bY f cs (aa ws)]=ok (.lst .ow ((bj cs).map gR)):=λf=>by
  rw[P.Fh];show(if cs.length<64 then ok (D.lst .ow ((bj cs).map gR))else none)=_;rw[if_pos (by left)]
 have s3:aK Φ NZ [some (.lst .sc (aa ns)),some (.int a),some (.int p),some (.int ((bq ns a).fdiv p)),some (.int n),some (.bY .ow cs (aa ws)),c6,c7,c8,some (.int ws.sum)]=ok (.lst .ow (bJ (o7 cs ws))):=by
  unfold NZ;rw[bo (xs:=[.lst .ow ((bj cs).map gR)]) (by simp[RM]) (items:=(bj cs).map gR) (by rw[df,gA]) (ds:=(bj cs).map λc=>rD (Rat.divInt (bU cs ws c) ws.sum,c)) (aU λc hc=>?_) (by rw[List.length_map];exact aX (by rw[hp.length_eq];left))]
  ·have:((bj cs).map λc=>rD (Rat.divInt (bU cs ws c) ws.sum,c))=bJ (o7 cs ws):=by unfold bJ o7;rw[List.map_map];rfl
   rw[this,qM]
  ·have e:=Kk P .fz T.ln (hp.mem_iff.mp hc);have e':=xK (bU cs ws c) ws.sum (by left) (vf (by left));exact⟨[some (.tup (aa c)),some (.int ws.sum),some (.bY .fz cs (aa ws))],by simp[aM,RO],by simp,by simp[e,e',rD]⟩
 simp[mk_eq,kP,e1,hm,hd,hn,MR];rw[hf];simp[s1,s2,s3]
def wg(m:List D->O D):Prop:=∀(N:Int) (n:Nat),n<=12->∃ qs:List Rat,m [.int N,.int n]=ok (.lst .ow (ai qs))/\qs.length=n/\∀ q∈qs,Sm 3 q
noncomputable def pL:List CS:=[.app 2 (.call 201 [(.bin .sub (.bin .mod (.v 0) (.int 13)) (.int 6)),(.bin .add (.int 1) (.bin .mod (.bin .fdiv (.v 0) (.int 13)) (.int 4)))]),.asg (.nm 0) (.bin .fdiv (.v 0) (.int 52))]
def qc:List CS:=[.asg (.nm 2) (.lst []),.fr (.nm 3) (.k9 (.v 1)) pL,.ret (.v 2)]
theorem qR(Φ:au)(xK:gL (Φ 201))(y:Option D):∀(ks:List D) (acc:List Rat) (n:Int) (w:Option D),acc.length+ks.length<=1000->(∀ q∈acc,Sm 3 q) ->
  ∃(qs:List Rat) (n' w':Option D),dO (λd ρ=>bT (.nm 3) d ρ) (λρ=>aT Φ pL ρ) ks [some (.int n),y,some (.lst .ow (ai acc)),w]=ok (.nx,[n',y,some (.lst .ow (ai qs)),w'])/\qs.length=acc.length+ks.length/\∀ q∈qs,Sm 3 q
 | [],acc,n,w,_,hs=>⟨acc,some (.int n),w,rfl,rfl,hs⟩
 | k::ks,acc,n,w,h,hs=>by
  simp only[List.length_cons]at h;obtain⟨a1,a2⟩:=iY n (b:=13) (by decide);obtain⟨a3,a4⟩:=iY (n.fdiv 13) (b:=4) (by decide);have e:=xK (n.fmod 13 - 6) (1+(n.fdiv 13).fmod 4) (by left) (vf (by left));have sq:Sm 3 (Rat.divInt (n.fmod 13 - 6) (1+(n.fdiv 13).fmod 4)):=Dw (by left) (by left) (by left);generalize Rat.divInt (n.fmod 13 - 6) (1+(n.fdiv 13).fmod 4)=q at *;obtain⟨qs,n',w',e',l,s⟩:=qR Φ xK y ks (acc++[q]) (n.fdiv 52) (some k) (by simp;left) (λp hp=>by
   rcases List.mem_append.mp hp with hp | hp
   ·exact hs p hp
   ·have:p=q:=by simpa using hp
    subst this;exact sq)
  have hc:acc.length<iL:=by show _<1000000;left
  refine⟨qs,n',w',dt (ρ1:=[some (.int n),y,some (.lst .ow (ai acc)),some k]) (by simp) (ρ2:=[some (.int (n.fdiv 52)),y,some (.lst .ow (ai (acc++[q]))),some k]) ?_ e',by rw[l];simp;left,s⟩;simp[pL,e,hc]
theorem Hu(Φ:au)(xK:gL (Φ 201)):wg (mk Φ 2 4 qc):=by
 intro N n hn;have hit:=EF (Φ:=Φ) (a:=.v 1) (ρ:=[some (.int N),some (.int n),some (.lst .ow []),none]) (n:=n) (by simp) (by left) (by left);obtain⟨qs,n',w',el,l,s⟩:=qR Φ xK (some (.int n)) ((List.range (n:Int).toNat).map λ(k:Nat)=>D.int (k:Int)) [] N none (by simp;left) (by simp);have hf:=fN (t:=.nm 3) (b:=pL) hit el;refine⟨qs,?_,by simpa using l,s⟩;simp[mk_eq,qc,hf]
structure GF(i j n:Nat)(ws xs:List Rat):Prop where
 l1:ws.length=n
 l2:xs.length=n
 s1:∀ q∈ws,Sm i q
 s2:∀ q∈xs,Sm j q
 jj:i+j<=20
theorem Gs.two{j n:Nat}(G:Gs j n ws xs)(hj:j<=10):GF j j n ws xs:=⟨G.l1,G.l2,G.s1,G.s2,by left⟩
def iI(m:List D->O D):Prop:=∀ f g n bu ws xs i j,sI n bu->n<=12->GF i j n ws xs->m [.lst f (ai ws),.tup (aa bu),.lst g (ai xs)]=ok (qD (dN bu λh=>b6 ws h*b6 xs h))
noncomputable def mi:List CS:=[.asg (.nm 3) (.call 202 [(.v 3),(.call 203 [(.ix (.v 0) (.v 4)),(.ix (.v 2) (.v 4))])])]
def mX:List CS:=[.asg (.nm 3) (.tup [(.int 0),(.int 1)]),.fr (.nm 4) (.seq (.v 1)) mi,.ret (.v 3)]
theorem oU(Φ:au)(cM:dQ (Φ 202))(kU:dH (Φ 203))(f g:Fl)(ws xs:List Rat)(n a1 j:Nat)(G:GF a1 j n ws xs)(y:Option D):∀(bu:List Int) (acc:Rat) (i:Nat) (w:Option D),(∀ h∈bu,0<=h/\h<(n:Int))->Sm (1+21*i) acc->i+bu.length<=12 ->
  ∃ w',dO (λd ρ=>bT (.nm 4) d ρ) (λρ=>aT Φ mi ρ) (aa bu) [some (.lst f (ai ws)),y,some (.lst g (ai xs)),some (qD acc),w]=ok (.nx,[some (.lst f (ai ws)),y,some (.lst g (ai xs)),some (qD (acc+dN bu λh=>b6 ws h*b6 xs h)),w'])
 | [],acc,i,w,_,_,_=>⟨w,by simp[dN,fC,Rat.add_zero]⟩
 | h::bu,acc,i,w,hm,hs,hi=>by
  rw[List.length_cons]at hi;obtain⟨a,b⟩:=hm h aao;obtain⟨_,m1⟩:=bB (qs:=ws) a (by rw[G.l1];exact b);obtain⟨_,m2⟩:=bB (qs:=xs) a (by rw[G.l2];exact b);have s1:=G.s1 _ m1;have s2:=G.s2 _ m2;have hj:=G.jj;have s3:Sm 20 (b6 ws h*b6 xs h):=(s1.mul s2).mono (by left);have e1:=kU _ _ (s1.mono (by left)) (s2.mono (by left));have e2:=cM acc _ (hs.mono (by left)) (s3.mono (by decide));have a1':=yc (qs:=ws) a (by rw[G.l1];exact b);have a2:=yc (qs:=xs) a (by rw[G.l2];exact b);obtain⟨w',ih⟩:=oU Φ cM kU f g ws xs n a1 j G y bu (acc+b6 ws h*b6 xs h) (i+1) (some (.int h)) (λx hx=>hm x (aam _ hx)) ((hs.add s3).mono (by left)) (by left);refine⟨w',dt (ρ1:=[some (.lst f (ai ws)),y,some (.lst g (ai xs)),some (qD acc),some (.int h)]) (by simp) (ρ2:=[some (.lst f (ai ws)),y,some (.lst g (ai xs)),some (qD (acc+b6 ws h*b6 xs h)),some (.int h)]) ?_ ?_⟩
  ·simp[mi,a1',a2,e1,e2]
  ·exact ih.trans (by rw[nA,Rat.add_assoc])
theorem DH(Φ:au)(cM:dQ (Φ 202))(kU:dH (Φ 203)):iI (mk Φ 3 5 mX):=by
 intro f g n bu ws xs i j hl hn G;have z0:D.tup [.int 0,.int 1]=qD 0:=rfl;obtain⟨w',e⟩:=oU Φ cM kU f g ws xs n i j G (some (.tup (aa bu))) bu 0 0 none hl.2 (by constructor<;>decide) (by have:=hl.len;left);rw[Rat.zero_add]at e;have hit:cA Φ (.seq (.v 1)) [some (.lst f (ai ws)),some (.tup (aa bu)),some (.lst g (ai xs)),some (qD 0),none]=ok (aa bu,[some (.lst f (ai ws)),some (.tup (aa bu)),some (.lst g (ai xs)),some (qD 0),none]):=by
  rw[Wn (ds:=aa bu) (by simp)];simp
 have hf:=fN (Φ:=Φ) (t:=.nm 4) (b:=mi) hit e;simp[mk_eq,mX,z0,hf]
theorem GF.lg{n i j:Nat}(hl:sI n bu)(hn:n<=12)(G:GF i j n ws xs):Sm 253 (dN bu λh=>b6 ws h*b6 xs h):=by
 have:=Sm.sum (k:=20) (qs:=bu.map λh=>b6 ws h*b6 xs h) λq hq=>by
  obtain⟨h,hh,rfl⟩:=List.mem_map.mp hq;obtain⟨a,b⟩:=hl.2 h hh;exact((G.s1 _ (bB (qs:=ws) a (by rw[G.l1];exact b)).2).mul (G.s2 _ (bB (qs:=xs) a (by rw[G.l2];exact b)).2)).mono (by have:=G.jj;left)
 rw[List.length_map]at this;exact this.mono (by have:=hl.len;left)
def qf(m:List D->O D):Prop:=∀ n rs f g ws xs i j,Dr 6 n rs->GF i j n ws xs->m [aw n rs,.lst f (ai ws),.lst g (ai xs)]=ok (qD (a_ rs ws xs))
noncomputable def pK:List CS:=[.asg (.nm 3) (.call 202 [(.v 3),(.call 203 [(.v 4),(.call 231 [(.v 1),(.v 5),(.v 2)])])])]
def qb:List CS:=[.asg (.nm 3) (.tup [(.int 0),(.int 1)]),.fr (.tp [4,5]) (.seq (.ix (.v 0) (.int 1))) pK,.ret (.v 3)]
theorem qQ(Φ:au)(cM:dQ (Φ 202))(kU:dH (Φ 203))(vw:iI (Φ 231))(f g:Fl)(ws xs:List Rat)(n a1 j:Nat)(hn:n<=12)(G:GF a1 j n ws xs)(c0:Option D):∀(rs:List Row) (acc:Rat) (i:Nat) (c4 c5:Option D),(∀ r∈rs,sI n r.2/\Sm 6 r.1)->Sm (1+260*i) acc->i+rs.length<=12 ->
  ∃ zF zE,dO (λd ρ=>bT (.tp [4,5]) d ρ) (λρ=>aT Φ pK ρ) (bJ rs) [c0,some (.lst f (ai ws)),some (.lst g (ai xs)),some (qD acc),c4,c5]=ok (.nx,[c0,some (.lst f (ai ws)),some (.lst g (ai xs)),some (qD (acc+a_ rs ws xs)),zF,zE])
 | [],acc,i,c4,c5,_,_,_=>⟨c4,c5,by simp[a_,bJ,fC,Rat.add_zero]⟩
 | r::rs,acc,i,c4,c5,hm,hs,hi=>by
  rw[List.length_cons]at hi;obtain⟨hl,s1⟩:=hm r aao;have s2:=G.lg hl hn;have e0:=λf g=>vw f g n r.2 ws xs a1 j hl hn G;generalize hS:(dN r.2 λh=>b6 ws h*b6 xs h)=S at *;have s3:Sm 259 (r.1*S):=(s1.mul s2).mono (by decide);have e1:=kU r.1 S (s1.mono (by decide)) (s2.mono (by decide));have e2:=cM acc (r.1*S) (hs.mono (by left)) (s3.mono (by decide));obtain⟨zF,zE,ih⟩:=qQ Φ cM kU vw f g ws xs n a1 j hn G c0 rs (acc+r.1*S) (i+1) (some (qD r.1)) (some (.tup (aa r.2))) (λx hx=>hm x (aam _ hx)) ((hs.add s3).mono (by left)) (by left);refine⟨zF,zE,dt (ρ1:=[c0,some (.lst f (ai ws)),some (.lst g (ai xs)),some (qD acc),some (qD r.1),some (.tup (aa r.2))]) (by simp[rD]) (ρ2:=[c0,some (.lst f (ai ws)),some (.lst g (ai xs)),some (qD (acc+r.1*S)),some (qD r.1),some (.tup (aa r.2))]) ?_ ?_⟩
  ·simp[pK,e0,e1,e2]
  ·refine ih.trans ?_;have:a_ (r::rs) ws xs=r.1*S+a_ rs ws xs:=by unfold a_;rw[List.map_cons,List.sum_cons,hS]
   rw[this,Rat.add_assoc]
theorem Ht(Φ:au)(cM:dQ (Φ 202))(kU:dH (Φ 203))(vw:iI (Φ 231)):qf (mk Φ 3 6 qb):=by
 intro n rs f g ws xs i j I G;have z0:D.tup [.int 0,.int 1]=qD 0:=rfl;have hf:=I.ym;obtain⟨c4,c5,e⟩:=qQ Φ cM kU vw f g ws xs n i j I.n2 G (some (aw n rs)) rs 0 0 none none (λr hr=>⟨I.bu r hr,I.sm r hr⟩) (by constructor<;>decide) (by left);rw[Rat.zero_add]at e;have x1:aK Φ (.ix (.v 0) (.int 1)) [some (aw n rs),some (.lst f (ai ws)),some (.lst g (ai xs)),some (qD 0),none,none]=ok (.lst .fz (bJ rs)):=by simp[aw]
 have hit:cA Φ (.seq (.ix (.v 0) (.int 1))) [some (aw n rs),some (.lst f (ai ws)),some (.lst g (ai xs)),some (qD 0),none,none]=ok (bJ rs,[some (aw n rs),some (.lst f (ai ws)),some (.lst g (ai xs)),some (qD 0),none,none]):=by
  rw[yY x1];simp
 have hx:=fN (Φ:=Φ) (t:=.tp [4,5]) (b:=pK) hit e;simp[mk_eq,qb,z0,hx]
def ou(m:List D->O D):Prop:=∀ n rs,m [aw n rs]=ok (.tup [.int n,.lst .ow (bJ rs)])
noncomputable def kN:List CS:=[.ret (.tup [(.ix (.v 0) (.int 0)),(.bf .list1 [(.ix (.v 0) (.int 1))])])]
theorem BI(Φ:au):ou (mk Φ 1 1 kN):=by
 intro n rs;simp[mk_eq,kN,aw]
theorem As(q:Rat):dG .ne (qD q) (qD q)=ok (.bl false):=by
 rw[Jo (Ar 39 _) (Ar 39 _),FO];simp
def rJ(f:Fl)(n:Nat)(rs:List Row):D:=.tup [.int n,.lst f (bJ rs)]
@[simp] theorem Ul(g:Fl->Fl)(f:Fl)(n:Nat)(rs:List Row):aq g (rJ f n rs)=rJ (g f) n rs:=by simp[rJ]
theorem uq(n:Nat)(rs:List Row):rJ .fz n rs=aw n rs:=rfl
@[simp] theorem Uy(p:Fl->Bool)(f:Fl)(n:Nat)(rs:List Row):aI p (rJ f n rs)=p f:=by simp[rJ]
@[simp] theorem Wg(f:Fl)(n:Nat)(rs:List Row):vm (rJ f n rs) (.int 0)=ok (.int n):=by simp[rJ]
noncomputable def bZ(g h:Int)(r:Row):Bool:=decide (g∈r.2)&&decide (h∈r.2)
def aS(rs:List Row)(g h:Int):Rat:=(bC (rs.filter (bZ g h))).sum
theorem xt(h:Int):∀ ns:List Int,inD (.int h) (aa ns)=decide (h∈ns)
 | []=>rfl
 | x::xs=>by
  show(jH (.int x) (.int h)||inD (.int h) (aa xs))=_;rw[mR,xt h xs];by_cases e:h=x<;>simp[e,eq_comm]
theorem um:∀ ns:List Int,(aa ns).all jF=true
 | []=>rfl
 | x::xs=>by show(jF (.int x)&&(aa xs).all jF)=true;rw[um xs];rfl
theorem Kn(h:Int)(ns:List Int):dG .CM (.int h) (.tup (aa ns))=ok (.bl (decide (h∈ns))):=by
 show(if jF (.int h)&&(aa ns).all jF then ok (D.bl (inD (.int h) (aa ns)))else none)=_;rw[um,xt];rfl
noncomputable def I0:CE:=.comp 2 (.tp [0,1]) [1,2] .seq [(.ix (.v 0) (.int 1))] [(.and [(.cmp .CM (.v 2) (.v 1)),(.cmp .CM (.v 3) (.v 1))])] (.v 0)
def qd:List CS:=[.asg (.nm 3) I0,.ret (.call 2 [(.bf .fQ [(.v 3)]),(.ix (.v 0) (.int 0))])]
def wj(m:List D->O D):Prop:=∀ k n rs (g h:Int),Dr k n rs->m [.tup [.int (aO (bC rs)),.lst .fz (nj (aO (bC rs)) rs)],.int g,.int h]=ok (qD (aS rs g h))
theorem Hw(Φ:au)(h2:bP (Φ 2)):wj (mk Φ 3 4 qd):=by
 intro k n rs g h I;obtain⟨b0,b1,b2⟩:=I.bot;have key:=uJ (b:=aO (bC rs)) (qs:=bC (rs.filter (bZ g h))) b0 λq hq=>by
  obtain⟨r,hr,rfl⟩:=List.mem_map.mp hq;exact b2 _ (aaL ((List.mem_filter.mp hr).1))
 generalize aO (bC rs)=b at *;have k1:∀ a,aK Φ I0 [some (.tup [.int b,.lst .fz (nj b rs)]),some (.int g),some (.int h),a]=ok (.lst .ow (aa ((bC (rs.filter (bZ g h))).map (aF b)))):=λa=>by
  unfold I0;rw[bo (xs:=[.lst .fz (nj b rs)]) (items:=rs.map λr=>.tup [.int (aF b r.1),.tup (aa r.2)]) (ds:=(rs.filter (bZ g h)).map λr=>.int (aF b r.1)) (by simp) (by rw[df,qL];rfl) (gG λr hr=>⟨[some (.int (aF b r.1)),some (.tup (aa r.2)),some (.int g),some (.int h)],by simp[aM],by
   by_cases hg:g∈r.2<;>by_cases hh:h∈r.2<;>simp[Kn,bZ,hg,hh],λ_=>by simp⟩) ?_]
  ·simp[aa,aB,bC]
  ·have:=List.length_filter_le (bZ g h) rs;have:=I.len;rw[List.length_map];exact aX (by left)
 have k2:oZ .fQ [.lst .ow (aa ((bC (rs.filter (bZ g h))).map (aF b)))]=ok (.int ((bC (rs.filter (bZ g h))).map (aF b)).sum):=by
  show(match intsOf (aa ((bC (rs.filter (bZ g h))).map (aF b)))with | some ns=>ok (D.int ns.sum) | none=>none)=_;unfold aa;rw[aV]
 have k3:=h2.1 ((bC (rs.filter (bZ g h))).map (aF b)).sum b (by left) (by
  rw[Int.natAbs_natCast];exact aan b1 (aau (by decide) (by decide)))
 rw[key]at k3;have k4:∀ f,oZ .fQ [.lst f (aa ((bC (rs.filter (bZ g h))).map (aF b)))]=ok (.int ((bC (rs.filter (bZ g h))).map (aF b)).sum):=λf=>k2;simp[mk_eq,qd,Gr Φ I0 _ rfl,k1,k4,k3];rfl
def dE(n:Nat)(rs:List Row):List Rat:=(List.range n).map λ(k:Nat)=>aS rs k k
noncomputable def IY:CE:=.comp 1 (.nm 0) [1] .k9 [(.ix (.v 0) (.int 0))] [] (.call 19 [(.v 1),(.v 0),(.v 0)])
def mV:List CS:=[.ex (.call 17 [(.v 0)]),.asg (.nm 1) (.call 14 [(.ix (.v 0) (.int 1))]),.ret IY]
def r9(m:List D->O D):Prop:=∀ k n rs,Dr k n rs->m [aw n rs]=ok (.lst .ow (ai (dE n rs)))
theorem DE(Φ:au)(Nf:fM (Φ 14))(Nc:dY (Φ 17))(h19:wj (Φ 19)):r9 (mk Φ 1 2 mV):=by
 intro k n rs I;have e1:=Nc k n rs I;have e2:=Nf rs k I.CJ;have hn:=I.n2;have m2:aq aR (aw n rs)=aw n rs:=by simp[aw]
 have m1:aq aC (aw n rs)=aw n rs:=by simp[aw]
 have hd:aw n rs=.tup [.int n,.lst .fz (bJ rs)]:=rfl;have x0:vm (aw n rs) (.int 0)=ok (.int n):=by rw[hd];simp
 have x1:vm (aw n rs) (.int 1)=ok (.lst .fz (bJ rs)):=by rw[hd];simp
 have k1:aK Φ IY [some (aw n rs),some (.tup [.int (aO (bC rs)),.lst .ow (nj (aO (bC rs)) rs)])]=ok (.lst .ow (ai (dE n rs))):=by
  unfold IY;rw[bo (xs:=[.int n]) (ds:=(List.range n).map λ(k:Nat)=>qD (aS rs k k)) (by simp[m2,x0]) (mK Φ (by left) (by left)) (aU λk' hk=>?_) (by simp;exact aX (by left))]
  ·simp[ai,dE,aB]
  ·have e:=h19 k n rs k' k' I;exact⟨[some (.int k'),some (.tup [.int (aO (bC rs)),.lst .fz (nj (aO (bC rs)) rs)])],by simp[aM],by simp,by simp[e]⟩
 simp[mk_eq,mV,Gr Φ IY _ rfl,m1,m2,x1,e1,e2,k1]
theorem ub{rs:List Row}(hd:∀ r∈rs,r.1.den∣W)(h0:0<W)(g h:Int):(aS rs g h).den∣W:=by
 have key:=uJ (b:=W) (qs:=bC (rs.filter (bZ g h))) h0 λq hq=>by
  obtain⟨r,hr,rfl⟩:=List.mem_map.mp hq;exact hd _ ((List.mem_filter.mp hr).1)
 unfold aS;rw[<- key];have:=lJ (t:=((bC (rs.filter (bZ g h))).map (aF W)).sum) (b:=(W:Int)) (by left);simpa using this
theorem cW(p:Row->Bool):∀(rs:List Row),(∀ r∈rs,0<r.1)->0<=(bC (rs.filter p)).sum/\(bC (rs.filter p)).sum<=(bC rs).sum
 | [],_=>by simp[bC,Rat.le_refl]
 | r::rs,h=>by
  obtain⟨a,b⟩:=cW p rs λx hx=>h x (aam _ hx);have hr:=h r aao;have e:(bC (r::rs)).sum=r.1+(bC rs).sum:=rfl;rw[e];cases hp:p r with
  | true =>
   rw[List.filter_cons_of_pos hp];have e':(bC (r::rs.filter p)).sum=r.1+(bC (rs.filter p)).sum:=rfl;rw[e'];constructor<;>grind
  | false =>
   rw[List.filter_cons_of_neg (by simp[hp])];constructor<;>grind
theorem qG{k n:Nat}{rs:List Row}(I:Dr k n rs)(g h:Int):0<=aS rs g h/\aS rs g h<=1:=by
 have:=cW (bZ g h) rs I.pos;have e:(bC rs).sum=1:=I.one;rw[e]at this;exact this
theorem zT{q:Rat}{k:Nat}(h0:0<=q)(h1:q<=1)(hd:q.den<2 ^ k):Sm k q:=by
 refine⟨?_,hd⟩;have e:=eL q;have hp:=q.den_pos;have n0:0<=q.num:=Rat.num_nonneg.mpr h0;have:q.num<=q.den:=by
  have:=h1;rw[Rat.le_iff]at this;simpa using this
 left
theorem Dz{k n:Nat}{rs:List Row}(I:Dr k n rs)(g h:Int):Sm 61 (aS rs g h):=by
 obtain⟨b0,b1,b2⟩:=I.bot;obtain⟨p0,p1⟩:=qG I g h;have:=ub (rs:=rs) (W:=aO (bC rs)) (λr hr=>b2 _ (aaL hr)) b0 g h;exact zT p0 p1 (aax (abo b0 this) b1)
theorem qv{k n:Nat}{rs:List Row}(I:Dr k n rs)(F:tI rs)(g h:Int):Sm 6 (aS rs g h):=by
 obtain⟨W,w0,w1,w2⟩:=F;obtain⟨p0,p1⟩:=qG I g h;have:=ub w2 w0 g h;exact zT p0 p1 (aax (abo w0 this) w1)
theorem pW{n:Nat}{rs:List Row}{q:Rat}(h:q∈dE n rs):∃ k:Nat,k<n/\q=aS rs k k:=by
 unfold dE at h;obtain⟨k,hk,rfl⟩:=List.mem_map.mp h;exact⟨k,List.mem_range.mp hk,rfl⟩
@[simp] theorem zX(n:Nat)(rs:List Row):(dE n rs).length=n:=by simp[dE]
theorem zY{n k:Nat}(rs:List Row)(h:k<n):(dE n rs)[k]?=some (aS rs k k):=by simp[dE,h]
noncomputable def pP(q:Rat):D:=if 0<q then qD (1 / q)else .bh
noncomputable def IV:CE:=.comp 1 (.nm 0) [] .seq [(.call 20 [(.v 0)])] [] (.ite (.cmp .gt (.ix (.v 0) (.int 0)) (.int 0)) (.call 7 [(.glt "ONE" [1,1]),(.v 0)]) .bh)
def p_:List CS:=[.ret IV]
def qe(m:List D->O D):Prop:=∀ k n rs,Dr k n rs->m [aw n rs]=ok (.lst .ow ((dE n rs).map pP))
theorem xj(q:Rat):0<q.num ↔ 0<q:=by rw[Rat.lt_iff];simp
@[simp] theorem Ia(g:Fl->Fl)(q:Rat):aq g (pP q)=pP q:=by
 unfold pP;split
 ·simp
 ·rfl
@[simp] theorem IB(g:Fl->Bool)(q:Rat):aI g (pP q)=false:=by
 unfold pP;split
 ·simp
 ·rfl
@[simp] theorem BV(g:Fl->Fl)(qs:List Rat):ag g (qs.map pP)=qs.map pP:=cK g (λq=>Ia g q) qs
@[simp] theorem O6(g:Fl->Bool)(qs:List Rat):av g (qs.map pP)=false:=bG g (λq=>IB g q) qs
theorem Qr:Sm 1 (1:Rat):=by constructor<;>decide
theorem Qs:Sm 1 (0:Rat):=by constructor<;>decide
theorem Hr(Φ:au)(h7:Ow (Φ 7))(h20:r9 (Φ 20)):qe (mk Φ 1 1 p_):=by
 intro k n rs I;have hn:=I.n2;have e1:=h20 k n rs I;have m1:aq aC (aw n rs)=aw n rs:=by simp[aw]
 have m2:aq aR (aw n rs)=aw n rs:=by simp[aw]
 have o1:D.tup ([1,1].map D.int)=qD 1:=rfl;have o2:D.tup [.int 1,.int 1]=qD 1:=rfl;have k1:aK Φ IV [some (aw n rs)]=ok (.lst .ow ((dE n rs).map pP)):=by
  unfold IV;rw[bo (xs:=[.lst .ow (ai (dE n rs))]) (items:=(dE n rs).map qD) (ds:=(dE n rs).map pP) (by simp[m1,m2,e1]) (by rw[df];simp;rfl) (aU λq hq=>⟨[some (qD q)],by simp[aM],by simp,?_⟩) (by simp;exact aX (by left))]
  ·rw[BV]
  ·obtain⟨j,_,rfl⟩:=pW hq;have s:=Dz I j j;generalize aS rs j j=q at *;have c:dG .gt (.int q.num) (.int 0)=ok (.bl (decide (0<q))):=by
    show ok (D.bl (decide ((0:Int)<q.num)))=_;rw[decide_eq_decide.mpr (xj q)]
   unfold pP;by_cases h0:0<q
   ·have e:=h7.1 1 q (Qr.mono (by decide)) (s.mono (by decide)) (by grind);simp[c,h0,o2,e]
   ·simp[c,h0]
 simp[mk_eq,p_,Gr Φ IV _ rfl,k1]
noncomputable def fc(n:Nat)(h:Nat):List Rat:=(List.range n).map λ(k:Nat)=>if k=h then 1 else 0
noncomputable def De:List CS:=[.ifs (.and [(.cmp .CM (.v 2) (.v 7)),(.cmp .CM (.v 4) (.v 7))]) [.asg (.nm 5) (.call 202 [(.v 5),(.v 6)])] []]
def Hb:List CS:=[.asg (.nm 5) (.tup [(.int 0),(.int 1)]),.fr (.tp [6,7]) (.seq (.ix (.v 0) (.int 1))) De,.app 3 (.v 5)]
def Hc:List CS:=[.asg (.nm 3) (.lst []),.fr (.nm 4) (.k9 (.ix (.v 0) (.int 0))) Hb,.app 1 (.v 3)]
def mW:List CS:=[.asg (.nm 1) (.lst []),.fr (.nm 2) (.k9 (.ix (.v 0) (.int 0))) Hc,.ret (.v 1)]
theorem lz(r:Row)(rs:List Row)(g h:Int):aS (r::rs) g h=if bZ g h r then r.1+aS rs g h else aS rs g h:=by
 unfold aS;cases e:bZ g h r with
 | true=>rw[List.filter_cons_of_pos e];rfl
 | false=>rw[List.filter_cons_of_neg (by simp[e])];rfl
theorem uX(Φ:au)(cM:dQ (Φ 202))(g h:Int)(c0 c1 c3:Option D):∀(rs:List Row) (acc:Rat) (i:Nat) (c6 c7:Option D),(∀ r∈rs,Sm 6 r.1)->Sm (1+7*i) acc->i+rs.length<=12 ->
  ∃ tF tE,dO (λd ρ=>bT (.tp [6,7]) d ρ) (λρ=>aT Φ De ρ) (bJ rs) [c0,c1,some (.int g),c3,some (.int h),some (qD acc),c6,c7]=ok (.nx,[c0,c1,some (.int g),c3,some (.int h),some (qD (acc+aS rs g h)),tF,tE])
 | [],acc,i,c6,c7,_,_,_=>⟨c6,c7,by simp[aS,bC,bJ,fC,Rat.add_zero]⟩
 | r::rs,acc,i,c6,c7,hm,hs,hi=>by
  rw[List.length_cons]at hi;have s1:=hm r aao;have e1:=cM acc r.1 (hs.mono (by left)) (s1.mono (by decide));have s3:=(hs.add s1).mono (l:=1+7*(i+1)) (by left);have s4:=hs.mono (l:=1+7*(i+1)) (by left);have hr:=λx hx=>hm x (aam r hx);have hc:∀(a:Option D),aK Φ (.and [(.cmp .CM (.v 2) (.v 7)),(.cmp .CM (.v 4) (.v 7))]) [c0,c1,some (.int g),c3,some (.int h),a,some (qD r.1),some (.tup (aa r.2))]=ok (.bl (bZ g h r)):=λa=>by
   by_cases hg:g∈r.2<;>by_cases hh:h∈r.2<;>simp[Kn,bZ,hg,hh]
  rw[lz];cases hb:bZ g h r with
  | true =>
   obtain⟨tF,tE,ih⟩:=uX Φ cM g h c0 c1 c3 rs (acc+r.1) (i+1) (some (qD r.1)) (some (.tup (aa r.2))) hr s3 (by left);refine⟨tF,tE,dt (ρ1:=[c0,c1,some (.int g),c3,some (.int h),some (qD acc),some (qD r.1),some (.tup (aa r.2))]) (by simp[rD]) (ρ2:=[c0,c1,some (.int g),c3,some (.int h),some (qD (acc+r.1)),some (qD r.1),some (.tup (aa r.2))]) ?_ ?_⟩
   ·rw[De,dB,CZ,hc,hb];simp[e1]
   ·exact ih.trans (by simp[Rat.add_assoc])
  | false =>
   obtain⟨tF,tE,ih⟩:=uX Φ cM g h c0 c1 c3 rs acc (i+1) (some (qD r.1)) (some (.tup (aa r.2))) hr s4 (by left);refine⟨tF,tE,dt (ρ1:=[c0,c1,some (.int g),c3,some (.int h),some (qD acc),some (qD r.1),some (.tup (aa r.2))]) (by simp[rD]) (ρ2:=[c0,c1,some (.int g),c3,some (.int h),some (qD acc),some (qD r.1),some (.tup (aa r.2))]) ?_ ?_⟩
   ·rw[De,dB,CZ,hc,hb];simp
   ·exact ih.trans (by simp)
theorem Ao(Φ:au)(cM:dQ (Φ 202)){n:Nat}{rs:List Row}(I:Dr 6 n rs)(g:Int)(c1:Option D):∀(k j:Nat) (qs:List Rat) (c4 c5 c6 c7:Option D),j+k<=12->qs.length=j ->
  ∃ zF zE tF tE,dO (λd ρ=>bT (.nm 4) d ρ) (λρ=>aT Φ Hb ρ) ((List.range' j k).map λ(i:Nat)=>D.int (i:Int)) [some (aw n rs),c1,some (.int g),some (.lst .ow (ai qs)),c4,c5,c6,c7] =
   ok (.nx,[some (aw n rs),c1,some (.int g),some (.lst .ow (ai (qs++(List.range' j k).map λ(i:Nat)=>aS rs g i))),zF,zE,tF,tE])
 | 0,j,qs,c4,c5,c6,c7,_,_=>⟨c4,c5,c6,c7,by simp[fC]⟩
 | k+1,j,qs,c4,c5,c6,c7,hj,hq=>by
  have z0:D.tup [.int 0,.int 1]=qD 0:=rfl;have hfew:=I.ym;obtain⟨a6,a7,el⟩:=uX Φ cM g j (some (aw n rs)) c1 (some (.lst .ow (ai qs))) rs 0 0 c6 c7 I.sm (by constructor<;>decide) (by left);rw[Rat.zero_add]at el;have x1:aK Φ (.ix (.v 0) (.int 1)) [some (aw n rs),c1,some (.int g),some (.lst .ow (ai qs)),some (.int j),some (qD 0),c6,c7]=ok (.lst .fz (bJ rs)):=by simp[aw]
  have hit:cA Φ (.seq (.ix (.v 0) (.int 1))) [some (aw n rs),c1,some (.int g),some (.lst .ow (ai qs)),some (.int j),some (qD 0),c6,c7]=ok (bJ rs,[some (aw n rs),c1,some (.int g),some (.lst .ow (ai qs)),some (.int j),some (qD 0),c6,c7]):=by
   rw[yY x1];simp
  have hf:=fN (Φ:=Φ) (t:=.tp [6,7]) (b:=De) hit el;obtain⟨zF,zE,tF,tE,ih⟩:=Ao Φ cM I g c1 k (j+1) (qs++[aS rs g j]) (some (.int j)) (some (qD (aS rs g j))) a6 a7 (by left) (by simp[hq]);rw[List.range'_succ,List.map_cons,List.map_cons];refine⟨zF,zE,tF,tE,dt (ρ1:=[some (aw n rs),c1,some (.int g),some (.lst .ow (ai qs)),some (.int j),c5,c6,c7]) (by simp) (ρ2:=[some (aw n rs),c1,some (.int g),some (.lst .ow (ai (qs++[aS rs g j]))),some (.int j),some (qD (aS rs g j)),a6,a7]) ?_ ?_⟩
  ·have hc:qs.length<iL:=by show _<1000000;left
   simp[Hb,z0,hf,hc]
  ·exact ih.trans (by simp)
def lr(n:Nat)(rs:List Row)(f:Fl)(j k:Nat):List D:=(List.range' j k).map λ(g:Nat)=>.lst f (ai ((List.range' 0 n).map λ(h:Nat)=>aS rs g h))
theorem Ap(Φ:au)(cM:dQ (Φ 202)){n:Nat}{rs:List Row}(I:Dr 6 n rs):∀(k j:Nat) (ds:List D) (c2 c3 c4 c5 c6 c7:Option D),j+k<=12->ds.length=j ->
  ∃ Og Of zF zE tF tE,dO (λd ρ=>bT (.nm 2) d ρ) (λρ=>aT Φ Hc ρ) ((List.range' j k).map λ(i:Nat)=>D.int (i:Int)) [some (aw n rs),some (.lst .ow ds),c2,c3,c4,c5,c6,c7] =
   ok (.nx,[some (aw n rs),some (.lst .ow (ds++lr n rs .ow j k)),Og,Of,zF,zE,tF,tE])
 | 0,j,ds,c2,c3,c4,c5,c6,c7,_,_=>⟨c2,c3,c4,c5,c6,c7,by simp[fC,lr]⟩
 | k+1,j,ds,c2,c3,c4,c5,c6,c7,hj,hq=>by
  have hn:=I.n2;obtain⟨a4,a5,a6,a7,el⟩:=Ao Φ cM I j (some (.lst .ow ds)) n 0 [] c4 c5 c6 c7 (by left) rfl;have x0:∀ r:aD,aK Φ (.ix (.v 0) (.int 0)) (some (aw n rs)::r)=ok (.int n):=λr=>by simp[aw]
  have hit:=EF (Φ:=Φ) (a:=.ix (.v 0) (.int 0)) (ρ:=[some (aw n rs),some (.lst .ow ds),some (.int j),some (.lst .ow (ai [])),c4,c5,c6,c7]) (n:=n) (x0 _) (by left) (by left);rw[Int.toNat_natCast,List.range_eq_range']at hit;have hf:=fN (Φ:=Φ) (t:=.nm 4) (b:=Hb) hit el;rw[List.nil_append]at hf;obtain⟨Og,Of,zF,zE,tF,tE,ih⟩:=Ap Φ cM I k (j+1) (ds++[.lst .ow (ai ((List.range' 0 n).map λ(h:Nat)=>aS rs j h))]) (some (.int j)) none a4 a5 a6 a7 (by left) (by simp[hq]);have ep:lr n rs .ow j (k+1)=.lst .ow (ai ((List.range' 0 n).map λ(h:Nat)=>aS rs j h))::lr n rs .ow (j+1) k:=by unfold lr;rw[List.range'_succ,List.map_cons]
  rw[List.range'_succ,List.map_cons,ep];have hc:ds.length<iL:=by show _<1000000;left
  have q0:ai []=[]:=rfl;refine⟨Og,Of,zF,zE,tF,tE,dt (ρ1:=[some (aw n rs),some (.lst .ow ds),some (.int j),c3,c4,c5,c6,c7]) (by simp) (ρ2:=[some (aw n rs),some (.lst .ow (ds++[.lst .ow (ai ((List.range' 0 n).map λ(h:Nat)=>aS rs j h))])),some (.int j),none,a4,a5,a6,a7]) ?_ ?_⟩
  ·rw[q0]at hf;simp[Hc,hf,hc]
  ·exact ih.trans (by simp)
def sg(m:List D->O D):Prop:=∀ n rs,Dr 6 n rs->m [aw n rs]=ok (.lst .ow (lr n rs .ow 0 n))
theorem DG(Φ:au)(cM:dQ (Φ 202)):sg (mk Φ 1 8 mW):=by
 intro n rs I;have hn:=I.n2;obtain⟨a2,a3,a4,a5,a6,a7,el⟩:=Ap Φ cM I n 0 [] none none none none none none (by left) rfl;have x0:∀ r:aD,aK Φ (.ix (.v 0) (.int 0)) (some (aw n rs)::r)=ok (.int n):=λr=>by simp[aw]
 have hit:=EF (Φ:=Φ) (a:=.ix (.v 0) (.int 0)) (ρ:=[some (aw n rs),some (.lst .ow []),none,none,none,none,none,none]) (n:=n) (x0 _) (by left) (by left);rw[Int.toNat_natCast,List.range_eq_range']at hit;have hf:=fN (Φ:=Φ) (t:=.nm 2) (b:=Hc) hit el;rw[List.nil_append]at hf;simp[mk_eq,mW,hf]
noncomputable def IU:CE:=.comp 1 (.nm 0) [1] .k9 [(.ix (.v 0) (.int 0))] [] (.ix (.ix (.v 1) (.v 0)) (.v 0))
def kM:List CS:=[.asg (.nm 1) (.call 213 [(.v 0)]),.ret IU]
def kR(m:List D->O D):Prop:=∀ n rs,Dr 6 n rs->m [aw n rs]=ok (.lst .ow (ai (dE n rs)))
theorem qN(g:Fl->Fl)(n:Nat)(rs:List Row)(f:Fl)(j k:Nat):ag g (lr n rs f j k)=lr n rs (g f) j k:=by
 unfold lr;rw[aB,List.map_map];refine aaz λx _=>?_;show aq g (.lst f (ai _))=_;simp
theorem E_(g:Fl->Bool)(n:Nat)(rs:List Row)(f:Fl)(j k:Nat)(h:g f=false):av g (lr n rs f j k)=false:=bG g (λx=>by simp[h]) (List.range' j k)
theorem QO{n:Nat}{rs:List Row}{f:Fl}{k:Nat}(h:k<n):yn (lr n rs f 0 n) (k:Int)=ok (aq aR (.lst f (ai ((List.range' 0 n).map λ(h:Nat)=>aS rs k h)))):=by
 have:=at_of (ds:=lr n rs f 0 n) (i:=(k:Int)) (d:=.lst f (ai ((List.range' 0 n).map λ(h:Nat)=>aS rs k h))) (by left) (by
  rw[Int.toNat_natCast,lr,List.getElem?_map,List.getElem?_range' h];simp)
 exact this
theorem BH(Φ:au)(Xv:sg (Φ 213)):kR (mk Φ 1 2 kM):=by
 intro n rs I;have hn:=I.n2;have e1:=Xv n rs I;have m1:aq aC (aw n rs)=aw n rs:=by simp[aw]
 have m2:aq aR (aw n rs)=aw n rs:=by simp[aw]
 have hd:aw n rs=.tup [.int n,.lst .fz (bJ rs)]:=rfl;have x0:vm (aw n rs) (.int 0)=ok (.int n):=by rw[hd];simp
 have k1:aK Φ IU [some (aw n rs),some (.lst .ow (lr n rs .ow 0 n))]=ok (.lst .ow (ai (dE n rs))):=by
  unfold IU;rw[bo (xs:=[.int n]) (ds:=(List.range n).map λ(k:Nat)=>qD (aS rs k k)) (by simp[m2,x0]) (mK Φ (by left) (by left)) (aU λk hk=>⟨[some (.int k),some (.lst .fz (lr n rs .fz 0 n))],by simp[aM,qN],by simp,?_⟩) (by simp;exact aX (by left))]
  ·simp[ai,dE,aB]
  ·rw[Int.toNat_natCast,List.mem_range]at hk;have a1:=QO (rs:=rs) (f:=.fz) hk;have a2:=yc (qs:=(List.range' 0 n).map λ(h:Nat)=>aS rs k h) (h:=(k:Int)) (by left) (by simp;left);have a3:b6 ((List.range' 0 n).map λ(h:Nat)=>aS rs k h) (k:Int)=aS rs k k:=by
    unfold b6;rw[Int.toNat_natCast,List.getD_eq_getElem?_getD,List.getElem?_map,List.getElem?_range' hk];simp
   rw[a3]at a2;simp[qN,a1,a2]
 have f1:mP .ow=.ow:=rfl;have f2:=E_ bE n rs .ow 0 n rfl;simp[mk_eq,kM,Gr Φ IU _ rfl,m1,m2,e1,k1,qN,f1,f2]
theorem lj(f:Int->Rat):∀(k j:Nat) (bu:List Int),bu.Pairwise (· < ·)->(∀ h∈bu,(j:Int)<=h/\h<((j+k:Nat):Int))->((List.range' j k).map λ(i:Nat)=>if (i:Int)∈bu then f i else 0).sum=dN bu f
 | 0,j,bu,_,h=>by
  cases bu with
  | nil=>rfl
  | cons x xs=>have:=h x aao;left
 | k+1,j,bu,hp,h=>by
  rw[List.range'_succ,List.map_cons,List.sum_cons];by_cases e:(j:Int)∈bu
  ·obtain⟨xs,rfl⟩:∃ xs,bu=(j:Int)::xs:=by
    cases bu with
    | nil=>simp at e
    | cons x xs =>
     have h1:=h x aao;have h2:=List.pairwise_cons.mp hp;rcases List.mem_cons.mp e with e | e
     ·exact⟨xs,by rw[e]⟩
     ·have:=h2.1 _ e;left
   have h2:=List.pairwise_cons.mp hp;have ih:=lj f k (j+1) xs h2.2 λy hy=>by
    have a:=h y (aam _ hy);have b:=h2.1 y hy;constructor<;>left
   rw[if_pos List.mem_cons_self,nA,<- ih];congr 2;refine aaz λi hi=>?_;have hi:=List.mem_range'_1.mp hi;have:((i:Int)∈(j:Int)::xs) ↔ (i:Int)∈xs:=by
    rw[List.mem_cons];constructor
    ·rintro (h | h)
     ·left
     ·exact h
    ·exact .inr
   simp only[this]
  ·rw[if_neg e,Rat.zero_add];refine lj f k (j+1) bu hp λy hy=>?_;have a:=h y hy;have:y≠(j:Int):=λz=>e (z▸hy);constructor<;>left
theorem sum_add(a b:Nat->Rat):∀(l:List Nat),(l.map λk=>a k+b k).sum=(l.map a).sum+(l.map b).sum
 | []=>by simp[Rat.add_zero]
 | x::l=>by
  rw[List.map_cons,List.map_cons,List.map_cons,List.sum_cons,List.sum_cons,List.sum_cons,sum_add a b l];grind
theorem uN(c:Rat)(a:Nat->Rat):∀(l:List Nat),(l.map λk=>c*a k).sum=c*(l.map a).sum
 | []=>by simp[Rat.mul_zero]
 | x::l=>by
  rw[List.map_cons,List.map_cons,List.sum_cons,List.sum_cons,uN c a l];grind
theorem ud(n:Nat)(ws xs:List Rat):∀(rs:List Row),(∀ r∈rs,sI n r.2)->a_ rs ws xs=((List.range' 0 n).map λ(k:Nat)=>b6 ws k*b6 xs k*aS rs k k).sum
 | [],_=>by
  have e:((List.range' 0 n).map λ(k:Nat)=>b6 ws k*b6 xs k*aS [] k k)=(List.range' 0 n).map λ(k:Nat)=>(0:Rat)*(0:Rat):=aaz λk _=>by
   show _*(0:Rat)=_;grind
  rw[e,uN];simp[a_,Rat.zero_mul]
 | r::rs,h=>by
  have ih:=ud n ws xs rs λs hs=>h s (aam _ hs);have hl:=h r aao;have e1:a_ (r::rs) ws xs=r.1*dN r.2 (λh=>b6 ws h*b6 xs h)+a_ rs ws xs:=by unfold a_;rw[List.map_cons,List.sum_cons]
  have e2:=lj (λh=>b6 ws h*b6 xs h) n 0 r.2 hl.1 λy hy=>by have:=hl.2 y hy;constructor<;>left
  rw[e1,<- e2,ih,<- uN,<- sum_add];congr 1;refine aaz λk _=>?_;rw[lz];have:bZ k k r=decide ((k:Int)∈r.2):=by simp[bZ]
  rw[this];by_cases hk:(k:Int)∈r.2
  ·simp only[hk,decide_true,if_true];grind
  ·simp only[hk,decide_false,if_false];simp;grind
theorem gm(Φ:au):∀(a b:List CS) (ρ ρ':aD),aT Φ a ρ=ok (.nx,ρ')->aT Φ (a++b) ρ=aT Φ b ρ'
 | [],b,ρ,ρ',h=>by cases h;rfl
 | s::a,b,ρ,ρ',h=>by
  rw[dB]at h;rw[List.cons_append,dB];cases e:rF Φ s ρ with
  | none=>rw[e]at h;cases h
  | some r=>cases r with
   | error c=>rw[e]at h;cases h
   | ok r =>
    obtain⟨fo,ρ1⟩:=r;rw[e]at h;cases fo with
    | nx=>exact gm Φ a b ρ1 ρ' h
    | _=>cases h
theorem Di:∀(xs:List Rat) (j:Nat) (f:Nat->Rat),(∀ i,i<xs.length->f (j+i)=b6 xs i)->((List.range' j xs.length).map f).sum=xs.sum
 | [],_,_,_=>rfl
 | x::xs,j,f,h=>by
  rw[List.length_cons,List.range'_succ,List.map_cons,List.sum_cons,List.sum_cons,Di xs (j+1) f λi hi=>?_]
  ·have:=h 0 (by simp);rw[Nat.add_zero]at this;rw[this];rfl
  ·have:=h (i+1) (by simpa using hi);rw[show j+1+i=j+(i+1) by left,this];unfold b6;rw[Int.toNat_natCast,Int.toNat_natCast];rfl
theorem yQ{d n:Nat}{rs:List Row}(I:Dr d n rs)(hx:xs.length=n)(h:∀ k:Nat,k<n->b6 ws k*aS rs k k=1):a_ rs ws xs=xs.sum:=by
 rw[ud n ws xs rs I.bu];subst hx;refine Di xs 0 _ λi hi=>?_;rw[Nat.zero_add];have:=h i hi;grind
theorem GZ{n x:Nat}:∀ q∈fc n x,Sm 1 q:=λq hq=>by
 unfold fc at hq;obtain⟨k,_,rfl⟩:=List.mem_map.mp hq;split
 ·exact Qr
 ·exact Qs
@[simp] theorem PM(n x:Nat):(fc n x).length=n:=by simp[fc]
noncomputable def CH(q:Rat):Rat:=if 0<q then 1 / q else 0
theorem Om(qs:List Rat):(qs.map pP).any lC=qs.any λq=>!decide (0<q):=by
 rw[List.any_map];congr 1;funext q;show lC (pP q)=_;unfold pP;by_cases h:0<q
 ·rw[if_pos h];simp[h];rfl
 ·rw[if_neg h];simp[h];rfl
theorem Oo(qs:List Rat):(qs.map pP).all lA=true:=by
 rw[List.all_eq_true];intro d hd;obtain⟨q,_,rfl⟩:=List.mem_map.mp hd;unfold pP;split<;>rfl
theorem El(h:Φ 1036=yN)(f:Fl)(qs:List Rat):Φ 1036 [.bh,.lst f (qs.map pP)]=ok (.bl (qs.any λq=>!decide (0<q))):=by
 rw[h];show(if (qs.map pP).all lA then ok (D.bl ((qs.map pP).any lC))else none)=_;rw[Oo,Om];rfl
theorem Hy(h:∀ q∈qs,0<q):qs.map pP=ai (qs.map CH):=by
 unfold ai;rw[List.map_map];refine aaz λq hq=>?_;show pP q=qD (CH q);unfold pP CH;rw[if_pos (h q hq),if_pos (h q hq)]
theorem Py{n k:Nat}(rs:List Row)(h:k<n):b6 ((dE n rs).map CH) (k:Int)=CH (aS rs k k):=by
 unfold b6;rw[Int.toNat_natCast,List.getD_eq_getElem?_getD,List.getElem?_map,zY rs h];rfl
theorem JF{d n:Nat}{rs:List Row}(I:Dr d n rs)(F:tI rs):∀ q∈(dE n rs).map CH,Sm 6 q:=λq hq=>by
 obtain⟨p,hp,rfl⟩:=List.mem_map.mp hq;obtain⟨k,_,rfl⟩:=pW hp;have s:=qv I F k k;unfold CH;split
 ·rename_i h;rw[Rat.div_def,Rat.one_mul];exact Sm.inv s (by grind)
 ·exact Qs.mono (by decide)
theorem KJ{q:Rat}(h:0<q):CH q*q=1:=by
 unfold CH;rw[if_pos h,Rat.div_def,Rat.one_mul];exact Rat.inv_mul_cancel q (by grind)
def gk(f:Fl)(ls:List (List Rat)):List D:=ls.map λl=>.lst f (ai l)
theorem vc{i j:Int}(h:i.natAbs<2 ^ 9000)(h':j.natAbs<2 ^ 9000):gw i j=true:=by simp only[gw,big,h,h',decide_true,Bool.and_self,Bool.or_true]
theorem wb{B:Nat}:∀(l:List Int),(∀ z∈l,z.natAbs<=B)->l.sum.natAbs<=l.length*B
 | [],_=>by simp
 | z::l,h=>by
  have ih:=wb l λx hx=>h x (aam _ hx);have hz:=h z aao;have ht:=Int.natAbs_add_le z l.sum;rw[List.sum_cons,List.length_cons,Nat.succ_mul];left
def qr(b:Nat)(rs:List Row)(gs:List Int):Int:=((rs.zip gs).map λp=>aF b p.1.1*p.2*p.2).sum
def kz(b gb:Nat)(rs:List Row)(gs:List Int):Rat:=Rat.divInt ((b:Int)*qr b rs gs - fP b rs gs*fP b rs gs) ((b:Int)*gb*((b:Int)*gb))
noncomputable def NT:CE:=.comp 2 (.tp [0,1]) [] (.cw 1000) [(.ix (.v 2) (.int 1)),(.ix (.v 1) (.int 1))] [] (.bin .mul (.bin .mul (.ix (.v 0) (.int 0)) (.v 1)) (.v 1))
def gI:List CS:=[.asg (.nm 2) (.call 14 [(.v 0)]),.asg (.nm 3) (.bf .fQ [Cj]),.asg (.nm 4) (.bf .fQ [NT]),.asg (.nm 5) (.bin .mul (.ix (.v 2) (.int 0)) (.ix (.v 1) (.int 0))),.ret (.call 2 [(.bin .sub (.bin .mul (.ix (.v 2) (.int 0)) (.v 4)) (.bin .mul (.v 3) (.v 3))),(.bin .mul (.v 5) (.v 5))])]
def j_(m:List D->O D):Prop:=∀ {P:List Int->Prop} k n rs gs (gb:Nat),Dp P k n rs->gs.length=rs.length->0<gb->gb<2 ^ 2000->(∀ g∈gs,g.natAbs<2 ^ 2000)->m [.lst .fz (bJ rs),.tup [.int gb,.lst .fz (aa gs)]]=ok (qD (kz (aO (bC rs)) gb rs gs))
theorem gp(Φ:au)(h2:bP (Φ 2))(Nf:fM (Φ 14))(j3:Φ 1000=sL):j_ (mk Φ 2 6 gI):=by
 intro P k n rs gs gb I hl g0 g1 ZX;have e1:=Nf rs k I.CJ;obtain⟨b0,b1,_⟩:=I.bot;have ht:=λr hr=>I.top (r:=r) hr;have hlen:=I.len;generalize aO (bC rs)=b at *;have hz:cS Φ (.cw 1000) [.lst .al (nj b rs),.lst .fz (aa gs)]=ok ((rs.zip gs).map λp=>.tup [.tup [.int (aF b p.1.1),.tup (aa p.1.2)],.int p.2]):=by
  show bd (Φ 1000 _) nF=_;rw[j3];show ok (ag aC (List.zipWith (λx y=>D.tup [x,y]) (nj b rs) (aa gs)))=_;have:=dy aC (nj b rs) (aa gs);rw[qL,eJ]at this;refine aaS ok (Eq.trans this ?_);unfold nj aa;rw[List.zipWith_map,List.zip,List.map_zipWith];rfl
 have pr:∀ p∈rs.zip gs,(aF b p.1.1*p.2).natAbs<2 ^ 2064:=λp hp=>by
  have m:=aaN hp;rw[Int.natAbs_mul,show(2064:Nat)=64+2000 from rfl];exact aN (ht p.1 m.1) (ZX p.2 m.2)
 have k1:∀ r,aK Φ Cj (some (.lst .fz (bJ rs))::some (.tup [.int gb,.lst .fz (aa gs)])::some (.tup [.int b,.lst .ow (nj b rs)])::r)=ok (.lst .ow (aa ((rs.zip gs).map λp=>aF b p.1.1*p.2))):=λr=>by
  unfold Cj;rw[bo (xs:=[.lst .al (nj b rs),.lst .fz (aa gs)]) (by simp) hz (ds:=(rs.zip gs).map λp=>.int (aF b p.1.1*p.2)) (aU λp hp=>?_) (by simp;exact aX (by left))]
  ·simp[aa,aB]
  ·have m:=aaN hp;have e:=kI (j:=p.2) (ht p.1 m.1);exact⟨[some (.tup [.int (aF b p.1.1),.tup (aa p.1.2)]),some (.int p.2)],by simp[aM],by simp,by simp[e]⟩
 have k1':∀ r,aK Φ NT (some (.lst .fz (bJ rs))::some (.tup [.int gb,.lst .fz (aa gs)])::some (.tup [.int b,.lst .ow (nj b rs)])::r)=ok (.lst .ow (aa ((rs.zip gs).map λp=>aF b p.1.1*p.2*p.2))):=λr=>by
  unfold NT;rw[bo (xs:=[.lst .al (nj b rs),.lst .fz (aa gs)]) (by simp) hz (ds:=(rs.zip gs).map λp=>.int (aF b p.1.1*p.2*p.2)) (aU λp hp=>?_) (by simp;exact aX (by left))]
  ·simp[aa,aB]
  ·have m:=aaN hp;have e:=kI (j:=p.2) (ht p.1 m.1);have e':cq .mul (.int (aF b p.1.1*p.2)) (.int p.2)=ok (.int (aF b p.1.1*p.2*p.2)):=iG (vc (aan (pr p hp) (aau (by decide) (by decide))) (aan (ZX p.2 m.2) (aau (by decide) (by decide))));exact⟨[some (.tup [.int (aF b p.1.1),.tup (aa p.1.2)]),some (.int p.2)],by simp[aM],by simp,by simp[e,e']⟩
 have ks:∀ l:List Int,oZ .fQ [.lst .ow (aa l)]=ok (.int l.sum):=λl=>by
  show(match intsOf (aa l)with | some ns=>ok (D.int ns.sum) | none=>none)=_;unfold aa;rw[aV]
 have kt:oZ .fQ [.lst .ow (aa ((rs.zip gs).map λp=>aF b p.1.1*p.2))]=ok (.int (fP b rs gs)):=ks _;have kq:oZ .fQ [.lst .ow (aa ((rs.zip gs).map λp=>aF b p.1.1*p.2*p.2))]=ok (.int (qr b rs gs)):=ks _;have ta:(fP b rs gs).natAbs<2 ^ 2100:=by
  have h:=wb (B:=2 ^ 2064) ((rs.zip gs).map λp=>aF b p.1.1*p.2) λz hz=>by
   obtain⟨p,hp,rfl⟩:=List.mem_map.mp hz;exact abU (pr p hp)
  have hz:((rs.zip gs).map λp=>aF b p.1.1*p.2).length<=1000:=by simp;left
  refine aax (aaI h (aaV _ hz)) ?_;rw[show(2100:Nat)=36+2064 from rfl,Nat.pow_add];exact Nat.mul_lt_mul_of_pos_right (by decide) (Nat.two_pow_pos _)
 have Iz:((b:Int)).natAbs<2 ^ 64:=by rw[Int.natAbs_natCast];exact aan b1 (by decide)
 have m1:=kI (j:=(gb:Int)) Iz;have m2:=kI (j:=qr b rs gs) Iz;have m3:cq .mul (.int (fP b rs gs)) (.int (fP b rs gs))=ok (.int (fP b rs gs*fP b rs gs)):=iG (vc (aan ta (aau (by decide) (by decide))) (aan ta (aau (by decide) (by decide))));have Ux:((b:Int)*gb).natAbs<2 ^ 2061:=by
  rw[Int.natAbs_mul,Int.natAbs_natCast,Int.natAbs_natCast,show(2061:Nat)=61+2000 from rfl];exact aN b1 g1
 have m4:cq .mul (.int ((b:Int)*gb)) (.int ((b:Int)*gb))=ok (.int ((b:Int)*gb*((b:Int)*gb))):=iG (vc (aan Ux (aau (by decide) (by decide))) (aan Ux (aau (by decide) (by decide))));have k4:=h2.1 ((b:Int)*qr b rs gs - fP b rs gs*fP b rs gs) ((b:Int)*gb*((b:Int)*gb)) (by
  have:(0:Int)<(b:Int)*gb:=Int.mul_pos (by left) (by left);have:=Int.mul_pos this this;left) (by
  rw[Int.natAbs_mul];exact aan (aN Ux Ux) (aau (by decide) (by decide)))
 change _=ok (qD (kz b gb rs gs))at k4;generalize kz b gb rs gs=sp at *;simp[mk_eq,gI,e1,k1,k1',kt,kq,m1,m2,m3,m4,k4]
def dD(rs:List Row)(ws xs:List Rat):Rat:=kz (aO (bC rs)) (aO (dM ws xs)) rs (dS rs (dM ws xs))
def ox(m:List D->O D):Prop:=∀ k n rs f g ws xs j,Dr k n rs->Gs j n ws xs->j<=50->m [aw n rs,.lst f (ai ws),.lst g (ai xs)]=ok (qD (dD rs ws xs))
noncomputable def kO:List CS:=[.ex (.call 17 [(.v 0)]),.ex (.call 46 [(.v 1),(.ix (.v 0) (.int 0))]),.ex (.call 47 [(.v 2),(.ix (.v 0) (.int 0))]),.ret (.call 50 [(.ix (.v 0) (.int 1)),(.call 48 [(.v 0),(.v 1),(.v 2)])])]
theorem Ft{k n j:Nat}{rs:List Row}(I:Dr k n rs)(G:Gs j n ws xs)(hj:j<=50):aO (dM ws xs)<2 ^ 2000/\∀ g∈dS rs (dM ws xs),g.natAbs<2 ^ 2000:=by
 have hn:=I.n2;have hs:=G.CJ hn;obtain⟨c0,c1,c2⟩:=hs.lcm;have hP:(dM ws xs).length=n:=by unfold dM;rw[List.length_map,List.length_zip,G.l1,G.l2,Nat.min_self]
 have c3:aO (dM ws xs)<2 ^ 1201:=aan c1 (aau (by decide) (by
  rw[hP];have:(j+j)*n<=100*12:=aa6 (by left) hn;left))
 refine⟨aan c3 (aau (by decide) (by decide)),λg hg=>?_⟩;unfold dS at hg;obtain⟨r,hr,rfl⟩:=List.mem_map.mp hg;have ht:∀ z∈r.2.map (i7 ((dM ws xs).map (aF (aO (dM ws xs))))),z.natAbs<=2 ^ 1301:=λz hz=>by
  obtain⟨h,hh,rfl⟩:=List.mem_map.mp hz;obtain⟨a,b⟩:=(I.bu r hr).2 h hh;obtain⟨g,m⟩:=bB (qs:=dM ws xs) a (by rw[hP];exact b);have e:i7 ((dM ws xs).map (aF (aO (dM ws xs)))) h=aF (aO (dM ws xs)) (b6 (dM ws xs) h):=by
   unfold i7;rw[List.getD_eq_getElem?_getD,List.getElem?_map,g];rfl
  rw[e];have s:=(hs.sm _ m).mono (l:=100) (by left);generalize b6 (dM ws xs) h=q at *;unfold aF;rw[Int.natAbs_mul];have f1:((aO (dM ws xs):Int).fdiv q.den).natAbs<=aO (dM ws xs):=by
   rw[Int.fdiv_eq_ediv_of_nonneg _ (by left)];have:=Int.natAbs_ediv_le_natAbs (aO (dM ws xs):Int) (q.den:Int);simpa using this
  have:=aN s.1 (aax f1 c3);exact abU this
 have h:=wb (B:=2 ^ 1301) _ ht;have hl:=(I.bu r hr).len;have hz:(r.2.map (i7 ((dM ws xs).map (aF (aO (dM ws xs)))))).length<=12:=by rw[List.length_map];left
 refine aax (aaI h (aaV _ hz)) ?_;rw[show(2000:Nat)=699+1301 from rfl,Nat.pow_add];refine Nat.mul_lt_mul_of_pos_right ?_ (Nat.two_pow_pos _);exact aan (show 12<2 ^ 4 by decide) (aau (by decide) (by decide))
theorem BJ(Φ:au)(Nc:dY (Φ 17))(Xn:eD 3 jJ (Φ 46))(IE:eD 4 jJ (Φ 47))(Xm:eA (Φ 48))(h50:j_ (Φ 50)):ox (mk Φ 3 3 kO):=by
 intro k n rs f g ws xs j I G hj;have hn:=I.n2;have l1:=G.l1;have l2:=G.l2;have e1:=Nc k n rs I;have e2:=λf=>Xn (.lst f (ai ws)) n (by show(ai ws).length<=1000000;simp;left);have e3:=λf=>IE (.lst f (ai xs)) n (by show(ai xs).length<=1000000;simp;left);simp only[i8,l1,decide_true,if_true]at e2;simp only[i8,l2,decide_true,if_true]at e3;have e4:=λf g=>Xm k n rs f g ws xs j I G;have hs:=G.CJ hn;obtain⟨c0,c1,c2⟩:=hs.lcm;obtain⟨p1,p2⟩:=Ft I G hj;have e5:=h50 k n rs (dS rs (dM ws xs)) (aO (dM ws xs)) I (by simp[dS]) c0 p1 p2;have m1:aq aC (aw n rs)=aw n rs:=by simp[aw]
 have m2:aq aR (aw n rs)=aw n rs:=by simp[aw]
 have hd:aw n rs=.tup [.int n,.lst .fz (bJ rs)]:=rfl;have x0:vm (aw n rs) (.int 0)=ok (.int n):=by rw[hd];simp
 have x1:vm (aw n rs) (.int 1)=ok (.lst .fz (bJ rs)):=by rw[hd];simp
 simp[mk_eq,kO,m1,m2,x0,x1,e1,e2,e3,e4,e5];rfl
noncomputable def ez:List CS:=[.ifs (.or [(.not (.pd (.v 0) .tuple)),(.cmp .ne (.bf .len [(.v 0)]) (.int 2))]) [.rs 8] [],.ifs (.or [(.not (.call 40 [(.ix (.v 0) (.int 0)),(.v 1)])),(.not (.call 40 [(.ix (.v 0) (.int 1)),(.v 1)]))]) [.rs 8] []]
def gZ(m:List D->O D):Prop:=∀(n:Nat) f g ws bs,ws.length=n->bs.length=n->n<=12->m [.tup [.lst f (ai ws),.lst g (ai bs)],.int n]=ok .bh
theorem d9(Φ:au)(ZV:eO (Φ 40)):gZ (mk Φ 2 2 ez):=by
 intro n f g ws bs hw hb hn;have e1:=λf=>ZV (.lst f (ai ws)) n (by show(ai ws).length<=1000000;simp;left);have e2:=λf=>ZV (.lst f (ai bs)) n (by show(ai bs).length<=1000000;simp;left);simp only[i8,hw,decide_true]at e1;simp only[i8,hb,decide_true]at e2;have ty:∀ ds,cU .tuple (.tup ds)=true:=λ_=>rfl;simp[mk_eq,ez,ty,e1,e2]
noncomputable def subQ(xs bs:List Rat):List Rat:=(xs.zip bs).map λp=>p.1 - p.2
noncomputable def Ja:CE:=.comp 2 (.tp [0,1]) [] (.cw 1000) [(.v 2),(.ix (.v 1) (.int 1))] [] (.call 5 [(.v 0),(.v 1)])
def m6:List CS:=[.ex (.call 17 [(.v 0)]),.ex (.call 90 [(.v 1),(.ix (.v 0) (.int 0))]),.ex (.call 47 [(.v 2),(.ix (.v 0) (.int 0))]),.ret Ja]
def nc(m:List D->O D):Prop:=∀ k n rs ws bs f xs,Dr k n rs->ws.length=n->Gs 10 n xs bs->m [aw n rs,.tup [.lst .fz (ai ws),.lst .fz (ai bs)],.lst f (ai xs)]=ok (.lst .ow (ai (subQ xs bs)))
theorem DK(Φ:au)(h5:i_ (Φ 5))(Nc:dY (Φ 17))(IE:eD 4 jJ (Φ 47))(h90:gZ (Φ 90))(j3:Φ 1000=sL):nc (mk Φ 3 3 m6):=by
 intro k n rs ws bs f xs I hw G;have hn:=I.n2;have l1:=G.l1;have e1:=Nc k n rs I;have e2:=λf g=>h90 n f g ws bs hw G.l2 hn;have e3:=λf=>IE (.lst f (ai xs)) n (by show(ai xs).length<=1000000;simp;left);simp only[i8,l1,decide_true,if_true]at e3;have m1:aq aC (aw n rs)=aw n rs:=by simp[aw]
 have m2:aq aR (aw n rs)=aw n rs:=by simp[aw]
 have hd:aw n rs=.tup [.int n,.lst .fz (bJ rs)]:=rfl;have x0:vm (aw n rs) (.int 0)=ok (.int n):=by rw[hd];simp
 have k1:aK Φ Ja [some (aw n rs),some (.tup [.lst .fz (ai ws),.lst .fz (ai bs)]),some (.lst f (ai xs))]=ok (.lst .ow (ai (subQ xs bs))):=by
  unfold Ja;rw[bo (xs:=[.lst (aR f) (ai xs),.lst .fz (ai bs)]) (by simp) (CY j3 ..) (ds:=(xs.zip bs).map λp=>qD (p.1 - p.2)) (aU λp hp=>?_) (by simp;exact aX (by left))]
  ·simp[subQ,ai,aB]
  ·have m:=aaN hp;have e:=h5 p.1 p.2 ((G.s1 _ m.1).mono (by decide)) ((G.s2 _ m.2).mono (by decide));exact⟨[some (qD p.1),some (qD p.2)],by simp[aM,Ua],by simp,by simp[e]⟩
 simp[mk_eq,m6,Gr Φ Ja _ rfl,m1,m2,x0,e1,e2,e3,k1]
noncomputable def kJ:List CS:=[.asg (.nm 3) (.call 91 [(.v 0),(.v 1),(.v 2)]),.ret (.call 65 [(.v 0),(.ix (.v 1) (.int 0)),(.v 3)])]
def kQ(m:List D->O D):Prop:=∀ k n rs ws bs f xs,Dr k n rs->Gs 10 n xs bs->Gs 10 n ws xs->m [aw n rs,.tup [.lst .fz (ai ws),.lst .fz (ai bs)],.lst f (ai xs)]=ok (qD (dD rs ws (subQ xs bs)))
theorem Dj{n:Nat}{bs:List Rat}(G:Gs 10 n xs bs)(G':Gs 10 n ws xs):Gs 21 n ws (subQ xs bs) :=
 ⟨G'.l1,by unfold subQ;rw[List.length_map,List.length_zip,G.l1,G.l2,Nat.min_self],λq hq=>(G'.s1 q hq).mono (by decide),λq hq=>by
  unfold subQ at hq;obtain⟨p,hp,rfl⟩:=List.mem_map.mp hq;have m:=aaN hp;exact((G.s1 _ m.1).sub (G.s2 _ m.2)).mono (by decide),by decide⟩
theorem BG(Φ:au)(h65:ox (Φ 65))(Xh:nc (Φ 91)):kQ (mk Φ 3 4 kJ):=by
 intro k n rs ws bs f xs I G G';have e1:=λf=>Xh k n rs ws bs f xs I G'.l1 G;have e2:=λf g=>h65 k n rs f g ws (subQ xs bs) 21 I (Dj G G') (by decide);have m1:aq aC (aw n rs)=aw n rs:=by simp[aw]
 have m2:aq aR (aw n rs)=aw n rs:=by simp[aw]
 simp[mk_eq,kJ,m1,m2,e1,e2]
noncomputable def v9:List CS:=[.asg (.nm 1) (.call 53 [(.v 0)]),.ifs (.cw 1036 [.bh,(.v 1)]) [.rs 6] [],.ret (.v 1)]
def zI(m:List D->O D):Prop:=∀ k n rs,Dr k n rs->(∀ q∈dE n rs,0<q)->m [aw n rs]=ok (.lst .ow (ai ((dE n rs).map CH)))
theorem Lq(Φ:au)(Xi:qe (Φ 53))(R5:Φ 1036=yN):zI (mk Φ 1 2 v9):=by
 intro k n rs I hp;have e1:=Xi k n rs I;have e2:=λf=>El R5 f (dE n rs);have hf:((dE n rs).any λq=>!decide (0<q))=false:=by
  rw[List.any_eq_false];intro q hq;simp[hp q hq]
 rw[hf]at e2;have m1:aq aC (aw n rs)=aw n rs:=by simp[aw]
 have m2:aq aR (aw n rs)=aw n rs:=by simp[aw]
 rw[Hy hp]at e1 e2;simp[mk_eq,v9,m1,m2,e1,e2]
theorem sub_self:∀(xs:List Rat),subQ xs xs=List.replicate xs.length 0
 | []=>rfl
 | x::xs=>by
  show(x - x)::subQ xs xs=_;rw[sub_self xs,List.length_cons,List.replicate_succ,show x - x=0 by grind]
theorem Dk{n k:Nat}{os:List Rat}(hx:xs.length=n)(ho:os.length=n):subQ os xs=(List.range n).map λ(k:Nat)=>b6 os k - b6 xs k:=by
 refine acj λi=>?_;unfold subQ;rw[List.getElem?_map,List.getElem?_map,List.zip,List.getElem?_zipWith];by_cases h:i<n
 ·rw[List.getElem?_range h,List.getElem?_eq_getElem (by left),List.getElem?_eq_getElem (by left)];simp[b6,hx,ho,h]
 ·rw[List.getElem?_eq_none (l:=os) (by left),List.getElem?_eq_none (l:=List.range n) (by simp;left)];rfl
theorem wN{n:Nat}{rs:List Row}(hw:ws.length=n):dD rs ws (List.replicate n 0)=0:=by
 have hP:dM ws (List.replicate n 0)=List.replicate n 0:=by
  subst hw;unfold dM;induction ws with
  | nil=>rfl
  | cons w ws ih =>
   show w*0::(ws.zip (List.replicate ws.length 0)).map (λp=>p.1*p.2)=_;rw[ih,List.length_cons,List.replicate_succ,Rat.mul_zero]
 have hg:∀ r:Row,sumZ r.2 ((List.replicate n (0:Rat)).map (aF (aO (List.replicate n 0))))=0:=λr=>by
  unfold sumZ;have:∀ bu:List Int,(bu.map (i7 ((List.replicate n (0:Rat)).map (aF (aO (List.replicate n 0)))))).sum=0:=λbu=>by
   induction bu with
   | nil=>rfl
   | cons h bu ih =>
    rw[List.map_cons,List.sum_cons,ih];have:i7 ((List.replicate n (0:Rat)).map (aF (aO (List.replicate n 0)))) h=0:=by
     unfold i7;rw[List.map_replicate,List.getD_eq_getElem?_getD,List.getElem?_replicate];split
     ·show aF _ 0=0;unfold aF;simp
     ·rfl
    rw[this];rfl
  exact this r.2
 have hG:dS rs (List.replicate n 0)=rs.map λ_=>(0:Int):=aaz λr _=>hg r;unfold dD;rw[hP,hG];have t0:∀(b:Nat) (rs:List Row),fP b rs (rs.map λ_=>(0:Int))=0:=λb rs=>by
  induction rs with
  | nil=>rfl
  | cons r rs ih =>
   show aF b r.1*0+fP b rs (rs.map λ_=>(0:Int))=0;rw[ih];simp
 have q0:∀(b:Nat) (rs:List Row),qr b rs (rs.map λ_=>(0:Int))=0:=λb rs=>by
  induction rs with
  | nil=>rfl
  | cons r rs ih =>
   show aF b r.1*0*0+qr b rs (rs.map λ_=>(0:Int))=0;rw[ih];simp
 unfold kz;rw[t0,q0];simp
noncomputable def Gn(p:Int×Int):D:=.tup [.int p.1,.int p.2]
def G0(ps:List (Int×Int)):List D:=ps.map Gn
@[simp] theorem H_(g:Fl->Fl)(p:Int×Int):aq g (Gn p)=Gn p:=by unfold Gn;simp
@[simp] theorem IA(g:Fl->Bool)(p:Int×Int):aI g (Gn p)=false:=by unfold Gn;simp
@[simp] theorem OI(g:Fl->Fl)(ps:List (Int×Int)):ag g (G0 ps)=G0 ps:=cK g (H_ g) ps
@[simp] theorem O4(g:Fl->Bool)(ps:List (Int×Int)):av g (G0 ps)=false:=bG g (IA g) ps
@[simp] theorem PN(ps:List (Int×Int)):(G0 ps).length=ps.length:=abh ..
@[simp] theorem Wf(p:Int×Int):vm (Gn p) (.int 0)=ok (.int p.1):=by unfold Gn;simp
@[simp] theorem We(p:Int×Int):vm (Gn p) (.int 1)=ok (.int p.2):=by unfold Gn;simp
def gQ(ws xs:List Rat)(r:Row):Rat:=dN r.2 λh=>b6 ws h*b6 xs h
noncomputable def wM(rs:List Row)(ws xs:List Rat):Rat:=(rs.map λr=>r.1*(gQ ws xs r*gQ ws xs r)).sum
theorem zS{b c:Nat}{P:List Rat}(hc:∀ q∈P,q.den∣c):∀(rs:List Row),(∀ r∈rs,r.1.den∣b)->(∀ r∈rs,∀ h∈r.2,0<=h/\h<(P.length:Int)) ->
  ((qr b rs (rs.map λr=>sumZ r.2 (P.map (aF c))):Int):Rat)=(rs.map λr=>r.1*((dN r.2 λh=>b6 P h)*dN r.2 λh=>b6 P h)).sum*((b:Rat)*((c:Rat)*(c:Rat)))
 | [],_,_=>by simp[qr,Rat.zero_mul]
 | r::rs,hb,hl=>by
  have ih:=zS hc rs (λs hs=>hb s (aam _ hs)) λs hs=>hl s (aam _ hs);have e:qr b (r::rs) ((r::rs).map λr=>sumZ r.2 (P.map (aF c)))=aF b r.1*sumZ r.2 (P.map (aF c))*sumZ r.2 (P.map (aF c))+qr b rs (rs.map λr=>sumZ r.2 (P.map (aF c))):=rfl;rw[e,Rat.intCast_add,Rat.intCast_mul,Rat.intCast_mul,mh (hb r List.mem_cons_self),qp hc r.2 (hl r List.mem_cons_self),ih,List.map_cons,List.sum_cons];grind
theorem yD{k n j:Nat}{rs:List Row}(I:Dr k n rs)(G:Gs j n ws xs):dD rs ws xs=wM rs ws xs - a_ rs ws xs*a_ rs ws xs:=by
 have hs:=G.CJ I.n2;obtain⟨c0,_,c2⟩:=hs.lcm;obtain⟨b0,_,b2⟩:=I.bot;have hP:(dM ws xs).length=n:=by unfold dM;rw[List.length_map,List.length_zip,G.l1,G.l2,Nat.min_self]
 have hl:∀ r∈rs,∀ h∈r.2,0<=h/\h<((dM ws xs).length:Int):=λr hr h hh=>by rw[hP];exact(I.bu r hr).2 h hh
 have hb:∀ r∈rs,r.1.den∣aO (bC rs):=λr hr=>b2 _ (aaL hr);have t:=uK (b:=aO (bC rs)) c2 rs hb hl;have q:=zS (b:=aO (bC rs)) c2 rs hb hl;have ea:∀ r∈rs,(dN r.2 λh=>b6 (dM ws xs) h)=gQ ws xs r:=λr hr=>qq λh hh=>G.at ((I.bu r hr).2 h hh).1 ((I.bu r hr).2 h hh).2;have e1:(rs.map λr=>r.1*dN r.2 λh=>b6 (dM ws xs) h)=rs.map λr=>r.1*dN r.2 λh=>b6 ws h*b6 xs h:=aaz λr hr=>by rw[ea r hr];rfl
 have e2:(rs.map λr=>r.1*((dN r.2 λh=>b6 (dM ws xs) h)*dN r.2 λh=>b6 (dM ws xs) h))=rs.map λr=>r.1*(gQ ws xs r*gQ ws xs r):=aaz λr hr=>by rw[ea r hr]
 rw[e1]at t;rw[e2]at q;unfold dD dS kz;generalize fP (aO (bC rs)) rs _=T at *;generalize qr (aO (bC rs)) rs _=Q at *;change ((T:Int):Rat)=a_ rs ws xs*_ at t;change ((Q:Int):Rat)=wM rs ws xs*_ at q;generalize a_ rs ws xs=m at *;generalize wM rs ws xs=s at *;generalize aO (bC rs)=b at *;generalize aO (dM ws xs)=c at *;rw[Rat.divInt_eq_div];simp only[Rat.intCast_sub,Rat.intCast_mul,Rat.intCast_natCast,t,q];have xG:(b:Rat)≠0:=λz=>by
  have:((b:Int):Rat)=0:=by rw[Rat.intCast_natCast];exact z
  rw[Rat.intCast_eq_zero_iff]at this;left
 have EZ:(c:Rat)≠0:=λz=>by
  have:((c:Int):Rat)=0:=by rw[Rat.intCast_natCast];exact z
  rw[Rat.intCast_eq_zero_iff]at this;left
 generalize (b:Rat)=x at *;generalize (c:Rat)=y at *;grind
noncomputable def pk(rs:List Row)(ws xs:List Rat)(m:Rat):Rat:=(rs.map λr=>r.1*((gQ ws xs r - m)*(gQ ws xs r - m))).sum
theorem FX(ws xs:List Rat)(m:Rat):∀ rs:List Row,pk rs ws xs m=wM rs ws xs - 2*m*a_ rs ws xs+m*m*(rs.map (·.1)).sum
 | []=>by simp[pk,wM,a_];grind
 | r::rs=>by
  have ih:=FX ws xs m rs;have e1:pk (r::rs) ws xs m=r.1*((gQ ws xs r - m)*(gQ ws xs r - m))+pk rs ws xs m:=by unfold pk;rw[List.map_cons,List.sum_cons]
  have e2:wM (r::rs) ws xs=r.1*(gQ ws xs r*gQ ws xs r)+wM rs ws xs:=by unfold wM;rw[List.map_cons,List.sum_cons]
  have e3:a_ (r::rs) ws xs=r.1*gQ ws xs r+a_ rs ws xs:=by unfold a_ gQ;rw[List.map_cons,List.sum_cons]
  rw[e1,e2,e3,ih,List.map_cons,List.sum_cons];grind
theorem rM{k n j:Nat}{rs:List Row}(I:Dr k n rs)(G:Gs j n ws xs):pk rs ws xs (a_ rs ws xs)=dD rs ws xs:=by
 rw[yD I G,FX,I.one];grind
noncomputable def Fm(M B:Nat)(q:Rat):Prop:=0<M/\∃ z:Int,z.natAbs<=B/\q*(M:Rat)=(z:Rat)
section
variable {M N B C:Nat}{p q:Rat}
theorem Em{M:Nat}(h:0<M):(M:Rat)≠0:=λz=>by
 have:((M:Int):Rat)=0:=by rw[Rat.intCast_natCast];exact z
 rw[Rat.intCast_eq_zero_iff]at this;left
theorem Fm.divInt(h:Fm M B q):∃ z:Int,z.natAbs<=B/\q=Rat.divInt z M:=by
 obtain⟨h0,z,hz,e⟩:=h;refine⟨z,hz,?_⟩;rw[Rat.divInt_eq_div,<- e,Rat.intCast_natCast];have:=Em h0;grind
theorem Fm.sm{k:Nat}(h:Fm M B q)(h1:M<2 ^ k)(h2:B<2 ^ k):Sm k q:=by
 have h0:=h.1;obtain⟨z,hz,rfl⟩:=h.divInt;exact nE (by left) (by left) (by simpa using h1)
theorem Fm.mono(h:Fm M B q)(hl:B<=C):Fm M C q:=⟨h.1,h.2.choose,aaI h.2.choose_spec.1 hl,h.2.choose_spec.2⟩
theorem Fm.add(h:Fm M B p)(h':Fm M C q):Fm M (B+C) (p+q):=by
 obtain⟨h0,z,hz,e⟩:=h;obtain⟨_,w,hw,e'⟩:=h';exact⟨h0,z+w,by left,by rw[Rat.intCast_add,<- e,<- e'];grind⟩
theorem Fm.sub(h:Fm M B p)(h':Fm M C q):Fm M (B+C) (p - q):=by
 obtain⟨h0,z,hz,e⟩:=h;obtain⟨_,w,hw,e'⟩:=h';exact⟨h0,z - w,by left,by rw[Rat.intCast_sub,<- e,<- e'];grind⟩
theorem Fm.mul(h:Fm M B p)(h':Fm N C q):Fm (M*N) (B*C) (p*q):=by
 obtain⟨h0,z,hz,e⟩:=h;obtain⟨h0',w,hw,e'⟩:=h';exact⟨abp h0 h0',z*w,by rw[Int.natAbs_mul];exact aa6 hz hw,by rw[Rat.intCast_mul,<- e,<- e',Rat.natCast_mul];grind⟩
theorem Fm.lift(c:Nat)(hc:0<c)(h:Fm M B q):Fm (c*M) (c*B) q:=by
 obtain⟨h0,z,hz,e⟩:=h;exact⟨abp hc h0,c*z,by rw[Int.natAbs_mul,Int.natAbs_natCast];exact aaR _ hz,by rw[Rat.intCast_mul,<- e,Rat.natCast_mul,Rat.intCast_natCast];grind⟩
theorem Fm.zero(h:0<M):Fm M 0 0:=⟨h,0,by decide,by rw[Rat.zero_mul];rfl⟩
theorem Fm.sum{qs:List Rat}(h0:0<M)(h:∀ q∈qs,Fm M B q):Fm M (qs.length*B) qs.sum:=by
 induction qs with
 | nil=>simpa using Fm.zero h0
 | cons q qs ih =>
  rw[List.sum_cons,List.length_cons,Nat.succ_mul,Nat.add_comm];exact(h q aao).add (ih λp hp=>h p (aam _ hp))
theorem FD(h0:0<M)(hd:q.den∣M)(hn:q.num.natAbs<=B*q.den):Fm M (B*M) q:=by
 obtain⟨c,rfl⟩:=hd;refine⟨h0,q.num*c,?_,?_⟩
 ·rw[Int.natAbs_mul,Int.natAbs_natCast,<- Nat.mul_assoc];exact aaV _ hn
 ·rw[Rat.intCast_mul,DT,Rat.natCast_mul,Rat.intCast_natCast];grind
theorem FE(h:Sm 3 q):Fm 420 (7*420) q:=by
 have hp:=q.den_pos;have h1:=h.1;have h2:=h.2;refine FD (by decide) ?_ ?_
 ·have:q.den=1\/q.den=2\/q.den=3\/q.den=4\/q.den=5\/q.den=6\/q.den=7:=by left
  rcases this with e | e | e | e | e | e | e<;>rw[e]<;>decide
 ·have:7*1<=7*q.den:=aaR _ hp;left
end
theorem Kh{P:List Int->Prop}{k n:Nat}{rs:List Row}(I:Dp P k n rs)(h0:0<W)(hd:∀ r∈rs,r.1.den∣W){r:Row}(hr:r∈rs):Fm W (1*W) r.1:=by
 refine FD h0 (hd r hr) ?_;have h:=cW (λs=>decide (s=r)) rs I.pos;have hp:=I.pos r hr;have key:∀ l:List Row,(∀ s∈l,0<s.1)->r∈l->r.1<=(bC l).sum:=λl=>by
  induction l with
  | nil=>intro _ h;cases h
  | cons s l ih =>
   intro hp hm;have e:(bC (s::l)).sum=s.1+(bC l).sum:=rfl;rw[e];have h1:=hp s aao;have h2:=(cW (λ_=>true) l λx hx=>hp x (aam _ hx)).1;have h3:l.filter (λ_=>true)=l:=by simp
   rw[h3]at h2;rcases List.mem_cons.mp hm with rfl | hm
   ·grind
   ·have:=ih (λx hx=>hp x (aam _ hx)) hm;grind
 have h1:r.1<=1:=by have:=key rs I.pos hr;have e:(bC rs).sum=1:=I.one;rw[e]at this;exact this
 have n0:=nH hp;have:r.1.num<=r.1.den:=by
  rw[Rat.le_iff]at h1;simpa using h1
 left
theorem XJ{n:Nat}{f:Int->Rat}(h0:0<M)(hl:bu.length<=n)(h:∀ x∈bu,Fm M B (f x)):Fm M (n*B) (dN bu f):=by
 have:=Fm.sum (qs:=bu.map f) h0 λq hq=>by
  obtain⟨x,hx,rfl⟩:=List.mem_map.mp hq;exact h x hx
 rw[List.length_map]at this;exact this.mono (aaV _ hl)
noncomputable def gm3:Nat:=420*420
noncomputable def kv:List CS:=[.asg (.nm 7) (.call 222 [(.call 231 [(.v 1),(.v 6),(.v 2)]),(.v 3)]),.asg (.nm 4) (.call 202 [(.v 4),(.call 203 [(.v 5),(.call 203 [(.v 7),(.v 7)])])])]
def kL:List CS:=[.asg (.nm 3) (.call 232 [(.v 0),(.v 1),(.v 2)]),.asg (.nm 4) (.tup [(.int 0),(.int 1)]),.fr (.tp [5,6]) (.seq (.ix (.v 0) (.int 1))) kv,.ret (.v 4)]
structure LsB(W M Bm Bg dv:Nat):Prop where
 w1:W<64
 m1:M<2 ^ 200
 m2:M*M<2 ^ 200
 m3:W*(M*M)<2 ^ 200
 bm:Bm<2 ^ 200
 bg:Bg<2 ^ 200
 ds:Bg+Bm<=dv
 d1:dv<2 ^ 200
 d2:dv*dv<2 ^ 200
 d3:12*(64*(dv*dv))<2 ^ 200
noncomputable def Ov(m:List D->O D):Prop:=∀ p q,Sm 3000 p->Sm 3000 q->q≠0->m [qD p,qD q]=ok (qD (p / q))
def Hx(cs:List (List Int)):List D:=cs.map λc=>.tup (aa c)
@[simp] theorem OJ(g:Fl->Fl)(cs:List (List Int)):ag g (Hx cs)=Hx cs:=cK g (λc=>by simp) cs
@[simp] theorem O5(g:Fl->Bool)(cs:List (List Int)):av g (Hx cs)=false:=bG g (λc=>by simp) cs
@[simp] theorem Qy(cs:List (List Int)):(Hx cs).length=cs.length:=abh ..
structure EvL(n z:Nat)(cs:List (List Int)):Prop where
 nd:cs.Nodup
 ten:cs.length<=10
 one:1<=cs.length
 bu:∀ c∈cs,sI n c
 sz:∀ c∈cs,c.length=z
 all:∀ g h:Nat,g<n->h<n->∃ c∈cs,(g:Int)∈c/\(h:Int)∈c
def zj(cs:List (List Int))(ws:List Int):List Row:=(bj cs).map λc=>(Rat.divInt (ws.getD (cs.idxOf c) 0) ws.sum,c)
theorem sO{ws:List Int}(hn:cs.Nodup)(hl:ws.length=cs.length):cs.map (λc=>ws.getD (cs.idxOf c) 0)=ws:=by
 refine abM (by simp[hl]) λi h1 h2=>?_;rw[List.getElem_map];have hi:i<cs.length:=by simpa using h1
 rw[hn.idxOf_getElem i hi];simp[h2]
theorem EvL.dr{n z:Nat}(V:EvL n z cs)(n1:1<=n)(n2:n<=12){ws:List Int}(hl:ws.length=cs.length)(hw:∀ w∈ws,1<=w/\w<=5):
  Dr 6 n (zj cs ws)/\tI (zj cs ws)/\(∀ r∈zj cs ws,r.2.length=z)/\(∀ g h:Nat,g<n->h<n->0<aS (zj cs ws) g h)/\1<=ws.sum/\ws.sum<=50:=by
 have hp:(bj cs).Perm cs:=aa4 _ _;have hlen:(zj cs ws).length=cs.length:=by unfold zj;rw[List.length_map];exact hp.length_eq
 have Kd:=V.ten;have h1:=V.one;have sb:∀ l:List Int,(∀ w∈l,1<=w/\w<=5)->(l.length:Int)<=l.sum/\l.sum<=5*l.length:=λl=>by
  induction l with
  | nil=>intro _;exact⟨by decide,by decide⟩
  | cons w l ih =>
   intro h;obtain⟨a,b⟩:=ih λx hx=>h x (aam _ hx);have:=h w aao;rw[List.sum_cons,List.length_cons];constructor<;>push_cast<;>left
 obtain⟨s1,s2⟩:=sb ws hw;have hW:1<=ws.sum/\ws.sum<=50:=by rw[hl]at s1 s2;left
 have val:∀ c∈bj cs,1<=ws.getD (cs.idxOf c) 0/\ws.getD (cs.idxOf c) 0<=5:=λc hc=>by
  have hi:cs.idxOf c<ws.length:=by rw[hl];exact List.idxOf_lt_length_iff.mpr (hp.mem_iff.mp hc)
  have:ws.getD (cs.idxOf c) 0=ws[cs.idxOf c]:=by simp[hi]
  rw[this];exact hw _ (abL _)
 have Kb:tI (zj cs ws):=⟨ws.sum.toNat,by left,by left,λr hr=>by
  unfold zj at hr;obtain⟨c,_,rfl⟩:=List.mem_map.mp hr;have d:=lJ (t:=ws.getD (cs.idxOf c) 0) (b:=ws.sum) (by left)
  rwa [show ws.sum.natAbs=ws.sum.toNat by left]at d⟩
 have hpos:∀ r∈zj cs ws,0<r.1:=λr hr=>by
  obtain⟨c,hc,rfl⟩:=List.mem_map.mp hr;exact rL (by have:=val c hc;left) (by left)
 refine⟨⟨n1,n2,by rw[hlen];left,.inr Kb,by rw[hlen];left,λr hr=>?_,hpos,λr hr=>?_,?_,?_⟩,Kb,λr hr=>?_,λg h hg hh=>?_,hW⟩
 ·obtain⟨c,hc,rfl⟩:=List.mem_map.mp hr;exact V.bu c (hp.mem_iff.mp hc)
 ·obtain⟨c,hc,rfl⟩:=List.mem_map.mp hr;have:=val c hc;exact Dw (by left) (by show _<64;left) (by show _<64;left)
 ·have e:(zj cs ws).map (·.1)=(bj cs).map λc=>Rat.divInt (ws.getD (cs.idxOf c) 0) ws.sum:=by unfold zj;rw[List.map_map];rfl
  rw[e];have e2:((bj cs).map λc=>Rat.divInt (ws.getD (cs.idxOf c) 0) ws.sum).sum=(cs.map λc=>Rat.divInt (ws.getD (cs.idxOf c) 0) ws.sum).sum:=xg (hp.map _);have e3:(cs.map λc=>Rat.divInt (ws.getD (cs.idxOf c) 0) ws.sum)=(cs.map λc=>ws.getD (cs.idxOf c) 0).map λx=>Rat.divInt x ws.sum:=by rw[List.map_map];rfl
  rw[e2,e3,sO V.nd hl,uO _ (by left),Rat.divInt_eq_div];have z:((ws.sum:Int):Rat)≠0:=λz=>by rw[Rat.intCast_eq_zero_iff]at z;left
  grind
 ·have e:(zj cs ws).map (·.2)=bj cs:=by
   unfold zj;rw[List.map_map];exact(aaz λ_ _=>rfl).trans (List.map_id _)
  rw[e];exact lp V.nd
 ·obtain⟨c,hc,rfl⟩:=List.mem_map.mp hr;exact V.sz c (hp.mem_iff.mp hc)
 ·obtain⟨c,hc,c1,c2⟩:=V.all g h hg hh;have hr:(Rat.divInt (ws.getD (cs.idxOf c) 0) ws.sum,c)∈zj cs ws:=by unfold zj;exact aaL (hp.mem_iff.mpr hc)
  have key:∀ l:List Row,(∀ r∈l,0<r.1)->(∃ r∈l,bZ g h r=true)->0<aS l g h:=λl=>by
   induction l with
   | nil=>rintro _ ⟨r,hr,_⟩;cases hr
   | cons r l ih =>
    rintro hp ⟨s,hs,hb⟩;rw[lz];have h0:=(cW (bZ g h) l λx hx=>hp x (aam _ hx)).1;have h0:0<=aS l g h:=h0;have hr:=hp r aao;cases e:bZ g h r with
    | true=>simp only[if_true];grind
    | false =>
     simp only[Bool.false_eq_true,if_false];refine ih (λx hx=>hp x (aam _ hx)) ⟨s,?_,hb⟩;rcases List.mem_cons.mp hs with rfl | hs
     ·rw[e]at hb;cases hb
     ·exact hs
  exact key _ hpos ⟨_,hr,by simp[bZ,c1,c2]⟩
structure K26(Φ:au):Prop where
 cM:dQ (Φ 202)
 kU:dH (Φ 203)
 vx:i_ (Φ 222)
 ac3:Ov (Φ 240)
section
variable (Φ:au)(K:K26 Φ){n:Nat}{rs:List Row}{ws xs:List Rat}(G:Gs 3 n ws xs)(hi:∀ g h,Sm 6 (aS rs g h))(hp:∀ g h:Nat,g<n->h<n->0<aS rs g h)(f3 f4 f5:Fl)(c0 c1 c2 c6 c7 c8 c16 c17:Option D)
include K G hi hp
end
section
variable {k n:Nat}{rs:List Row}(I:Dr k n rs)(hp:∀ g h:Nat,g<n->h<n->0<aS rs g h)
include I hp
end
section
variable {k n A B W:Nat}{rs:List Row}{ws xs:List Rat}(I:Dr k n rs)(hA:0<A)(hx:∀ h:Int,0<=h->h<n->Fm A B (b6 ws h*b6 xs h))
include I hA hx
theorem Kg{r:Row}(hr:r∈rs):Fm A (12*B) (gQ ws xs r):=by
 have hl:=I.bu r hr;have hn:=I.n2;refine XJ hA (by have:=hl.len;left) λh hh=>?_;obtain⟨a,b⟩:=hl.2 h hh;exact hx h a b
theorem II(hl:rs.length<=12)(h0:0<W)(hd:∀ r∈rs,r.1.den∣W):Fm (W*A) (12*(W*(12*B))) (a_ rs ws xs):=by
 have:=Fm.sum (M:=W*A) (B:=W*(12*B)) (qs:=rs.map λr=>r.1*gQ ws xs r) (abp h0 hA) λq hq=>by
  obtain⟨r,hr,rfl⟩:=List.mem_map.mp hq;have:=(Kh I h0 hd hr).mul (Kg I hA hx hr);rw[Nat.one_mul]at this;exact this
 rw[List.length_map]at this;exact this.mono (aaV _ hl)
end
structure LsC(W M Bm Bg dv:Nat):Prop where
 w1:W<64
 m1:M<2 ^ 600
 m2:M*M<2 ^ 600
 m3:W*(M*M)<2 ^ 600
 bm:Bm<2 ^ 600
 bg:Bg<2 ^ 600
 ds:Bg+Bm<=dv
 d1:dv<2 ^ 600
 d2:dv*dv<2 ^ 600
 d3:12*(64*(dv*dv))<2 ^ 600
theorem lsC{A:Nat}(w1:W<64)(hA:A<=2 ^ 120)(hB:B<=2 ^ 130):LsC W (W*A) (12*(W*(12*B))) (W*(12*B)) (13*(64*(12*2 ^ 130))):=by
 have hW:W<=64:=by left
 have a1:W*A<=64*2 ^ 120:=aa6 hW hA;have a2:W*(12*B)<=64*(12*2 ^ 130):=aa6 hW (aaR _ hB);exact⟨w1,aax a1 (by decide +kernel),aax (aa6 a1 a1) (by decide +kernel),aax (aa6 hW (aa6 a1 a1)) (by decide +kernel),aax (aaR _ a2) (by decide +kernel),aax a2 (by decide +kernel),by left,by decide +kernel,by decide +kernel,by decide +kernel⟩
theorem uf(Φ:au)(cM:dQ (Φ 202))(kU:dH (Φ 203))(vx:i_ (Φ 222))(vw:iI (Φ 231))(f g:Fl)(ws xs:List Rat)(n:Nat){W M Bm Bg dv i0 j0:Nat}(L:LsC W M Bm Bg dv)(hn:n<=12)(G:GF i0 j0 n ws xs)(m:Rat)(sm:Fm M Bm m)(c0:Option D):∀(rs:List Row) (acc:Rat) (i:Nat) (c5 c6 c7:Option D),
  (∀ r∈rs,sI n r.2/\Fm W (1*W) r.1/\Fm M Bg (gQ ws xs r))->Fm (W*(M*M)) (i*(64*(dv*dv))) acc->i+rs.length<=12 ->
  ∃ zE tF tE,dO (λd ρ=>bT (.tp [5,6]) d ρ) (λρ=>aT Φ kv ρ) (bJ rs) [c0,some (.lst f (ai ws)),some (.lst g (ai xs)),some (qD m),some (qD acc),c5,c6,c7]=ok (.nx,[c0,some (.lst f (ai ws)),some (.lst g (ai xs)),some (qD m),some (qD (acc+pk rs ws xs m)),zE,tF,tE])
 | [],acc,i,c5,c6,c7,_,_,_=>⟨c5,c6,c7,by simp[pk,bJ,fC,Rat.add_zero]⟩
 | r::rs,acc,i,c5,c6,c7,hm,hs,hi=>by
  rw[List.length_cons]at hi;obtain⟨hl,s1,s2⟩:=hm r aao;have e0:=λf g=>vw f g n r.2 ws xs i0 j0 hl hn G;change ∀ f g,Φ 231 _=ok (qD (gQ ws xs r))at e0;have s3:Fm M dv (gQ ws xs r - m):=(s2.sub sm).mono L.ds;have s4:=s3.mul s3;have s5:Fm (W*(M*M)) (64*(dv*dv)) (r.1*((gQ ws xs r - m)*(gQ ws xs r - m))):=(s1.mul s4).mono (aaV _ (by have:=L.w1;left));have up:∀ {M B q},Fm M B q->M<2 ^ 600->B<2 ^ 600->Sm 4000 q:=λh a b=>(h.sm a b).mono (by decide);have hW:W<2 ^ 600:=aan L.w1 (aau (n:=2) (by decide) (show 6<=600 by decide));have e1:=vx (gQ ws xs r) m (up s2 L.m1 L.bg) (up sm L.m1 L.bm);have e2:=kU _ _ (up s3 L.m1 L.d1) (up s3 L.m1 L.d1);have e3:=kU r.1 _ (up s1 hW (by rw[Nat.one_mul];exact hW)) (up s4 L.m2 L.d2);have wt:64*(dv*dv)<=12*(64*(dv*dv)):=abH _ (by decide);have gU:i*(64*(dv*dv))<2 ^ 600:=aax (aaV _ (show i<=12 by left)) L.d3;have e4:=cM acc _ (up hs L.m3 gU) (up s5 L.m3 (aax wt L.d3));obtain⟨zE,tF,tE,ih⟩:=uf Φ cM kU vx vw f g ws xs n L hn G m sm c0 rs (acc+r.1*((gQ ws xs r - m)*(gQ ws xs r - m))) (i+1) (some (qD r.1)) (some (.tup (aa r.2))) (some (qD (gQ ws xs r - m))) (λx hx=>hm x (aam _ hx)) (by rw[Nat.succ_mul];exact hs.add s5) (by left);refine⟨zE,tF,tE,dt (ρ1:=[c0,some (.lst f (ai ws)),some (.lst g (ai xs)),some (qD m),some (qD acc),some (qD r.1),some (.tup (aa r.2)),c7]) (by simp[rD]) (ρ2:=[c0,some (.lst f (ai ws)),some (.lst g (ai xs)),some (qD m),some (qD (acc+r.1*((gQ ws xs r - m)*(gQ ws xs r - m)))),some (qD r.1),some (.tup (aa r.2)),some (qD (gQ ws xs r - m))]) ?_ ?_⟩
  ·simp[kv,e0,e1,e2,e3,e4]
  ·refine ih.trans ?_;have:pk (r::rs) ws xs m=r.1*((gQ ws xs r - m)*(gQ ws xs r - m))+pk rs ws xs m:=by unfold pk;rw[List.map_cons,List.sum_cons]
   rw[this,Rat.add_assoc]
def se(m:List D->O D):Prop:=∀ n rs f g ws xs i j A B,Dr 6 n rs->tI rs->GF i j n ws xs->0<A->A<=2 ^ 120->B<=2 ^ 130->(∀ h:Int,0<=h->h<n->Fm A B (b6 ws h*b6 xs h))->m [aw n rs,.lst f (ai ws),.lst g (ai xs)]=ok (qD (pk rs ws xs (a_ rs ws xs)))
theorem Lp(Φ:au)(cM:dQ (Φ 202))(kU:dH (Φ 203))(vx:i_ (Φ 222))(vw:iI (Φ 231))(Na:qf (Φ 232)):se (mk Φ 3 8 kL):=by
 intro n rs f g ws xs i j A B I Fi G UC hA hB hx;have z0:D.tup [.int 0,.int 1]=qD 0:=rfl;have hf:=I.ym;obtain⟨W,w0,w1,w2⟩:=Fi;have em:=λf g=>Na n rs f g ws xs i j I G;have sm:=II I UC hx (by left) w0 w2;obtain⟨c5,c6,c7,e⟩:=uf Φ cM kU vx vw f g ws xs n (lsC w1 hA hB) I.n2 G (a_ rs ws xs) sm (some (aw n rs)) rs 0 0 none none none (λr hr=>⟨I.bu r hr,Kh I w0 w2 hr,(Kg I UC hx hr).lift W w0⟩) (by
  rw[Nat.zero_mul];exact Fm.zero (abp w0 (abp (abp w0 UC) (abp w0 UC)))) (by left)
 rw[Rat.zero_add]at e;have m1:aq aC (aw n rs)=aw n rs:=by simp[aw]
 have m2:aq aR (aw n rs)=aw n rs:=by simp[aw]
 have x1:aK Φ (.ix (.v 0) (.int 1)) [some (aw n rs),some (.lst f (ai ws)),some (.lst g (ai xs)),some (qD (a_ rs ws xs)),some (qD 0),none,none,none]=ok (.lst .fz (bJ rs)):=by simp[aw]
 have hit:cA Φ (.seq (.ix (.v 0) (.int 1))) [some (aw n rs),some (.lst f (ai ws)),some (.lst g (ai xs)),some (qD (a_ rs ws xs)),some (qD 0),none,none,none]=ok (bJ rs,[some (aw n rs),some (.lst f (ai ws)),some (.lst g (ai xs)),some (qD (a_ rs ws xs)),some (qD 0),none,none,none]):=by
  rw[yY x1];simp
 have hx:=fN (Φ:=Φ) (t:=.tp [5,6]) (b:=kv) hit e;simp[mk_eq,kL,z0,m1,m2,em,hx]
theorem se.drawn{m:List D->O D}(h:se m){n:Nat}{rs:List Row}(f g:Fl)(I:Dr 6 n rs)(Fi:tI rs)(G:Gs 3 n ws xs):m [aw n rs,.lst f (ai ws),.lst g (ai xs)]=ok (qD (dD rs ws xs)):=by
 rw[<- rM I G];refine h n rs f g ws xs 3 3 gm3 (7*420*(7*420)) I Fi (G.two (by decide)) (by decide) (by decide +kernel) (by decide +kernel) λh a b=>?_;exact(FE (G.s1 _ (bB (qs:=ws) a (by rw[G.l1];exact b)).2)).mul (FE (G.s2 _ (bB (qs:=xs) a (by rw[G.l2];exact b)).2))
theorem Ay{n:Nat}{rs:List Row}{ys:List Rat}(I:Dr 6 n rs)(hw:ws.length=n)(hy:ys.length=n)(sw:∀ q∈ws,Sm 6 q)(sy:∀ q∈ys,Sm 13 q):Sm 2481 (a_ rs ws ys):=by
 have hf:=I.ym;have hn:=I.n2;have h:=Sm.sum (k:=247) (qs:=rs.map λr=>r.1*dN r.2 λh=>b6 ws h*b6 ys h) λq hq=>by
  obtain⟨r,hr,rfl⟩:=List.mem_map.mp hq;have hl:=I.bu r hr;have hlen:=hl.len;have g:=Sm.sum (k:=19) (qs:=r.2.map λh=>b6 ws h*b6 ys h) λq hq=>by
   obtain⟨h,hh,rfl⟩:=List.mem_map.mp hq;obtain⟨a,b⟩:=hl.2 h hh;exact(sw _ (bB (qs:=ws) a (by left)).2).mul (sy _ (bB (qs:=ys) a (by left)).2)
  rw[List.length_map]at g;exact((I.sm r hr).mul g).mono (by left)
 rw[List.length_map]at h;exact h.mono (by left)
noncomputable def qa:List CS:=[.asg (.nm 3) (.call 91 [(.v 0),(.v 1),(.v 2)]),.ret (.call 4 [(.call 52 [(.ix (.v 1) (.int 1))]),(.call 51 [(.v 0),(.ix (.v 1) (.int 0)),(.v 3)])])]
def m9(m:List D->O D):Prop:=∀ n rs ws bs f xs,Dr 6 n rs->Gs 6 n xs bs->Gs 6 n ws xs->m [aw n rs,.tup [.lst .fz (ai ws),.lst .fz (ai bs)],.lst f (ai xs)]=ok (qD (bs.sum+a_ rs ws (subQ xs bs)))
theorem Gs.up{i j n:Nat}(G:Gs i n ws xs)(h:i<=j)(hj:j<=100):Gs j n ws xs:=⟨G.l1,G.l2,λq hq=>(G.s1 q hq).mono h,λq hq=>(G.s2 q hq).mono h,hj⟩
theorem Hs(Φ:au)(h4:dQ (Φ 4))(h51:ja (Φ 51))(h52:lN (Φ 52))(Xh:nc (Φ 91)):m9 (mk Φ 3 4 qa):=by
 intro n rs ws bs f xs I G G';have n1:=I.n1;have n2:=I.n2;have G1:=G.up (j:=10) (by decide) (by decide);have G2:=G'.up (j:=10) (by decide) (by decide);have gs:=Dj G1 G2;have e1:=λf=>Xh 6 n rs ws bs f xs I G'.l1 G1;have e2:=λf g=>h51 6 n rs f g ws (subQ xs bs) 21 I gs;have l2:=G.l2;have e3:=λf=>h52 f bs 6 (by left) (by left) ⟨G.s2,by left,by left⟩;have s1:=Sm.sum G.s2;have s2:=Ay I G'.l1 gs.l2 G'.s1 λq hq=>by
  unfold subQ at hq;obtain⟨p,hp,rfl⟩:=List.mem_map.mp hq;have m:=aaN hp;exact(G.s1 _ m.1).sub (G.s2 _ m.2)
 have e4:=h4 bs.sum _ (s1.mono (by rw[l2];left)) (s2.mono (by decide));have m1:aq aC (aw n rs)=aw n rs:=by simp[aw]
 have m2:aq aR (aw n rs)=aw n rs:=by simp[aw]
 simp[mk_eq,qa,m1,m2,e1,e2,e3,e4]
noncomputable def uL:List CS:=[.asg (.nm 1) (.call 202 [(.v 1),(.v 2)])]
def v5:List CS:=[.asg (.nm 1) (.tup [(.int 0),(.int 1)]),.fr (.nm 2) (.seq (.v 0)) uL,.ret (.v 1)]
def r_(m:List D->O D):Prop:=∀ qs,(∀ q∈qs,Sm 6 q)->qs.length<=12->m [.lst .fz (ai qs)]=ok (qD qs.sum)
theorem ue(Φ:au)(cM:dQ (Φ 202))(a0:Option D):∀(qs:List Rat) (acc:Rat) (i:Nat) (c:Option D),(∀ q∈qs,Sm 6 q)->Sm (1+7*i) acc->i+qs.length<=12 ->
  ∃ c',dO (λd ρ=>bT (.nm 2) d ρ) (λρ=>aT Φ uL ρ) (ai qs) [a0,some (qD acc),c]=ok (.nx,[a0,some (qD (acc+qs.sum)),c'])
 | [],acc,i,c,_,_,_=>⟨c,by simp[fC,Rat.add_zero]⟩
 | q::qs,acc,i,c,hm,hs,hi=>by
  rw[List.length_cons]at hi;have s1:=hm q aao;have e:=cM acc q (hs.mono (by left)) (s1.mono (by decide));obtain⟨c',ih⟩:=ue Φ cM a0 qs (acc+q) (i+1) (some (qD q)) (λx hx=>hm x (aam _ hx)) ((hs.add s1).mono (by left)) (by left);refine⟨c',dt (ρ1:=[a0,some (qD acc),some (qD q)]) (by simp) (ρ2:=[a0,some (qD (acc+q)),some (qD q)]) ?_ ?_⟩
  ·simp[uL,e]
  ·exact ih.trans (by rw[List.sum_cons,Rat.add_assoc])
theorem Lo(Φ:au)(cM:dQ (Φ 202)):r_ (mk Φ 1 3 v5):=by
 intro qs hq hl;have z0:D.tup [.int 0,.int 1]=qD 0:=rfl;obtain⟨c,e⟩:=ue Φ cM (some (.lst .fz (ai qs))) qs 0 0 none hq (by constructor<;>decide) (by left);rw[Rat.zero_add]at e;have hit:cA Φ (.seq (.v 0)) [some (.lst .fz (ai qs)),some (qD 0),none]=ok (ai qs,[some (.lst .fz (ai qs)),some (qD 0),none]):=by
  rw[yY (f:=.fz) (ds:=ai qs) (by simp)];simp
 have hx:=fN (Φ:=Φ) (t:=.nm 2) (b:=uL) hit e;simp[mk_eq,v5,z0,hx]
noncomputable def N4:CE:=.comp 1 (.nm 0) [] .seq [(.call 233 [(.v 0)])] [(.cmp .eq (.ix (.v 0) (.int 0)) (.int 0))] (.v 0)
def Js:List CS:=[.ret (.cmp .eq (.bf .len [N4]) (.int 0))]
def Ox(m:List D->O D):Prop:=∀ n rs,Dr 6 n rs->m [aw n rs]=ok (.bl (decide ((dE n rs).filter (λq=>decide (q=0))=[])))
theorem VA(Φ:au)(M_:kR (Φ 233)):Ox (mk Φ 1 1 Js):=by
 intro n rs I;have hn:=I.n2;have hl:=zX n rs;have e1:=M_ n rs I;have m1:aq aC (aw n rs)=aw n rs:=by simp[aw]
 have m2:aq aR (aw n rs)=aw n rs:=by simp[aw]
 have k1:aK Φ N4 [some (aw n rs)]=ok (.lst .ow (ai ((dE n rs).filter λq=>decide (q=0)))):=by
  unfold N4;rw[bo (xs:=[.lst .ow (ai (dE n rs))]) (items:=ai (dE n rs)) (ds:=((dE n rs).filter λq=>decide (q=0)).map qD) (by simp[m1,m2,e1]) (by rw[df,fS]) (gG λq hq=>⟨[some (qD q)],by simp[aM],?_,λ_=>by simp⟩) (by
   have:=List.length_filter_le (λq=>decide (q=0)) (dE n rs);simp only[List.length_map];exact aX (by left))]
  ·show ok (D.lst .ow (ag mP (ai _)))=_;rw[fS]
  ·have e4:qD q=.tup [.int q.num,.int q.den]:=rfl;have e5:dG .eq (.int q.num) (.int 0)=ok (.bl (decide (q=0))):=by
    rw[zC rfl rfl];show ok (D.bl (q.num==0))=_;have:(q.num==0)=decide (q=0):=by
     rw[show(q.num==0)=decide (q.num=0) from rfl];exact decide_eq_decide.mpr Rat.num_eq_zero
    rw[this]
   rw[e4];simp[e5]
 have hz:dG .eq (.int (((dE n rs).filter λq=>decide (q=0)).length:Int)) (.int 0)=ok (.bl (decide ((dE n rs).filter (λq=>decide (q=0))=[]))):=by
  rw[zC rfl rfl];show ok (D.bl ((((dE n rs).filter λq=>decide (q=0)).length:Int)==0))=_;generalize (dE n rs).filter (λq=>decide (q=0))=l;cases l with
  | nil=>rfl
  | cons x l =>
   have:(((x::l).length:Int)==0)=false:=by rw[beq_eq_false_iff_ne,List.length_cons];left
   rw[this];rfl
 simp[mk_eq,Js,m1,m2,k1,hz]
noncomputable def vD:CE:=.comp 1 (.nm 0) [] .seq [(.call 233 [(.v 0)])] [] (.call 201 [(.ix (.v 0) (.int 1)),(.ix (.v 0) (.int 0))])
def v7:List CS:=[.ret vD]
def sf(m:List D->O D):Prop:=∀ n rs,Dr 6 n rs->(∀ q∈dE n rs,0<q)->(∀ q∈dE n rs,Sm 61 q)->m [aw n rs]=ok (.lst .ow (ai ((dE n rs).map λq=>1 / q)))
theorem DF(Φ:au)(xK:gL (Φ 201))(M_:kR (Φ 233)):sf (mk Φ 1 1 v7):=by
 intro n rs I hp hs;have hn:=I.n2;have hl:=zX n rs;have e1:=M_ n rs I;have m1:aq aC (aw n rs)=aw n rs:=by simp[aw]
 have m2:aq aR (aw n rs)=aw n rs:=by simp[aw]
 have k1:aK Φ vD [some (aw n rs)]=ok (.lst .ow (ai ((dE n rs).map λq=>1 / q))):=by
  unfold vD;rw[bo (xs:=[.lst .ow (ai (dE n rs))]) (items:=ai (dE n rs)) (ds:=(dE n rs).map λq=>qD (1 / q)) (by simp[m1,m2,e1]) (by rw[df,fS]) (aU λq hq=>⟨[some (qD q)],by simp[aM],by simp,?_⟩) (by simp only[List.length_map];exact aX (by left))]
  ·have:((dE n rs).map λq=>qD (1 / q))=ai ((dE n rs).map λq=>1 / q):=by unfold ai;rw[List.map_map];rfl
   rw[this,fS]
  ·have e4:qD q=.tup [.int q.num,.int q.den]:=rfl;have OX:=nH (hp q hq);have e:=xK q.den q.num (by left) (aan (hs q hq).1 (aau (by decide) (by decide)));have ev:Rat.divInt q.den q.num=1 / q:=by
    rw[Rat.divInt_eq_div,Rat.intCast_natCast];have h1:=DT q;have h0:q≠0:=λz=>by rw[z]at OX;exact absurd OX (by decide)
    have h2:(q.den:Rat)≠0:=Em q.den_pos;rw[h1];grind
   rw[ev]at e;rw[e4];simp[e]
 simp[mk_eq,v7,Gr Φ vD _ rfl,k1]
end DI
end
section
namespace DI
open PySem PySem.Spec PyProof.Rows L2
noncomputable def Df(K:PySem.W.Frag)(x:Str)(st:Stmt):Prop:=∃ f fd,Bn K x x st f fd/\PySem.W.nsIn K mainGlobals x=some (some (.ref f))
variable {K:PySem.W.Frag}
theorem dmk{x:Str}{st:Stmt}{f:Addr}{oc:Value}{od an:Option Addr}{sl:Array (Option Value)}{kV dc pm cd ct:Value}(a:PySem.W.nsIn K mainGlobals x=some (some (.ref f)))(l:K.lookup f=some ⟨oc,od,.func (PySem.W.fnOf x x (eh st) (aE st) (ae st) .none kV dc pm an cd ct),sl⟩)(c:PySem.W.codeIn K cd x=true)(k:PySem.W.keepIn K (.ref f)=true):Df K x st:=⟨f,_,Nk l c k,a⟩
noncomputable def IG(N P:List Str)(sc:Scope):Bool:=decide (sc.kind=.function)&&(!sc.isCoroutine&&(!sc.isGenerator&&(decide N.Nodup&&(decide (N.take P.length=P)&&(P.all (λx=>decide (sc.names.lookup x=some .local\/sc.names.lookup x=some .cell))&&sc.names.all λy=>decide (y.2≠.free))))))
theorem xM{N P:List Str}{sc:Scope}(h:IG N P sc=true):dJ N P sc:=by
 obtain⟨h1,h⟩:=aj h;obtain⟨h2,h⟩:=aj h;obtain⟨h3,h⟩:=aj h;obtain⟨h4,h⟩:=aj h;obtain⟨h5,h⟩:=aj h;obtain⟨h6,h7⟩:=aj h;exact⟨aak h1,jV h2,jV h3,aak h4,aak h5,λx hx=>aak (List.all_eq_true.mp h6 x hx),λy hy=>aak (List.all_eq_true.mp h7 y hy)⟩
def dP(st:Stmt)(N ps:List Str)(tb:List (Nat×Str))(bl:List Str)(cs:List (Str×GK))(px:Px)(b:List CS):Bool:=IG N ps (ae st)&&cE ⟨ae st,N,λn=>List.lookup n tb,bl,cs,px⟩ b (aE st)
theorem u1{α:Type}{P:List α->Prop}(h:∀ a,P [a])(us:List α)(e:us.length=1):P us:=by obtain⟨a,rfl⟩:=Rp e;exact h a
theorem u2{α:Type}{P:List α->Prop}(h:∀ a b,P [a,b])(us:List α)(e:us.length=2):P us:=by obtain⟨a,b,rfl⟩:=Ro e;exact h a b
theorem u3{α:Type}{P:List α->Prop}(h:∀ a b c,P [a,b,c])(us:List α)(e:us.length=3):P us:=by obtain⟨a,b,c,rfl⟩:=Rn e;exact h a b c
theorem u4{α:Type}{P:List α->Prop}(h:∀ a b c d,P [a,b,c,d])(us:List α)(e:us.length=4):P us:=by obtain⟨a,b,c,d,rfl⟩:=V9 e;exact h a b c d
theorem u5{α:Type}{P:List α->Prop}(h:∀ a b c d e,P [a,b,c,d,e])(us:List α)(e:us.length=5):P us:=by
 match us,e with
 | [a,b,c,d,e],_=>exact h a b c d e
variable {P:Program}{base:Heap}{k':Nat}{mg:Str->Option Value}{w:World}
theorem Ent.u{k:Nat}{y:Str}{m:List D->O D}(h:Ent P w K mg base k y m)(hk:k<=k':=by decide):Ent P w K mg base k' y m:=h.up hk
theorem en{P:Program}{w:World}{K:PySem.W.Frag}{h base:Heap}{mg:Str->Option Value}(X:K.In h)(G:h.Ns mainGlobals mg)⦃x:Str⦄⦃st:Stmt⦄⦃N ps bl:List Str⦄⦃tb:List (Nat×Str)⦄⦃cs:List (Str×GK)⦄⦃px:Px⦄⦃b:List CS⦄(k:Nat)(Φ:au)(m:List D->O D)(d:Df K x st)(hc:dP st N ps tb bl cs px b=true)
  (hp:ng px Φ/\Bl px Φ) (sF:bS (λy=>mg y=none) bl) (nr:bS (λp:Str×GK=>∃ u,mg p.1=some u/\wo K p.2 u) cs)
  (hf:bS (λp:Nat×Str=>Ent P w K mg base k p.2 (Φ p.1)) tb) (hm:∀ ds r,m ds=ok r->ds.length=ps.length/\BL Φ N.length b ds=ok r) (hb:∀(kV doc pm:Value) (an:Option Addr) (gW ct:Value) (us:List Value),us.length=ps.length->bindArgs (PySem.W.fnOf x x (eh st) (aE st) (ae st) .none kV doc pm an gW ct) ⟨us,[]⟩=pure (ps.zip us):=by first | exact λ_ _ _ _ _ _=>u1 λ_=>rfl | exact λ_ _ _ _ _ _=>u2 λ_ _=>rfl | exact λ_ _ _ _ _ _=>u3 λ_ _ _=>rfl | exact λ_ _ _ _ _ _=>u4 λ_ _ _ _=>rfl | exact λ_ _ _ _ _ _=>u5 λ_ _ _ _ _=>rfl):Ent P w K mg base (k+1) x m:=by
 obtain⟨f,fd,Fu,a⟩:=d;obtain⟨h1,h2⟩:=aj hc;exact ent Fu (aaY X G a) (Fu.binds hb) (xM h1) h2 hp.1 hp.2 (bS.mem sF) (bS.two (P:=λy i=>∃ u,mg y=some u/\wo K i u) nr) (bS.tab (P:=λg y=>Ent P w K mg base k y (Φ g)) hf) hm
variable {B C:Addr}
theorem l6.up{k:Nat}{y:Str}{mr:List D->Prop}(h:l6 P w K mg base k C y mr)(hk:k<=k'):l6 P w K mg base k' C y mr:=by
 obtain⟨f,fd,ps,h1,h2⟩:=h.ex;exact⟨f,fd,ps,h1.mono hk,h2⟩
theorem l6.u{k:Nat}{y:Str}{mr:List D->Prop}(h:l6 P w K mg base k C y mr)(hk:k<=k':=by decide):l6 P w K mg base k' C y mr:=h.up hk
theorem BO{h:Heap}(X:K.In h)(q:PySem.W.excIn K C KO "ValueError.__new__" = true)(m:PySem.W.mroIn K C (.ref B)=some true)(ne:C≠B):sk C B h:=by
 obtain⟨dd,nm,bs,bm,ns,qn,hd,sn,sub,ab,col,k0,k1,k2,k3,k5,ho,_,_,_⟩:=AV q;refine⟨_,_,_,_,_,_,_,_,_,_,_,_,_,_,_,_,_,X _ _ ho,?_⟩;unfold PySem.W.mroIn PySem.W.clsIn at m;rw[ho]at m;have m:some ((Value.ref C::bm).contains (.ref B))=some true:=m;have m:=aaA m;rw[List.contains_cons,Bool.or_eq_true]at m;rcases m with m | m
 ·have:=beq_iff_eq.mp m;cases this;exact absurd rfl ne
 ·exact m
section
variable {P:Program}{w:World}{K:PySem.W.Frag}{h base:Heap}{mg:Str->Option Value}(X:K.In h)(G:h.Ns mainGlobals mg){C:Addr}⦃x:Str⦄⦃st:Stmt⦄⦃N ps bl:List Str⦄⦃tb:List (Nat×Str)⦄⦃cs:List (Str×GK)⦄⦃px:Px⦄
include X G
noncomputable def UO(y:Str):Str->Option Bool:=λx=>if x=y then some true else none
def Y7(sc:Scope)(N:List Str)(share y ex kept:Str)(i j:Nat):Bool:=(fV sc share&&!(share==("__debug__" : Str)))&&((fV sc y&&!(y==("__debug__" : Str)))&&(fV sc "isinstance" && (decide (N[i]?=some ex)&&(decide (N[j]?=some kept)&&(decide (kept≠ex)&&(decide (sc.names.lookup ex=some .local)&&(decide (sc.names.lookup kept=some .local)&&(FY ex&&FY kept))))))))
end
noncomputable def DL(Φ:au)(i:Nat)(e:CE)(ρ:aD):O D:=match uZ ρ[i]? with
 | some ds=>if av anyF ds=false then bd (aK Φ e ρ) (λd=>match uZ (some (some d))with
  | some es=>if av anyF es=false then ok (.tup [.lst .ow ds,.lst .ow es])else none
  | none=>none)else none
 | none=>none
noncomputable def XZ(Φ:au)(i:Nat)(e:CE):Fo×aD->O D
 | (.nx,ρ)=>DL Φ i e ρ
 | (.rt d,_)=>ok d
 | _=>none
noncomputable def OH(Φ:au)(a n:Nat)(pre:List CS)(i:Nat)(e:CE)(ds:List D):O D:=if ds.length=a then bd (aT Φ pre (ds.map some++List.replicate (n - ds.length) none)) (XZ Φ i e)else none
variable {Φ:au}
theorem Av{a n:Nat}{pre:List CS}{i:Nat}{e:CE}(ds:List D)(r:D)(h:OH Φ a n pre i e ds=ok r):ds.length=a/\∃ fo,aT Φ pre (ds.map some++List.replicate (n - ds.length) none)=ok fo/\o3 (T2 Φ i e) r fo:=by
 unfold OH at h;split at h
 ·rename_i hl;obtain⟨⟨f,ρ⟩,e1,h⟩:=af h;refine⟨hl,(f,ρ),e1,?_⟩;cases f with
  | nx =>
   have h:DL Φ i e ρ=ok r:=h;unfold DL at h;cases q:uZ ρ[i]? with
   | none=>rw[q]at h;exact nk h
   | some es =>
    rw[q]at h;replace h:(if av anyF es=false then _ else none)=ok r:=h;split at h
    ·rename_i ha;obtain⟨d,ed,h⟩:=af h;cases q2:uZ (some (some d))with
     | none=>rw[q2]at h;exact nk h
     | some fs =>
      rw[q2]at h;obtain⟨hb,rfl⟩:=wq h;have:=uY q2;cases this;exact⟨es,fs,uY q,ha,ed,hb,rfl⟩
    ·cases h
  | bk=>cases h
  | ct=>cases h
  | rt d=>cases h;rfl
 ·cases h
noncomputable def TT(Φ:au)(Ψ:Nat->List D->Prop)(n j:Nat)(c:CS)(ρ:aD)(r:D):Prop:=r=.bl true/\j<ρ.length/\CU Φ Ψ n c (ρ.set j (some .bh))
theorem Ew{n:Nat}{pre:List CS}{T:aD->D->Prop}(h:∀ ns:List Int,ns.length<=63->∃ fo,aT Φ pre (some (D.lst .sc (ns.map D.int))::List.replicate n none)=ok fo/\o3 T (.bl true) fo):∀ ds r,ve ds=ok r->ds.length=1/\∃ fo,aT Φ pre (ds.map some++List.replicate (n+1 - ds.length) none)=ok fo/\o3 T r fo:=by
 intro ds r e
 match ds,e with
 | [.lst .sc ds],e =>
  simp only[ve]at e;split at e
  ·rename_i ns CO;split at e
   ·rename_i hl;cases e;obtain rfl:=xi CO;exact⟨rfl,h ns hl⟩
   ·cases e
  ·cases e
variable {ce:List CE}{cpos np p1 pos rp:Pos}{tr:List Stmt}
section
variable {P:Program}{w:World}{K:PySem.W.Frag}{h base:Heap}{mg:Str->Option Value}{C:Addr}⦃x:Str⦄⦃st:Stmt⦄⦃N ps bl:List Str⦄⦃tb:List (Nat×Str)⦄⦃cs:List (Str×GK)⦄⦃px:Px⦄
theorem en2(X:K.In h)(G:h.Ns mainGlobals mg){pre:List CS}{e:CE}{y:Str}{v2:Expr}{nn:Nat}(k t i:Nat)(Φ:au)(d:Df K x st)(ML:IG N ps (ae st)=true)
  (xu:(aE st).drop t=[.Return (some (.Tuple [.Name y p1,v2] nn pos)) rp]/\(cE ⟨ae st,N,λn=>List.lookup n tb,bl,cs,px⟩ pre ((aE st).take t)&&(lL ⟨ae st,N,λn=>List.lookup n tb,bl,cs,px⟩ i (.Name y p1)&&(lB y&&br ⟨ae st,N,λn=>List.lookup n tb,bl,cs,px⟩ e v2)))=true)
  (hp:ng px Φ/\Bl px Φ) (sF:bS (λy=>mg y=none) bl) (nr:bS (λp:Str×GK=>∃ u,mg p.1=some u/\wo K p.2 u) cs)
  (hf:bS (λp:Nat×Str=>Ent P w K mg base k p.2 (Φ p.1)) tb) (hb:∀(kV doc pm:Value) (an:Option Addr) (gW ct:Value) (us:List Value),us.length=ps.length->bindArgs (PySem.W.fnOf x x (eh st) (aE st) (ae st) .none kV doc pm an gW ct) ⟨us,[]⟩=pure (ps.zip us):=by first | exact λ_ _ _ _ _ _=>u1 λ_=>rfl | exact λ_ _ _ _ _ _=>u2 λ_ _=>rfl | exact λ_ _ _ _ _ _=>u3 λ_ _ _=>rfl | exact λ_ _ _ _ _ _=>u4 λ_ _ _ _=>rfl | exact λ_ _ _ _ _ _=>u5 λ_ _ _ _ _=>rfl):Ent P w K mg base (k+1) x (OH Φ ps.length N.length pre i e):=by
 obtain⟨f,fd,Fu,a⟩:=d;obtain⟨s1,s2⟩:=xu;obtain⟨s2,s3⟩:=aj s2;obtain⟨s3,s4⟩:=aj s3;obtain⟨s4,s5⟩:=aj s4;exact⟨f,fd,ps,Ag (T:=T2 Φ i e) Fu (xM ML) ((abm t (aE st)).symm.trans (by rw[s1])) s2 hp.1 hp.2 (bS.mem sF) (bS.two (P:=λy i=>∃ u,mg y=some u/\wo K i u) nr) (bS.tab (P:=λg y=>Ent P w K mg base k y (Φ g)) hf) (λX F L _ _ _ _ _ _ _=>HB L s3 s4 s5) Av,aaY X G a,Fu.kp,Fu.binds hb,λds r q=>(Av ds r q).1⟩
theorem X0{f:Addr}{fd:FuncData}{share ex kept y:Str}(hO:tH share B mg base)(OS:sk C B base)(xc:XC K C)(ni:mg "isinstance" = none)(hy:mg y=some (.ref C))(vC:PySem.W.kitOne K (.ref C) (.ref C)=some true){pre:List CS}{Qn:Stmt}{ie:Expr}{j1:Nat}{q1 q2 q3 p2 p3 hpos:Pos}{g:Nat}(n i j t k:Nat)(Φ:au)(Ψ:Nat->List D->Prop)(m:List D->O D)(Fu:Bn K x x st f fd)(ML:IG N ps (ae st)=true)(hn:Y7 (ae st) N share y ex kept i j=true)
  (xu:(aE st).drop t=[.Assign [.Name kept q1] (.Constant .none j1 q2) q3,.Try [Qn] [.ExceptHandler (some (.Name share np)) (some ex) [.Assign [.Name kept p1] (.Name ex p2) p3] hpos] [] [] pos,.Return (some ie) rp]/\F1 ⟨ae st,N,λn=>List.lookup n tb,bl,cs,px⟩ (.ex (.call g ce)) Qn=true/\Io kept (UO y) ie=some true) (B6:cE ⟨ae st,N,λn=>List.lookup n tb,bl,cs,px⟩ pre ((aE st).take t)=true)
  (hp:ng px Φ/\Bl px Φ) (sF:bS (λy=>mg y=none) bl) (nr:bS (λp:Str×GK=>∃ u,mg p.1=some u/\wo K p.2 u) cs)
  (hf:bS (λp:Nat×Str=>Ent P w K mg base k p.2 (Φ p.1)) tb) (hfe:bS (λp:Nat×Str=>(∃ ds,Ψ p.1 ds)->l6 P w K mg base k C p.2 (Ψ p.1)) tb)
  (hm:∀ ds r,m ds=ok r->ds.length=ps.length/\∃ fo,aT Φ pre (ds.map some++List.replicate (N.length - ds.length) none)=ok fo/\o3 (TT Φ Ψ n j (.ex (.call g ce))) r fo):eT P w K mg base Bq (k+1) f fd ps (Gq K ps.length m):=by
 obtain⟨s1,s2,s3⟩:=xu;obtain⟨n1,hn⟩:=aj hn;obtain⟨n2,hn⟩:=aj hn;obtain⟨n3,hn⟩:=aj hn;obtain⟨n4,hn⟩:=aj hn;obtain⟨n5,hn⟩:=aj hn;obtain⟨n6,hn⟩:=aj hn;obtain⟨n7,hn⟩:=aj hn;obtain⟨n8,hn⟩:=aj hn;obtain⟨n9,n10⟩:=aj hn;obtain⟨n2,n2'⟩:=aj n2;obtain⟨n1,n1'⟩:=aj n1;refine Ag (T:=TT Φ Ψ n j (.ex (.call g ce))) Fu (xM ML) ((abm t (aE st)).symm.trans (by rw[s1])) B6 hp.1 hp.2 (bS.mem sF) (bS.two (P:=λy i=>∃ u,mg y=some u/\wo K i u) nr) (bS.tab (P:=λg y=>Ent P w K mg base k y (Φ g)) hf) (λX F L e1 e2 e3 e4 e5 e6 e7=>?_) hm;subst e1 e2 e3 e4 e5;have Z:Tz X C (UO y):=⟨xc,L.gl n3,ni,λz b hz p=>by
  unfold UO at hz;split at hz
  ·rename_i e;subst e;cases hz;exact⟨.ref C,.ref C,uW (L.gl n2) hy rfl (jV n2'),λu z=>z,vC⟩
  ·cases hz⟩
 have lx:X.env.scope.names.lookup ex=some .local:=by rw[L.sc];exact aak n7
 have lk:X.env.scope.names.lookup kept=some .local:=by rw[L.sc];exact aak n8
 have T:=G_ (X:=X) (F:=F) (n:=n) (Ψ:=Ψ) L.toLk e6 e7 hO OS (L.gl n1) (jV n1') (i:=i) (j:=j) (by rw[L.N];exact aak n4) (by rw[L.N];exact aak n5) (aak n6) lx lk n9 n10 (bS.tab (P:=λg y=>(∃ ds,Ψ g ds)->l6 X.prog X.w X.K X.mg X.base k C y (Ψ g)) hfe) (λX' L' hx fe=>SV L' hx fe s2) Z s3 (j1:=j1) (q1:=q1) (q2:=q2) (q3:=q3) (np:=np) (p1:=p1) (p2:=p2) (p3:=p3) (hpos:=hpos) (pos:=pos) (rp:=rp);refine g9.imp T λE σ H hq=>?_;obtain⟨R,τ,ρ,r,Si,⟨rfl,hj,her⟩,hq⟩:=hq;exact⟨R,τ,ρ,Si,hj,her,λH' s'=>hq (.bl true) H' s' ⟨λ_=>none,λ_ _ h=>by simp at h,.bl true⟩⟩
theorem X1(X:K.In h)(G:h.Ns mainGlobals mg){y:Str}(O:tH y C mg base){mr:List D->Prop}{pre:List CS}{c:CE}{te:Expr}{m:Str}{j n:Nat}{p ip:Pos}(k t:Nat)(Φ:au)(d:Df K x st)(ML:IG N ps (ae st)=true)(hn:N.length=ps.length+n)
  (xu:(aE st).drop t=.If te [.Raise (some (.Call (.Name y np) [.Constant (.str m) j p] [] cpos)) none rp] [] ip::tr/\(cE ⟨ae st,N,λn=>List.lookup n tb,bl,cs,px⟩ pre ((aE st).take t)&&(br ⟨ae st,N,λn=>List.lookup n tb,bl,cs,px⟩ c te&&(fV (ae st) y&&!(y==("__debug__" : Str)))))=true)
  (hp:ng px Φ/\Bl px Φ) (sF:bS (λy=>mg y=none) bl) (nr:bS (λp:Str×GK=>∃ u,mg p.1=some u/\wo K p.2 u) cs) (hf:bS (λp:Nat×Str=>Ent P w K mg base k p.2 (Φ p.1)) tb)
  (hm:oJ Φ ps.length n mr pre (λρ=>sG Φ c ρ=ok true)) (hb:∀(kV doc pm:Value) (an:Option Addr) (gW ct:Value) (us:List Value),us.length=ps.length->bindArgs (PySem.W.fnOf x x (eh st) (aE st) (ae st) .none kV doc pm an gW ct) ⟨us,[]⟩=pure (ps.zip us):=by first | exact λ_ _ _ _ _ _=>u1 λ_=>rfl | exact λ_ _ _ _ _ _=>u2 λ_ _=>rfl | exact λ_ _ _ _ _ _=>u3 λ_ _ _=>rfl | exact λ_ _ _ _ _ _=>u4 λ_ _ _ _=>rfl | exact λ_ _ _ _ _ _=>u5 λ_ _ _ _ _=>rfl):l6 P w K mg base (k+1) C x mr:=by
 obtain⟨f,fd,Fu,a⟩:=d;obtain⟨s1,s2⟩:=xu;obtain⟨s2,s3⟩:=aj s2;obtain⟨s3,s4⟩:=aj s3;exact⟨f,fd,ps,NP Fu (xM ML) hn hp.1 hp.2 (bS.mem sF) (bS.two (P:=λy i=>∃ u,mg y=some u/\wo K i u) nr) (bS.tab (P:=λg y=>Ent P w K mg base k y (Φ g)) hf) ((abm t (aE st)).symm.trans (by rw[s1])) s2 s3 s4 O hm,aaY X G a,Fu.kp,Fu.binds hb,λds q=>(hm ds q).1⟩
theorem S8(X:K.In h)(G:h.Ns mainGlobals mg){g y:Str}{mr mr':List D->Prop}{pre:List CS}{e:Expr}{es:List Expr}{i n:Nat}{p:Pos}(k t a':Nat)(Φ:au)(d:Df K x st)(ML:IG N ps (ae st)=true)(hn:N.length=ps.length+n)
  (xu:(aE st).drop t=.Assign [.Name y p] (.Call (.Name g np) (e::es) [] cpos) rp::tr/\(cE ⟨ae st,N,λn=>List.lookup n tb,bl,cs,px⟩ pre ((aE st).take t)&&(bc ⟨ae st,N,λn=>List.lookup n tb,bl,cs,px⟩ ce (e::es)&&((fV (ae st) g&&!(g==("__debug__" : Str)))&&(decide (N[i]?=some y)&&decide ((ae st).names.lookup y=some .local)))))=true)
  (hp:ng px Φ/\Bl px Φ) (sF:bS (λy=>mg y=none) bl) (nr:bS (λp:Str×GK=>∃ u,mg p.1=some u/\wo K p.2 u) cs) (hf:bS (λp:Nat×Str=>Ent P w K mg base k p.2 (Φ p.1)) tb) (hX:l6 P w K mg base k C g mr') (ha:∀ ds,mr' ds->ds.length=a')
  (hm:(∃ ds,mr' ds)->oJ Φ ps.length n mr pre (Jr Φ ce mr' a')) (AI:∀ ds,mr ds->ds.length=ps.length/\∃ ds,mr' ds) (hb:∀(kV doc pm:Value) (an:Option Addr) (gW ct:Value) (us:List Value),us.length=ps.length->bindArgs (PySem.W.fnOf x x (eh st) (aE st) (ae st) .none kV doc pm an gW ct) ⟨us,[]⟩=pure (ps.zip us):=by first | exact λ_ _ _ _ _ _=>u1 λ_=>rfl | exact λ_ _ _ _ _ _=>u2 λ_ _=>rfl | exact λ_ _ _ _ _ _=>u3 λ_ _ _=>rfl | exact λ_ _ _ _ _ _=>u4 λ_ _ _ _=>rfl | exact λ_ _ _ _ _ _=>u5 λ_ _ _ _ _=>rfl):l6 P w K mg base (k+1) C x mr:=by
 obtain⟨f,fd,Fu,a⟩:=d;obtain⟨s1,s2⟩:=xu;obtain⟨s2,s3⟩:=aj s2;obtain⟨s3,s4⟩:=aj s3;obtain⟨s4,s5⟩:=aj s4;obtain⟨s5,s6⟩:=aj s5;obtain⟨f',IJ,Af,F',hg,hk,xG,hl⟩:=hX.ex;by_cases hE:∃ ds,mr' ds
 ·obtain⟨ds0,h0⟩:=id hE;have el:Af.length=a':=(hl _ h0).symm.trans (ha _ h0);subst el;exact⟨f,fd,ps,IP Fu (xM ML) hn hp.1 hp.2 (bS.mem sF) (bS.two (P:=λy i=>∃ u,mg y=some u/\wo K i u) nr) (bS.tab (P:=λg y=>Ent P w K mg base k y (Φ g)) hf) s3 F' s4 hg hk xG ((abm t (aE st)).symm.trans (by rw[s1])) (aak s5) (aak s6) s2 (hm hE),aaY X G a,Fu.kp,Fu.binds hb,λds q=>(AI ds q).1⟩
 ·exact⟨f,fd,ps,⟨λvs H Q E ⟨_,_,h,_⟩=>h,λA outer s H args us vs Q E _ _ _ _ ⟨_,ds,_,_,WT,_⟩=>absurd (AI ds WT).2 hE⟩,aaY X G a,Fu.kp,Fu.binds hb,λds q=>(AI ds q).1⟩
end
end DI
end
section
namespace DI
open PySem (Str)
noncomputable def t_:List CS:=[.asg (.nm 2) (.call 94 [(.v 0)]),.ex (.call 47 [(.v 1),(.ix (.v 0) (.int 0))])]
def l9(n:Nat)(rs:List Row):List Rat:=(dE n rs).map CH
def oo(m:List D->O D):Prop:=∀ k n rs f xs,Dr k n rs->(∀ q∈dE n rs,0<q)->xs.length=n->m [aw n rs,.lst f (ai xs)]=ok (.tup [.lst .ow (ai (l9 n rs)),.lst .ow (ai xs)])
theorem BF(Φ:au)(IE:eD 4 jJ (Φ 47))(h94:zI (Φ 94)):oo (OH Φ 2 3 t_ 2 (.bf .list1 [(.v 1)])):=by
 intro k n rs f xs I hp hx;have hn:=I.n2;have e1:=h94 k n rs I hp;have e3:=λf=>IE (.lst f (ai xs)) n (by show(ai xs).length<=1000000;simp;left);simp only[i8,hx,decide_true,if_true]at e3;have m1:aq aC (aw n rs)=aw n rs:=by simp[aw]
 have m2:aq aR (aw n rs)=aw n rs:=by simp[aw]
 have hd:aw n rs=.tup [.int n,.lst .fz (bJ rs)]:=rfl;have x0:vm (aw n rs) (.int 0)=ok (.int n):=by rw[hd];simp
 have ea:aT Φ t_ [some (aw n rs),some (.lst f (ai xs)),none]=ok (.nx,[some (aw n rs),some (.lst f (ai xs)),some (.lst .ow (ai (l9 n rs)))]):=by
  simp[t_,m1,m2,x0,e1,e3,l9]
 have eb:aK Φ (.bf .list1 [(.v 1)]) [some (aw n rs),some (.lst f (ai xs)),some (.lst .ow (ai (l9 n rs)))]=ok (.lst .ow (ai xs)):=by simp
 unfold OH;rw[if_pos (show[aw n rs,.lst f (ai xs)].length=2 from rfl)];show bd (aT Φ t_ [some (aw n rs),some (.lst f (ai xs)),none]) _=_;rw[ea];show DL Φ 2 _ [some (aw n rs),some (.lst f (ai xs)),some (.lst .ow (ai (l9 n rs)))]=_;unfold DL;show(if av anyF (ai (l9 n rs))=false then bd (aK Φ (.bf .list1 [(.v 1)]) [some (aw n rs),some (.lst f (ai xs)),some (.lst .ow (ai (l9 n rs)))]) _ else none)=_;rw[if_pos (xH ..),eb];show(if av anyF (ai xs)=false then _ else none)=_;rw[if_pos (xH ..)]
def Oq(ds:List D):Prop:=∃(k n:Nat) (rs:List Row),Dr k n rs/\(∃ q∈dE n rs,q=0)/\ds=[aw n rs]
def Tv(ds:List D):Prop:=∃(k n:Nat) (rs:List Row) (a:D),Dr k n rs/\(∃ q∈dE n rs,q=0)/\ds=[aw n rs,a]
theorem XW(Φ:au)(Xi:qe (Φ 53))(R5:Φ 1036=yN):oJ Φ 1 1 Oq [.asg (.nm 1) (.call 53 [(.v 0)])] (λρ=>sG Φ (.cw 1036 [.bh,(.v 1)]) ρ=ok true):=λds h=>by
 obtain⟨k,n,rs,I,⟨q,hq,hz⟩,rfl⟩:=h;have e1:=Xi k n rs I;have e2:=λf=>El R5 f (dE n rs);have hf:((dE n rs).any λq=>!decide (0<q))=true:=by
  rw[List.any_eq_true];refine⟨q,hq,?_⟩;subst hz;decide
 rw[hf]at e2;have m1:aq aC (aw n rs)=aw n rs:=by simp[aw]
 have m2:aq aR (aw n rs)=aw n rs:=by simp[aw]
 refine⟨rfl,[some (aw n rs),some (.lst .ow ((dE n rs).map pP))],?_,?_⟩
 ·show aT Φ [.asg (.nm 1) (.call 53 [(.v 0)])] [some (aw n rs),none]=_;simp[m1,m2,e1]
 ·simp[e2]
theorem XU(Φ:au):oJ Φ 2 1 Tv [] (Jr Φ [(.v 0)] Oq 1):=λds h=>by
 obtain⟨k,n,rs,a,I,hz,rfl⟩:=h;have m1:aq aC (aw n rs)=aw n rs:=by simp[aw]
 have m2:aq aR (aw n rs)=aw n rs:=by simp[aw]
 refine⟨rfl,_,rfl,[aw n rs],?_,⟨k,n,rs,I,hz,?_⟩,rfl⟩
 ·show bL Φ [(.v 0)] [some (aw n rs),some a,none]=_;simp[m2]
 ·show[aq aC (aw n rs)]=_;rw[m1]
theorem V5(ds:List D)(h:Tv ds):ds.length=2/\∃ ds,Oq ds:=by
 obtain⟨k,n,rs,a,I,hz,rfl⟩:=h;exact⟨rfl,_,k,n,rs,I,hz,rfl⟩
theorem Rm(ds:List D)(h:Oq ds):ds.length=1:=by
 obtain⟨k,n,rs,I,hz,rfl⟩:=h;rfl
noncomputable def Hh:List CS:=[.ifs (.cmp .ne (.call 92 [(.v 0),(.v 3),(.v 4)]) (.call 249 [(.v 4)])) [.ret (.bl false)] []]
noncomputable def LR:List CS:=[.asg (.nm 3) (.call 95 [(.v 0),(.v 1)]),.ifs (.or [(.not (.pd (.v 3) .tuple)),(.cmp .ne (.v 3) (.tup [(.call 207 [(.v 0)]),(.v 1)]))]) [.ret (.bl false)] []]
def LQ:List CS:=[.fr (.nm 4) (.seq (.v 2)) Hh]
noncomputable def QV:List CS:=[.ifs (.cmp .ne (.call 93 [(.v 0),(.v 3),(.v 1)]) (.tup [(.int 0),(.int 1)])) [.ret (.bl false)] [],.mut 1014 3 [(.int 0)],.mut 1014 3 [(.int 1)],.ret (.cmp .eq (.call 95 [(.v 0),(.v 1)]) (.tup [(.call 207 [(.v 0)]),(.v 1)]))]
def rY:List CS:=LR++(LQ++QV)
def zH(m:List D->O D):Prop:=∀ n rs xs ls,Dr 6 n rs->tI rs->(∀ q∈dE n rs,0<q)->xs.length=n->(∀ q∈xs,Sm 3 q)->(∀ l∈ls,l.length=n/\∀ q∈l,Sm 3 q)->m [aw n rs,.lst .fz (ai xs),.lst .fz (gk .fz ls)]=ok (.bl true)
theorem zR:∀(xs ys:List Rat),xs.length=ys.length->ys.sum+(subQ xs ys).sum=xs.sum
 | [],[],_=>Rat.add_zero 0
 | x::xs,y::ys,h=>by
  have ih:=zR xs ys (by simpa using h);have e:subQ (x::xs) (y::ys)=(x - y)::subQ xs ys:=rfl;rw[e,List.sum_cons,List.sum_cons,List.sum_cons,<- ih];grind
 | [],_::_,h=>by simp at h
 | _::_,[],h=>by simp at h
variable {xs:List Rat}
theorem sub_len{n:Nat}{ys:List Rat}(hx:xs.length=n)(hy:ys.length=n):(subQ xs ys).length=n:=by unfold subQ;rw[List.length_map,List.length_zip,hx,hy,Nat.min_self]
theorem yr(n:Nat)(rs:List Row):(l9 n rs).length=n:=by unfold l9;simp
theorem KH{n:Nat}{rs:List Row}(hp:∀ q∈dE n rs,0<q)(k:Nat)(hk:k<n):b6 (l9 n rs) k*aS rs k k=1:=by
 unfold l9;rw[Py rs hk];exact KJ (hp _ (aaB (zY rs hk)))
theorem Q7(f g f' g':Fl)(ws xs:List Rat):dG .ne (.tup [.lst f (ai ws),.lst g (ai xs)]) (.tup [.lst f' (ai ws),.lst g' (ai xs)])=ok (.bl false):=by
 rw[Jo (by rw[fm];simp only[List.all_cons,List.all_nil,iV 37,Bool.and_self]) (by rw[fm];simp only[List.all_cons,List.all_nil,iV 37,Bool.and_self])];show ok (D.bl (!(cC (ai ws) (ai ws)&&(cC (ai xs) (ai xs)&&true))))=_;rw[gF,gF];simp
theorem S0(f g f' g':Fl)(ws xs:List Rat):dG .eq (.tup [.lst f (ai ws),.lst g (ai xs)]) (.tup [.lst f' (ai ws),.lst g' (ai xs)])=ok (.bl true):=by
 rw[zC (by rw[fm];simp only[List.all_cons,List.all_nil,iV 37,Bool.and_self]) (by rw[fm];simp only[List.all_cons,List.all_nil,iV 37,Bool.and_self])];show ok (D.bl (cC (ai ws) (ai ws)&&(cC (ai xs) (ai xs)&&true)))=_;rw[gF,gF];simp
theorem tX(Φ:au)(O_:m9 (Φ 92))(Cd:r_ (Φ 249)){n:Nat}{rs:List Row}(I:Dr 6 n rs)(Fi:tI rs)(hp:∀ q∈dE n rs,0<q){xs:List Rat}(hx:xs.length=n)(sx:∀ q∈xs,Sm 3 q)(c1 c2:Option D):∀(ls:List (List Rat)) (c4:Option D),(∀ l∈ls,l.length=n/\∀ q∈l,Sm 3 q) ->
  ∃ zF,dO (λd ρ=>bT (.nm 4) d ρ) (λρ=>aT Φ Hh ρ) (gk .fz ls) [some (aw n rs),c1,c2,some (.tup [.lst .ow (ai (l9 n rs)),.lst .ow (ai xs)]),c4]=ok (.nx,[some (aw n rs),c1,c2,some (.tup [.lst .ow (ai (l9 n rs)),.lst .ow (ai xs)]),zF])
 | [],c4,_=>⟨c4,by simp[gk,fC]⟩
 | l::ls,c4,h=>by
  obtain⟨hl,sl⟩:=h l aao;obtain⟨zF,ih⟩:=tX Φ O_ Cd I Fi hp hx sx c1 c2 ls (some (.lst .fz (ai l))) λx hx=>h x (aam _ hx);have hn:=I.n2;have G1:Gs 6 n l xs:=⟨hl,hx,λq hq=>(sl q hq).mono (by decide),λq hq=>(sx q hq).mono (by decide),by decide⟩
  have G2:Gs 6 n (l9 n rs) l:=⟨yr n rs,hl,JF I Fi,λq hq=>(sl q hq).mono (by decide),by decide⟩
  have e1:=λf=>O_ n rs (l9 n rs) xs f l I G1 G2;rw[yQ I (sub_len hl hx) (KH hp),zR l xs (by rw[hl,hx])]at e1;have e2:=Cd l (λq hq=>(sl q hq).mono (by decide)) (by left);have e3:=As l.sum;have m1:aq aC (aw n rs)=aw n rs:=by simp[aw]
  have m2:aq aR (aw n rs)=aw n rs:=by simp[aw]
  have es:gk .fz (l::ls)=.lst .fz (ai l)::gk .fz ls:=rfl;rw[es];refine⟨zF,dt (ρ1:=[some (aw n rs),c1,c2,some (.tup [.lst .ow (ai (l9 n rs)),.lst .ow (ai xs)]),some (.lst .fz (ai l))]) (by simp) ?_ ih⟩;generalize l.sum=s at *;simp[Hh,m1,m2,e1,e2,e3]
theorem Lm(Φ:au)(O_:m9 (Φ 92))(Xg:kQ (Φ 93))(Xf:oo (Φ 95))(Xx:sf (Φ 207))(Cd:r_ (Φ 249))(ZM:Φ 1014=F0):zH (mk Φ 3 5 rY):=by
 intro n rs xs ls I Fi hp hx sx WU;have hn:=I.n2;rw[mk_eq (show[aw n rs,.lst .fz (ai xs),D.lst .fz (gk .fz ls)].length=3 from rfl)];show sV (aT Φ rY [some (aw n rs),some (.lst .fz (ai xs)),some (.lst .fz (gk .fz ls)),none,none])=_;have e1:=λf=>Xf 6 n rs f xs I hp hx;have e2:=Xx n rs I hp λq hq=>by obtain⟨k,_,rfl⟩:=pW hq;exact(qv I Fi k k).mono (by decide)
 have ew:((dE n rs).map λq=>1 / q)=l9 n rs:=aaz λq hq=>by unfold CH;rw[if_pos (hp q hq)]
 rw[ew]at e2;have m1:aq aC (aw n rs)=aw n rs:=by simp[aw]
 have m2:aq aR (aw n rs)=aw n rs:=by simp[aw]
 have ty:∀ ds,cU .tuple (.tup ds)=true:=λ_=>rfl;have q1:=λf g f' g'=>Q7 f g f' g' (l9 n rs) xs;have q2:=λf g f' g'=>S0 f g f' g' (l9 n rs) xs;have f1:mP .ow=.ow:=rfl;have ga:aT Φ LR [some (aw n rs),some (.lst .fz (ai xs)),some (.lst .fz (gk .fz ls)),none,none]=ok (.nx,[some (aw n rs),some (.lst .fz (ai xs)),some (.lst .fz (gk .fz ls)),some (.tup [.lst .ow (ai (l9 n rs)),.lst .ow (ai xs)]),none]):=by
  simp[LR,m1,m2,e1,e2,ty,q1,f1]
 obtain⟨c4,el⟩:=tX Φ O_ Cd I Fi hp hx sx (some (.lst .fz (ai xs))) (some (.lst .fz (gk .fz ls))) ls none WU;have Za:∀ g:Fl->Fl,g .fz=.fz->ag g (gk .fz ls)=gk .fz ls:=λg hg=>by
  rw[aB];unfold gk;rw[List.map_map];refine aaz λl _=>?_;show aq g (.lst .fz (ai l))=_;rw[aq,fS,hg]
 have hit:cA Φ (.seq (.v 2)) [some (aw n rs),some (.lst .fz (ai xs)),some (.lst .fz (gk .fz ls)),some (.tup [.lst .ow (ai (l9 n rs)),.lst .ow (ai xs)]),none]=ok (gk .fz ls,[some (aw n rs),some (.lst .fz (ai xs)),some (.lst .fz (gk .fz ls)),some (.tup [.lst .ow (ai (l9 n rs)),.lst .ow (ai xs)]),none]):=by
  rw[yY (f:=.fz) (ds:=gk .fz ls) (by simp[Za aR rfl])];have:av bE (gk .fz ls)=false:=bG bE (e:=λl=>.lst .fz (ai l)) (λl=>by simp[bE]) ls;rw[Za aC rfl];simp[this]
 have hf:=fN (Φ:=Φ) (t:=.nm 4) (b:=Hh) hit el;have gb:aT Φ LQ [some (aw n rs),some (.lst .fz (ai xs)),some (.lst .fz (gk .fz ls)),some (.tup [.lst .ow (ai (l9 n rs)),.lst .ow (ai xs)]),none]=ok (.nx,[some (aw n rs),some (.lst .fz (ai xs)),some (.lst .fz (gk .fz ls)),some (.tup [.lst .ow (ai (l9 n rs)),.lst .ow (ai xs)]),c4]):=by
  rw[LQ,dB,hf];rfl
 have G1:Gs 10 n xs xs:=⟨hx,hx,λq hq=>(sx q hq).mono (by decide),λq hq=>(sx q hq).mono (by decide),by decide⟩
 have G2:Gs 10 n (l9 n rs) xs:=⟨yr n rs,hx,λq hq=>(JF I Fi q hq).mono (by decide),λq hq=>(sx q hq).mono (by decide),by decide⟩
 have e3:=λf=>Xg 6 n rs (l9 n rs) xs f xs I G1 G2;rw[sub_self,hx,wN (yr n rs)]at e3;have z0:D.tup [.int 0,.int 1]=qD 0:=rfl;have q3:=As 0;have c1:Φ 1014 [.tup [.lst .ow (ai (l9 n rs)),.lst .ow (ai xs)],.int 0]=ok (.tup [.lst .ow [],.lst .ow (ai xs)]):=by rw[ZM];rfl
 have c2:Φ 1014 [.tup [.lst .ow [],.lst .ow (ai xs)],.int 1]=ok (.tup [.lst .ow [],.lst .ow []]):=by rw[ZM];rfl
 have d1:rF Φ (.mut 1014 3 [(.int 0)]) [some (aw n rs),some (.lst .fz (ai xs)),some (.lst .fz (gk .fz ls)),some (.tup [.lst .ow (ai (l9 n rs)),.lst .ow (ai xs)]),c4]=ok (.nx,[some (aw n rs),some (.lst .fz (ai xs)),some (.lst .fz (gk .fz ls)),some (.tup [.lst .ow [],.lst .ow (ai xs)]),c4]) :=
  yq (xs:=[.int 0]) (d:=.tup [.lst .ow (ai (l9 n rs)),.lst .ow (ai xs)]) (by simp) rfl rfl c1
 have d2:rF Φ (.mut 1014 3 [(.int 1)]) [some (aw n rs),some (.lst .fz (ai xs)),some (.lst .fz (gk .fz ls)),some (.tup [.lst .ow [],.lst .ow (ai xs)]),c4]=ok (.nx,[some (aw n rs),some (.lst .fz (ai xs)),some (.lst .fz (gk .fz ls)),some (.tup [.lst .ow [],.lst .ow []]),c4]) :=
  yq (xs:=[.int 1]) (d:=.tup [.lst .ow [],.lst .ow (ai xs)]) (by simp) rfl rfl c2
 rw[rY,gm Φ _ _ _ _ ga,gm Φ _ _ _ _ gb];simp[QV,d1,d2,m1,m2,e1,e2,e3,z0,q2,q3,c1,c2,f1]
noncomputable def IW:CE:=.comp 1 (.nm 0) [5,4] .k9 [(.v 2)] [] (.call 222 [(.ix (.v 1) (.v 0)),(.ix (.v 2) (.v 0))])
noncomputable def LV:List CS:=[.asg (.nm 1) (.call 212 [(.v 0),(.int 0),(.int 5)]),.asg (.nm 2) (.ix (.v 1) (.int 0)),.asg (.nm 3) (.call 230 [(.call 200 [(.v 0),(.int 8)]),(.v 2)]),.asg (.nm 4) (.call 230 [(.call 200 [(.v 0),(.int 9)]),(.v 2)]),.asg (.nm 5) (.call 230 [(.call 200 [(.v 0),(.int 10)]),(.v 2)]),.asg (.nm 6) (.lst [(.call 215 [(.v 1)]),(.tup [(.bf .list1 [(.v 3)]),(.bf .list1 [(.v 4)])]),(.bf .list1 [(.v 5)])])]
def LU:List CS:=[.asg (.nm 7) IW,.asg (.nm 8) (.call 92 [(.ix (.v 6) (.int 0)),(.ix (.v 6) (.int 1)),(.ix (.v 6) (.int 2))]),.asg (.nm 9) (.call 93 [(.ix (.v 6) (.int 0)),(.ix (.v 6) (.int 1)),(.ix (.v 6) (.int 2))])]
noncomputable def LS:List CS:=[.ifs (.not (.call 204 [(.v 8)])) [.ret (.bl false)] [],.ifs (.cmp .ne (.v 8) (.call 202 [(.call 249 [(.v 4)]),(.call 232 [(.v 1),(.v 3),(.v 7)])])) [.ret (.bl false)] [],.ifs (.or [(.not (.call 204 [(.v 9)])),(.cmp .ne (.v 9) (.call 237 [(.v 1),(.v 3),(.v 7)]))]) [.ret (.bl false)] [],.ifs (.cmp .ne (.v 6) (.lst [(.v 1),(.tup [(.v 3),(.v 4)]),(.v 5)])) [.ret (.bl false)] []]
noncomputable def AY:CE:=.comp 1 (.nm 0) [11] .k9 [(.v 2)] [] (.tup [(.bf .xr [(.cmp .eq (.v 0) (.v 1))]),(.int 1)])
def Hg:List CS:=[.app 10 AY]
noncomputable def LP:List CS:=[.lsn 10 [(.v 5),(.v 4)]]
def LO:List CS:=[.fr (.nm 11) (.k9 (.v 2)) Hg]
noncomputable def LN:List CS:=[.ret (.and [(.call 250 [(.ix (.v 6) (.int 0)),(.ix (.v 6) (.int 2)),(.v 10)]),(.cmp .eq (.ix (.v 6) (.int 2)) (.v 5))])]
def QW:List CS:=[.ifs (.call 234 [(.v 1)]) (LP++(LO++LN)) []]
def mZ:List CS:=LV++(LU++(LS++QW))
noncomputable def Yf:CS:=.ex (.call 95 [(.ix (.v 6) (.int 0)),(.ix (.v 6) (.int 2))])
variable {ρ:aD}
theorem Q_(Φ:au)(vx:i_ (Φ 222)){n:Nat}(hn:n<=12){bs:List Rat}(hx:xs.length=n)(hb:bs.length=n)(sx:∀ q∈xs,Sm 3 q)(sb:∀ q∈bs,Sm 3 q)(h2:ρ[2]?=some (some (.int n)))(h4:ρ[4]?=some (some (.lst .ow (ai bs))))(h5:ρ[5]?=some (some (.lst .ow (ai xs)))):aK Φ IW ρ=ok (.lst .ow (ai (subQ xs bs))):=by
 unfold IW;rw[bo (xs:=[.int n]) (ds:=(List.range n).map λ(k:Nat)=>qD (b6 xs k - b6 bs k)) (by simp[h2]) (mK Φ (by left) (by left)) (aU λk hk=>⟨[some (.int k),some (.lst .fz (ai xs)),some (.lst .fz (ai bs))],by simp[aM,h4,h5,aC],by simp,?_⟩) (by simp;exact aX (by left))]
 ·have:((List.range n).map λ(k:Nat)=>qD (b6 xs k - b6 bs k))=ai (subQ xs bs):=by
   rw[Dk (n:=n) (k:=0) hb hx];unfold ai;rw[List.map_map];rfl
  rw[this,fS]
 ·rw[Int.toNat_natCast,List.mem_range]at hk;have a1:=yc (qs:=xs) (h:=(k:Int)) (by left) (by left);have a2:=yc (qs:=bs) (h:=(k:Int)) (by left) (by left);have e:=vx _ _ ((sx _ (bB (qs:=xs) (h:=(k:Int)) (by left) (by left)).2).mono (by decide)) ((sb _ (bB (qs:=bs) (h:=(k:Int)) (by left) (by left)).2).mono (by decide));simp[a1,a2,e]
theorem KS(Φ:au){n:Nat}(hn:n<=12)(h:Nat)(h2:ρ[2]?=some (some (.int n)))(Xy:ρ[11]?=some (some (.int h))):aK Φ AY ρ=ok (.lst .ow (ai (fc n h))):=by
 unfold AY;rw[bo (xs:=[.int n]) (ds:=(List.range n).map λ(k:Nat)=>qD (if k=h then 1 else 0)) (by simp[h2]) (mK Φ (by left) (by left)) (aU λk hk=>⟨[some (.int k),some (.int h)],by simp[aM,Xy],by simp,?_⟩) (by simp;exact aX (by left))]
 ·simp[ai,fc,aB]
 ·have c1:dG .eq (.int k) (.int h)=ok (.bl (decide (k=h))):=by
   rw[zC (by simp) (by simp),mR];by_cases e:k=h<;>simp[e];left
  have i1:oZ .xr [.bl true]=ok (.int 1):=rfl;have i0:oZ .xr [.bl false]=ok (.int 0):=rfl;by_cases e:k=h
  ·subst e;simp[c1,i1];rfl
  ·simp[c1,e,i0];rfl
theorem wC(Φ:au){n:Nat}(hn:n<=12)(a0 a1 a3 a4 a5 a6 a7 a8 a9 a12 a13:Option D)(ds:List D)(hd:ds.length=2):∀(k j:Nat) (ls:List (List Rat)) (c:Option D),ls.length+k<=90 ->
  ∃ c',dO (λd ρ=>bT (.nm 11) d ρ) (λρ=>aT Φ Hg ρ) ((List.range' j k).map λ(i:Nat)=>D.int (i:Int)) [a0,a1,some (.int n),a3,a4,a5,a6,a7,a8,a9,some (.lst .ow (ds++gk .ow ls)),c,a12,a13]=ok (.nx,[a0,a1,some (.int n),a3,a4,a5,a6,a7,a8,a9,some (.lst .ow (ds++gk .ow (ls++(List.range' j k).map (fc n)))),c',a12,a13])
 | 0,j,ls,c,_=>⟨c,by simp[fC]⟩
 | k+1,j,ls,c,h=>by
  have u:=KS Φ hn j (ρ:=[a0,a1,some (.int n),a3,a4,a5,a6,a7,a8,a9,some (.lst .ow (ds++gk .ow ls)),some (.int j),a12,a13]) rfl rfl;obtain⟨c',ih⟩:=wC Φ hn a0 a1 a3 a4 a5 a6 a7 a8 a9 a12 a13 ds hd k (j+1) (ls++[fc n j]) (some (.int j)) (by simp;left);have hc:(ds++gk .ow ls).length<iL:=by show _<1000000;simp[gk,hd];left
  have e1:ds++gk .ow ls++[.lst .ow (ai (fc n j))]=ds++gk .ow (ls++[fc n j]):=by simp[gk]
  rw[List.range'_succ,List.map_cons,List.map_cons];refine⟨c',dt (ρ1:=[a0,a1,some (.int n),a3,a4,a5,a6,a7,a8,a9,some (.lst .ow (ds++gk .ow ls)),some (.int j),a12,a13]) (by simp) (ρ2:=[a0,a1,some (.int n),a3,a4,a5,a6,a7,a8,a9,some (.lst .ow (ds++gk .ow (ls++[fc n j]))),some (.int j),a12,a13]) ?_ ?_⟩
  ·rw[Hg,dB,Pw,Gr Φ AY _ rfl,u,mJ (by simp)];generalize ds++gk .ow ls=es at *;simp[hc,e1]
  ·exact ih.trans (by simp)
theorem HY(n:Nat)(rs:List Row)(ws bs xs:List Rat)(f g a b c d a' b' c' d':Fl):dG .ne (.lst f [rJ a n rs,.tup [.lst b (ai ws),.lst c (ai bs)],.lst d (ai xs)]) (.lst g [rJ a' n rs,.tup [.lst b' (ai ws),.lst c' (ai bs)],.lst d' (ai xs)])=ok (.bl false):=by
 have k1:∀ a,cQ 39 (rJ a n rs)=true:=λa=>by
  unfold rJ;rw[fm];simp only[List.all_cons,List.all_nil,gu,Bool.true_and,Bool.and_true];rw[u_];exact pV (Q3 35) rs
 have k3:∀ b c,cQ 39 (.tup [.lst b (ai ws),.lst c (ai bs)])=true:=λb c=>by
  rw[fm];simp only[List.all_cons,List.all_nil,iV 36,Bool.and_self]
 rw[Jo (by rw[u_];simp only[List.all_cons,List.all_nil,iV 37,k1,k3,Bool.and_self]) (by rw[u_];simp only[List.all_cons,List.all_nil,iV 37,k1,k3,Bool.and_self])];have k2:jH (rJ a n rs) (rJ a' n rs)=true:=by
  show(((n:Int)==(n:Int))&&(cC (bJ rs) (bJ rs)&&true))=true;rw[IQ];simp
 show ok (D.bl (!(jH (rJ a n rs) (rJ a' n rs)&&((cC (ai ws) (ai ws)&&(cC (ai bs) (ai bs)&&true))&&(cC (ai xs) (ai xs)&&true)))))=_;rw[k2,gF,gF,gF];simp
theorem NQ(f g:Fl)(qs:List Rat):dG .eq (.lst f (ai qs)) (.lst g (ai qs))=ok (.bl true):=by
 rw[zC (iV 38 f qs) (iV 38 g qs)];show ok (D.bl (cC (ai qs) (ai qs)))=_;rw[gF];simp
structure Yx(Φ:au):Prop where
 O_:m9 (Φ 92)
 Xg:kQ (Φ 93)
 vy:si (Φ 200)
 cM:dQ (Φ 202)
 SG:Gi (Φ 204)
 Xw:oy (Φ 212)
 Xu:ou (Φ 215)
 vx:i_ (Φ 222)
 Nb:wg (Φ 230)
 Na:qf (Φ 232)
 Xt:Ox (Φ 234)
 Xs:se (Φ 237)
 Cd:r_ (Φ 249)
 Xr:zH (Φ 250)
abbrev l8(ns:List Int)(n:Nat)(rs:List Row)(ws bs xs:List Rat)(f:Fl)(H:D)(r:aD):aD:=some (.lst .sc (aa ns))::some (rJ .ow n rs)::some (.int n)::some (.lst .ow (ai ws))::some (.lst f (ai bs))::some (.lst f (ai xs))::some H::r
theorem Rq(Φ:au)(Ψ:Nat->List D->Prop)(K:Yx Φ)(Xf:∀ ds,Tv ds->Ψ 95 ds)(ns:List Int):∃ fo,aT Φ mZ (some (D.lst .sc (aa ns))::List.replicate 13 none)=ok fo/\o3 (TT Φ Ψ 6 12 Yf) (.bl true) fo:=by
 show ∃ fo,aT Φ mZ [some (.lst .sc (aa ns)),none,none,none,none,none,none,none,none,none,none,none,none,none]=ok fo/\_;obtain⟨n,rs,hn,I,Fi,e1⟩:=K.Xw ns 0 5 (by decide) (by decide) (by decide);have n2:=I.n2;have c8:=K.vy ns 8 (by decide);have c9:=K.vy ns 9 (by decide);have c10:=K.vy ns 10 (by decide);obtain⟨ws,w1,w2,w3⟩:=K.Nb (bq ns 8) n n2;obtain⟨bs,b1,b2,b3⟩:=K.Nb (bq ns 9) n n2;obtain⟨xs,x1,x2,x3⟩:=K.Nb (bq ns 10) n n2;have Pc:Φ 212 [.lst .sc (aa ns),.int 0,.int 5]=ok (rJ .ow n rs):=e1;have e2:Φ 215 [aw n rs]=ok (rJ .ow n rs):=K.Xu n rs
 let H:D:=.lst .ow [rJ .ow n rs,.tup [.lst .ow (ai ws),.lst .ow (ai bs)],.lst .ow (ai xs)]
 have ga:aT Φ LV [some (.lst .sc (aa ns)),none,none,none,none,none,none,none,none,none,none,none,none,none]=ok (.nx,(l8 ns n rs ws bs xs .ow H [none,none,none,none,none,none,none])):=by
  simp[l8,LV,Pc,uq,e2,c8,c9,c10,w1,b1,x1,H]
 have mv:=Q_ Φ K.vx n2 x2 b2 x3 b3 (ρ:=(l8 ns n rs ws bs xs .ow H [none,none,none,none,none,none,none])) rfl rfl rfl;have G1:Gs 6 n xs bs:=⟨x2,b2,λq hq=>(x3 q hq).mono (by decide),λq hq=>(b3 q hq).mono (by decide),by decide⟩
 have G2:Gs 6 n ws xs:=⟨w2,x2,λq hq=>(w3 q hq).mono (by decide),λq hq=>(x3 q hq).mono (by decide),by decide⟩
 have e3:=λf=>K.O_ n rs ws bs f xs I G1 G2;have e4:=λf=>K.Xg 6 n rs ws bs f xs I (G1.up (by decide) (by decide)) (G2.up (by decide) (by decide));have sl:(subQ xs bs).length=n:=sub_len x2 b2;have ss:∀ q∈subQ xs bs,Sm 7 q:=λq hq=>by
  unfold subQ at hq;obtain⟨p,hp,rfl⟩:=List.mem_map.mp hq;have m:=aaN hp;exact(x3 _ m.1).sub (b3 _ m.2)
 have G3:GF 3 7 n ws (subQ xs bs):=⟨w2,sl,w3,ss,by decide⟩
 have e5:=λf g=>K.Na n rs f g ws (subQ xs bs) 3 7 I G3;have G4:Gs 7 n ws (subQ xs bs):=⟨w2,sl,λq hq=>(w3 q hq).mono (by decide),ss,by decide⟩
 have e6:=λf g=>K.Xs n rs f g ws (subQ xs bs) 3 7 (420*420) (7*420*(7*420+7*420)) I Fi G3 (by decide) (by decide +kernel) (by decide +kernel) λh a b=>by
  obtain⟨k,rfl⟩:∃ k:Nat,h=k:=⟨h.toNat,by left⟩
  have ea:b6 (subQ xs bs) (k:Int)=b6 xs k - b6 bs k:=by
   rw[Dk (n:=n) (k:=0) b2 x2];unfold b6;rw[Int.toNat_natCast,List.getD_eq_getElem?_getD,List.getElem?_map,List.getElem?_range (by left)];rfl
  rw[ea];exact(FE (w3 _ (bB (qs:=ws) a (by left)).2)).mul ((FE (x3 _ (bB (qs:=xs) a (by left)).2)).sub (FE (b3 _ (bB (qs:=bs) a (by left)).2)))
 rw[rM I G4]at e6;have e7:=K.Cd bs (λq hq=>(b3 q hq).mono (by decide)) (by left);have s1:=Sm.sum b3;have s2:=Ay I w2 sl (λq hq=>(w3 q hq).mono (by decide)) λq hq=>(ss q hq).mono (by decide);have e8:=K.cM bs.sum _ (s1.mono (by rw[b2];left)) (s2.mono (by decide));have i1:=K.SG (bs.sum+a_ rs ws (subQ xs bs));have i2:=K.SG (dD rs ws (subQ xs bs));have q1:=As (bs.sum+a_ rs ws (subQ xs bs));have q2:=As (dD rs ws (subQ xs bs));have q3:=λf g a b c d a' b' c' d'=>HY n rs ws bs xs f g a b c d a' b' c' d';generalize bs.sum+a_ rs ws (subQ xs bs)=M at *;generalize dD rs ws (subQ xs bs)=S at *;have gb:aT Φ LU (l8 ns n rs ws bs xs .ow H [none,none,none,none,none,none,none])=ok (.nx,(l8 ns n rs ws bs xs .ow H [some (.lst .ow (ai (subQ xs bs))),some (qD M),some (qD S),none,none,none,none])):=by
  rw[LU,dB,C0,Gr Φ IW _ rfl,mv,mJ (by simp)];simp[l8,H,uq,e3,e4]
 have gc:aT Φ LS (l8 ns n rs ws bs xs .ow H [some (.lst .ow (ai (subQ xs bs))),some (qD M),some (qD S),none,none,none,none])=ok (.nx,(l8 ns n rs ws bs xs .ow H [some (.lst .ow (ai (subQ xs bs))),some (qD M),some (qD S),none,none,none,none])):=by
  have mH:aq aR H=.lst .al [rJ .al n rs,.tup [.lst .al (ai ws),.lst .al (ai bs)],.lst .al (ai xs)]:=by simp[l8,H]
  simp[l8,LS,mH,i1,i2,uq,e5,e6,e7,e8,q1,q2,q3]
 rw[mZ,gm Φ _ _ _ _ ga,gm Φ _ _ _ _ gb,gm Φ _ _ _ _ gc];have ev:=K.Xt n rs I;have x1:aK Φ (.call 234 [(.v 1)]) (l8 ns n rs ws bs xs .ow H [some (.lst .ow (ai (subQ xs bs))),some (qD M),some (qD S),none,none,none,none])=ok (.bl (decide ((dE n rs).filter (λq=>decide (q=0))=[]))):=by
  simp[l8,uq,ev]
 rw[QW,dB,CZ,x1,G7];by_cases hz:(dE n rs).filter (λq=>decide (q=0))=[]
 ·rw[decide_eq_true hz,Mv];have hp:∀ q∈dE n rs,0<q:=λq hq=>by
   obtain⟨k,_,rfl⟩:=pW hq;have h0:=(qG I k k).1;have:=List.filter_eq_nil_iff.mp hz _ hq;have h1:aS rs k k≠0:=λz=>this (aaT z);grind
  have gx:aT Φ LP (l8 ns n rs ws bs xs .ow H [some (.lst .ow (ai (subQ xs bs))),some (qD M),some (qD S),none,none,none,none])=ok (.nx,(l8 ns n rs ws bs xs .fz H [some (.lst .ow (ai (subQ xs bs))),some (qD M),some (qD S),some (.lst .ow ([.lst .fz (ai xs),.lst .fz (ai bs)]++gk .ow [])),none,none,none])):=by
   simp[l8,LP,iB,ck,gk,H]
  obtain⟨Ti,el⟩:=wC Φ n2 (some (.lst .sc (aa ns))) (some (rJ .ow n rs)) (some (.lst .ow (ai ws))) (some (.lst .fz (ai bs))) (some (.lst .fz (ai xs))) (some H) (some (.lst .ow (ai (subQ xs bs)))) (some (qD M)) (some (qD S)) none none [.lst .fz (ai xs),.lst .fz (ai bs)] rfl n 0 [] none (by simp;left);have hit:cA Φ (.k9 (.v 2)) (l8 ns n rs ws bs xs .fz H [some (.lst .ow (ai (subQ xs bs))),some (qD M),some (qD S),some (.lst .ow ([.lst .fz (ai xs),.lst .fz (ai bs)]++gk .ow [])),none,none,none])=ok ((List.range' 0 n).map λ(i:Nat)=>D.int (i:Int),(l8 ns n rs ws bs xs .fz H [some (.lst .ow (ai (subQ xs bs))),some (qD M),some (qD S),some (.lst .ow ([.lst .fz (ai xs),.lst .fz (ai bs)]++gk .ow [])),none,none,none])):=by
   rw[EF (n:=(n:Int)) (by simp[l8]) (by left) (by left),<- List.range_eq_range'];simp[l8]
  have hf:=fN (Φ:=Φ) (t:=.nm 11) (b:=Hg) hit el
  let ls:List (List Rat):=xs::bs::(List.range' 0 n).map (fc n)
  have WU:∀ l∈ls,l.length=n/\∀ q∈l,Sm 3 q:=λl hl=>by
   rcases List.mem_cons.mp hl with rfl | hl
   ·exact⟨x2,x3⟩
   rcases List.mem_cons.mp hl with rfl | hl
   ·exact⟨b2,b3⟩
   obtain⟨k,_,rfl⟩:=List.mem_map.mp hl;exact⟨by unfold fc;simp,λq hq=>(GZ q hq).mono (by decide)⟩
  have er:=K.Xr n rs xs ls I Fi hp x2 x3 WU;have el2:ag aC (ag aR ([.lst .fz (ai xs),.lst .fz (ai bs)]++gk .ow ([]++(List.range' 0 n).map (fc n))))=gk .fz ls:=by
   rw[aB,aB];simp[l8,gk,ls,aq,fS,aR,aC]
  have q5:=λf g=>NQ f g xs;have gy:aT Φ LO (l8 ns n rs ws bs xs .fz H [some (.lst .ow (ai (subQ xs bs))),some (qD M),some (qD S),some (.lst .ow ([.lst .fz (ai xs),.lst .fz (ai bs)]++gk .ow [])),none,none,none])=ok (.nx,(l8 ns n rs ws bs xs .fz H [some (.lst .ow (ai (subQ xs bs))),some (qD M),some (qD S),some (.lst .ow ([.lst .fz (ai xs),.lst .fz (ai bs)]++gk .ow ([]++(List.range' 0 n).map (fc n)))),Ti,none,none])):=by
   rw[LO,dB,hf];rfl
  rw[gm Φ _ _ _ _ gx,gm Φ _ _ _ _ gy];generalize ([.lst .fz (ai xs),.lst .fz (ai bs)]++gk .ow ([]++(List.range' 0 n).map (fc n)):List D)=ds at *;have y1:aK Φ (.call 250 [(.ix (.v 6) (.int 0)),(.ix (.v 6) (.int 2)),(.v 10)]) (l8 ns n rs ws bs xs .fz H [some (.lst .ow (ai (subQ xs bs))),some (qD M),some (qD S),some (.lst .ow ds),Ti,none,none])=ok (.bl true):=by
   simp[l8,H,uq,el2,aR,aC,er]
  have y2:aK Φ (.cmp .eq (.ix (.v 6) (.int 2)) (.v 5)) (l8 ns n rs ws bs xs .fz H [some (.lst .ow (ai (subQ xs bs))),some (qD M),some (qD S),some (.lst .ow ds),Ti,none,none])=ok (.bl true):=by
   simp[l8,H,q5]
  have gz:aT Φ LN (l8 ns n rs ws bs xs .fz H [some (.lst .ow (ai (subQ xs bs))),some (qD M),some (qD S),some (.lst .ow ds),Ti,none,none])=ok (.rt (.bl true),(l8 ns n rs ws bs xs .fz H [some (.lst .ow (ai (subQ xs bs))),some (qD M),some (qD S),some (.lst .ow ds),Ti,none,none])):=by
   rw[LN,dB,Pt,Ry,S9,N1,N3,y1,y2];rfl
  refine⟨_,(aaS (qo Φ []) gz).trans rfl,rfl⟩
 ·rw[decide_eq_false hz,Mw];refine⟨(.nx,_),rfl,rfl,abE 13,?_⟩;have hq:∃ q∈dE n rs,q=0:=by
   cases hl:(dE n rs).filter (λq=>decide (q=0))with
   | nil=>exact absurd hl hz
   | cons q l =>
    have:=List.mem_filter.mp (show q∈(dE n rs).filter (λq=>decide (q=0)) by rw[hl];exact aao);exact⟨q,this.1,aak this.2⟩
  refine .ex (xs:=[rJ .al n rs,.lst .al (ai xs)]) ?_ (Xf _ ⟨6,n,rs,.lst .fz (ai xs),I,hq,?_⟩)
  ·simp[l8,H]
  ·simp[l8,uq,ag]
end DI
end
namespace PySem.W.Fast
def tw7861104029771120665:=0
def tw1988299415997335948:=0
def tw17480194741077105733:=0
def tw8450419330532524245:=0
def tw14303383378563225942:=0
def tw11398346077114100471:=0
def tw18418433258820976497:=0
def tw9395667741211699050:=0
def tw10221182937430211457:=0
def tw10501219121380910834:=0
def tw15174163491825820595:=0
def tw14728960873025308831:=0
def tw6348547833821724710:=0
def tw15149367179399002378:=0
def tw2181241908288739882:=0
def tw7056139823748798141:=0
def tw8066103885812302118:=0
def tw10450636450192443527:=0
def tw15957654535966251895:=0
def tw2923397715353403143:=0
def tw5321930230213273606:=0
def tw17963299481263684978:=0
def tw13797564857625780576:=0
def tw10682153285952952071:=0
def tw5570532233003078444:=0
def tw12535635830777169940:=0
def tw120864212260809527:=0
def tw8988561423568571368:=0
def tw1728308387693438954:=0
def tw5049182560907083004:=0
def tw13154541034826059719:=0
def tw3162837067190497374:=0
def tw1091008130130356236:=0
def tw5427341334657961584:=0
def tw9796813347751661352:=0
def tw10793970920065064704:=0
def tw1653024087185727093:=0
def tw7902029132373732254:=0
def tw9265530982749955747:=0
def tw4523670377203277166:=0
def tw435742789678568909:=0
def tw11642452786225256784:=0
def tw2345136608209268231:=0
def tw10525224846324003546:=0
def tw13273157273871061777:=0
def tw15867658828513027647:=0
def tw8322629969967745634:=0
def tw14213317424349970092:=0
def tw7100480757588870592:=0
def tw2535064217227744926:=0
def tw6967155793118915981:=0
def tw8819471610074027315:=0
def tw11678385358935252524:=0
def tw9346594606462322859:=0
def tw1559413148053795321:=0
def tw7012794572757001522:=0
def tw13624028915748244495:=0
def tw5723345947010959816:=0
def tw14254761329767060720:=0
def tw8194247757797630236:=0
def tw13546006161061476086:=0
def tw11434757793689866680:=0
def tw17982137708252666915:=0
def tw17901813411185123867:=0
def tw9806059552881928233:=0
def tw723131622029117773:=0
def tw4605693580670735712:=0
def tw17140357956839681953:=0
def tw9462758000873711681:=0
def tw1495895771585268199:=0
def tw6379822703090718993:=0
def tw13431056769399116627:=0
def tw24636010764554077:=0
def tw11235054176791070241:=0
def tw11537248292224681803:=0
def tw4336942321645147263:=0
def tw2706709880480512842:=0
def tw17591639336546100530:=0
def tw428153421773762728:=0
def tw16895688113469148256:=0
def tw12349947042222140660:=0
def tw18402665376277165249:=0
def tw11468774663322596263:=0
def tw7030245030305080167:=0
def tw9462214565748092931:=0
def tw8902803370430698716:=0
def tw14939957118747740858:=0
def tw1393169245094011258:=0
def tw17194254691947733230:=0
def tw13991261875550083879:=0
def tw15207820530953895307:=0
def tw13082292664854356546:=0
def tw13295127607020194023:=0
def tw4996919981258609467:=0
def tw14129332299286689345:=0
def tw80868023961899117:=0
def tw5226994746344271913:=0
def tw8026037458938813164:=0
def tw873271269646066502:=0
def tw9586350164867528538:=0
def tw7764955662361575924:=0
def tw16656659997563628427:=0
def tw4114877101584854376:=0
def tw15860420186585136497:=0
def tw3691179390594423472:=0
def tw8226617699818156443:=0
def tw247820754058279942:=0
def tw13563570610715569588:=0
def tw9914392479667719095:=0
def tw11944085978696198532:=0
def tw4600890394783454873:=0
def tw5630690812195830364:=0
def tw5520744728708638501:=0
def tw4383423506277577747:=0
def tw3963883785714366570:=0
def tw6107986497449429395:=0
def tw4282916678432669260:=0
def tw10268321469336497423:=0
def tw7472839121103483533:=0
def tw1071987043143200460:=0
def tw5828136737686094651:=0
def tw7274885443104690534:=0
def tw10239063351802755046:=0
def tw12255153088915673990:=0
def tw13141186691476449284:=0
def tw15482678045959316443:=0
def tw3914542623191561063:=0
def tw11043088515158771294:=0
def tw4388537904202764225:=0
def tw10083239083651451113:=0
def tw4253951718603682517:=0
def tw5921638990484787464:=0
def tw9609388230576352872:=0
def tw8266476880639628396:=0
def tw1597558803770451602:=0
def tw9665133038267675614:=0
def tw11281598235647226234:=0
def tw1920930902482380151:=0
def tw13528340597518894340:=0
def tw1389430458254144173:=0
def tw17585617885256577182:=0
def tw7399700088987253415:=0
def tw12628725539239303158:=0
def tw16604899027976401029:=0
def tw6270553766656185392:=0
def tw15836962906410441559:=0
def tw9777504584014766509:=0
def tw17387879372194554402:=0
def tw6232026210573511242:=0
def tw7634939685283906492:=0
def tw15088230503886001789:=0
def tw10135055559584759248:=0
def tw11134911017760780240:=0
def tw4001391425817985998:=0
def tw15801144197297227906:=0
def tw10929780324932048549:=0
def tw10250572323748584305:=0
def tw17591671050439739265:=0
def tw570275489599284434:=0
def tw1994951825735984034:=0
def tw3820440710216261760:=0
def tw8503026697423825080:=0
def tw12111197060403110954:=0
def tw6884007839692884636:=0
def tw12116298078677245875:=0
def tw282186256185093924:=0
def tw6979607830536880776:=0
def tw17009495900413433529:=0
def tw1480634030935186200:=0
def tw17938823577137900583:=0
def tw10759746657616490491:=0
def tw15130382662319639991:=0
def tw8707966081141673601:=0
def tw484542817285178754:=0
def tw17725430506605002901:=0
def tw2578829055973719399:=0
def tw12787417693231368657:=0
def tw15794957331456493532:=0
def tw11903145725474701072:=0
def tw9372589408061160039:=0
def tw15081895542214440303:=0
def tw5479857194486038226:=0
def tw11922954712945507673:=0
def tw12346037116189512788:=0
def tw17916003971902572019:=0
def tw13235937566802784881:=0
def tw8309380297309699629:=0
def tw15089596259515705487:=0
def tw12354483675881791145:=0
def tw8375022831786304427:=0
def tw8360985560212821722:=0
def tw11542785859672593831:=0
def tw13206620800826434551:=0
def tw1588144846687332543:=0
def tw5971876375813316326:=0
def tw14711635028018373090:=0
def tw18209271888690634738:=0
def tw676153859469158959:=0
def tw10985039056333960409:=0
def tw3716784037605796718:=0
def tw5001330349114504592:=0
def tw18049191834736792734:=0
def tw2426087802340823064:=0
def tw3817357654067613133:=0
def tw9873639925768784243:=0
end PySem.W.Fast
namespace Asm
open PySem PySem.Spec PyProof.Rows L2 DI
noncomputable def top(i:Nat):Stmt:=PySem.Challenge.pw_sharesample_k41_moved_guesses.main.body.getD i (.Pass ⟨0,0,0,0⟩)
def px:Px:=⟨λn sc bl e=>if n=1020 then vT true sc bl e else if n=1022 then A9 sc bl e else if n=1030 then vS sc bl e else if n=1031 then p9 sc bl e else if n=1032 then zz sc bl e else if n=1035 then vQ "sorted" sc bl e else if n=1036 then vR sc bl e else if n=1040 then A8 sc bl e else none,λn sc bl e=>if n=1000 then j8 sc bl e else if n=1100 then F8 sc bl e else none,λn sc bl e=>if n=1014 then vV sc bl e else if n=1033 then p8 sc bl e else none⟩
structure Pq(Φ:au):Prop where
 j3:Φ 1000=sL:=by rfl
 SJ:Φ 1014=F0:=by rfl
 Fs:Φ 1020=(cutD true):=by rfl
 oY:Φ 1022=Nh:=by rfl
 Fq:Φ 1030=A0:=by rfl
 Fp:Φ 1031=uv:=by rfl
 Fn:Φ 1032=Cn:=by rfl
 Fj:Φ 1033=ur:=by rfl
 Fh:Φ 1035=nS:=by rfl
 SH:Φ 1036=yN:=by rfl
 Fg:Φ 1040=ON:=by rfl
 Ff:Φ 1100=nU:=by rfl
variable {Φ:au}
theorem VR(q:Pq Φ):ng px Φ:=⟨(λX sc bl k L p e args he F cs hs=>by
  dsimp only[px]at he;by_cases hp:p=1020
  ·subst hp;rw[if_pos rfl]at he;exact N_ q.Fs L he hs
  rw[if_neg hp]at he;clear hp;by_cases hp:p=1022
  ·subst hp;rw[if_pos rfl]at he;exact SK q.oY L he hs
  rw[if_neg hp]at he;clear hp;by_cases hp:p=1030
  ·subst hp;rw[if_pos rfl]at he;exact Jd q.Fq L he hs
  rw[if_neg hp]at he;clear hp;by_cases hp:p=1031
  ·subst hp;rw[if_pos rfl]at he;exact Jg q.Fp L he hs
  rw[if_neg hp]at he;clear hp;by_cases hp:p=1032
  ·subst hp;rw[if_pos rfl]at he;exact N7 q.Fn L he hs
  rw[if_neg hp]at he;clear hp;by_cases hp:p=1035
  ·subst hp;rw[if_pos rfl]at he;exact FQ q.Fh L he hs
  rw[if_neg hp]at he;clear hp;by_cases hp:p=1036
  ·subst hp;rw[if_pos rfl]at he;exact Mb q.SH L he hs
  rw[if_neg hp]at he;clear hp;by_cases hp:p=1040
  ·subst hp;rw[if_pos rfl]at he;exact Rj q.Fg L he hs
  rw[if_neg hp]at he;clear hp;cases he),(λX sc bl k L p e args he F cs tg ht hs pins s σ H R τ ρ xs d items I Si bV ed ei Rr hR=>by
  dsimp only[px]at he;by_cases hp:p=1000
  ·subst hp;rw[if_pos rfl]at he;exact Ky q.j3 L he ht hs I Si bV ed ei Rr hR
  rw[if_neg hp]at he;clear hp;by_cases hp:p=1100
  ·subst hp;rw[if_pos rfl]at he;exact FR q.Ff L he ht hs I Si bV ed ei Rr hR
  rw[if_neg hp]at he;clear hp;cases he)⟩
theorem prM(q:Pq Φ):Bl px Φ:=⟨(λX sc bl k L hN sT p st x pos args he i hi hl pe F cs hs=>by
  dsimp only[px]at he;by_cases hp:p=1014
  ·subst hp;rw[if_pos rfl]at he;exact Od q.SJ L hN sT he hi hl pe hs
  rw[if_neg hp]at he;clear hp;by_cases hp:p=1033
  ·subst hp;rw[if_pos rfl]at he;exact Jc q.Fj L hN sT he hi hl pe hs
  rw[if_neg hp]at he;clear hp;cases he)⟩
theorem pr(q:Pq Φ):ng px Φ/\Bl px Φ:=⟨VR q,prM q⟩
noncomputable def PT:au
 | 1000=>sL
 | 1014=>F0
 | 1020=>(cutD true)
 | 1022=>Nh
 | 1030=>A0
 | 1031=>uv
 | 1032=>Cn
 | 1033=>ur
 | 1035=>nS
 | 1036=>yN
 | 1040=>ON
 | 1100=>nU
 | _=>λ_=>none
noncomputable def lW:au
 | n=>PT n
noncomputable def cF:List D->O D:=mk lW 2 4 (mY)
noncomputable def oH:au
 | 201=>cF
 | n=>PT n
noncomputable def dA:List D->O D:=mk oH 2 2 (uD 201)
noncomputable def ko:au
 | 202=>dA
 | n=>PT n
noncomputable def kg:List D->O D:=mk ko 1 8 (mW)
noncomputable def eV:au
 | 213=>kg
 | n=>PT n
noncomputable def di:List D->O D:=mk eV 1 2 (kM)
noncomputable def eX:au
 | 233=>di
 | n=>PT n
noncomputable def eR:List D->O D:=mk eX 1 1 (Js)
noncomputable def lX:au
 | n=>PT n
noncomputable def jh:List D->O D:=mk lX 2 4 (eN)
noncomputable def jr:au
 | n=>PT n
noncomputable def jg:List D->O D:=mk jr 1 1 (kN)
noncomputable def ia:au
 | 200=>jh
 | 201=>cF
 | n=>PT n
noncomputable def hJ:List D->O D:=mk ia 3 10 (kP)
noncomputable def sA:au
 | n=>PT n
noncomputable def so:List D->O D:=mk sA 1 1 (Bc)
noncomputable def lV:au
 | 201=>cF
 | n=>PT n
noncomputable def lP:List D->O D:=mk lV 2 4 (qc)
noncomputable def oG:au
 | 201=>cF
 | n=>PT n
noncomputable def iJ:List D->O D:=mk oG 2 2 (kH 201)
noncomputable def kr:au
 | 202=>dA
 | 203=>iJ
 | n=>PT n
noncomputable def gO:List D->O D:=mk kr 3 5 (mX)
noncomputable def lU:au
 | 202=>dA
 | 203=>iJ
 | 231=>gO
 | n=>PT n
noncomputable def jf:List D->O D:=mk lU 3 6 (qb)
noncomputable def kn:au
 | 201=>cF
 | 233=>di
 | n=>PT n
noncomputable def kf:List D->O D:=mk kn 1 1 (v7)
noncomputable def km:au
 | 202=>dA
 | n=>PT n
noncomputable def gN:List D->O D:=mk km 1 3 (v5)
noncomputable def lY:au
 | n=>PT n
noncomputable def f9:List D->O D:=mk lY 1 1 (i4)
noncomputable def jw:au
 | 0=>f9
 | n=>PT n
noncomputable def fJ:List D->O D:=mk jw 2 2 (cO)
noncomputable def d4:au
 | n=>PT n
noncomputable def bX:List D->O D:=mk d4 2 3 (cN)
noncomputable def ic:au
 | 0=>f9
 | 1=>bX
 | n=>PT n
noncomputable def eF:List D->O D:=mk ic 1 1 (bt)
noncomputable def sC:au
 | 3=>eF
 | 43=>fJ
 | n=>PT n
noncomputable def sr:List D->O D:=mk sC 2 2 (m5)
noncomputable def kl:au
 | n=>PT n
noncomputable def kc:List D->O D:=mk kl 1 3 (gJ)
noncomputable def eY:au
 | 1=>bX
 | n=>PT n
noncomputable def dj:List D->O D:=mk eY 1 3 (cf)
noncomputable def ki:au
 | n=>PT n
noncomputable def gM:List D->O D:=mk ki 2 2 (gH)
noncomputable def gf:au
 | 9=>dj
 | 10=>gM
 | n=>PT n
noncomputable def bW:List D->O D:=mk gf 1 4 (kG)
noncomputable def hZ:au
 | 14=>bW
 | n=>PT n
noncomputable def g_:List D->O D:=mk hZ 1 2 (ej)
noncomputable def lZ:au
 | 0=>f9
 | 12=>sr
 | 15=>g_
 | 44=>kc
 | n=>PT n
noncomputable def lQ:List D->O D:=mk lZ 1 4 (i5)
noncomputable def sD:au
 | 43=>fJ
 | n=>PT n
noncomputable def su:List D->O D:=mk sD 2 2 (iH)
noncomputable def js:au
 | 11=>su
 | 45=>lQ
 | n=>PT n
noncomputable def ji:List D->O D:=mk js 1 1 (fD)
noncomputable def e_:au
 | 16=>ji
 | n=>PT n
noncomputable def bI:List D->O D:=mk e_ 1 1 (dg)
noncomputable def fb:au
 | 3=>eF
 | n=>PT n
noncomputable def cg:List D->O D:=mk fb 2 2 (bH)
noncomputable def il:au
 | 40=>cg
 | n=>PT n
noncomputable def hV:List D->O D:=mk il 2 2 (ez)
noncomputable def gi:au
 | 40=>cg
 | n=>PT n
noncomputable def bA:List D->O D:=mk gi 2 2 (i6 40 4)
noncomputable def ig:au
 | 1=>bX
 | n=>PT n
noncomputable def aY:List D->O D:=mk ig 2 3 (cj)
noncomputable def ku:au
 | 2=>aY
 | n=>PT n
noncomputable def kh:List D->O D:=mk ku 2 2 (oj 2)
noncomputable def iq:au
 | 5=>kh
 | 17=>bI
 | 47=>bA
 | 90=>hV
 | n=>PT n
noncomputable def eG:List D->O D:=mk iq 3 3 (m6)
noncomputable def l4:au
 | 2=>aY
 | n=>PT n
noncomputable def lR:List D->O D:=mk l4 2 2 (uD 2)
noncomputable def eZ:au
 | 40=>cg
 | n=>PT n
noncomputable def dm:List D->O D:=mk eZ 2 2 (i6 40 3)
noncomputable def jv:au
 | 2=>aY
 | n=>PT n
noncomputable def jm:List D->O D:=mk jv 2 2 (kH 2)
noncomputable def lT:au
 | 9=>dj
 | 10=>gM
 | n=>PT n
noncomputable def jc:List D->O D:=mk lT 1 2 (i3)
noncomputable def h_:au
 | 6=>jm
 | 41=>jc
 | n=>PT n
noncomputable def eE:List D->O D:=mk h_ 3 5 (eu)
noncomputable def oE:au
 | 2=>aY
 | 14=>bW
 | n=>PT n
noncomputable def oz:List D->O D:=mk oE 2 4 (kK)
noncomputable def jt:au
 | 17=>bI
 | 46=>dm
 | 47=>bA
 | 48=>eE
 | 49=>oz
 | n=>PT n
noncomputable def jk:List D->O D:=mk jt 3 3 (fE)
noncomputable def ju:au
 | 2=>aY
 | 41=>jc
 | n=>PT n
noncomputable def jl:List D->O D:=mk ju 1 2 (fF)
noncomputable def lS:au
 | 42=>jl
 | 47=>bA
 | n=>PT n
noncomputable def lO:List D->O D:=mk lS 1 1 (iZ)
noncomputable def jn:au
 | 4=>lR
 | 51=>jk
 | 52=>lO
 | 91=>eG
 | n=>PT n
noncomputable def fI:List D->O D:=mk jn 3 4 (qa)
noncomputable def kj:au
 | 2=>aY
 | 14=>bW
 | n=>PT n
noncomputable def kb:List D->O D:=mk kj 2 6 (gI)
noncomputable def gh:au
 | 17=>bI
 | 46=>dm
 | 47=>bA
 | 48=>eE
 | 50=>kb
 | n=>PT n
noncomputable def f_:List D->O D:=mk gh 3 3 (kO)
noncomputable def gg:au
 | 65=>f_
 | 91=>eG
 | n=>PT n
noncomputable def dI:List D->O D:=mk gg 3 4 (kJ)
noncomputable def oI:au
 | 2=>aY
 | n=>PT n
noncomputable def oA:List D->O D:=mk oI 2 2 (Gd 2)
noncomputable def ib:au
 | 2=>aY
 | n=>PT n
noncomputable def hU:List D->O D:=mk ib 3 4 (qd)
noncomputable def jo:au
 | 14=>bW
 | 17=>bI
 | 19=>hU
 | n=>PT n
noncomputable def jd:List D->O D:=mk jo 1 2 (mV)
noncomputable def eU:au
 | 7=>oA
 | 20=>jd
 | n=>PT n
noncomputable def eP:List D->O D:=mk eU 1 1 (p_)
noncomputable def cH:au
 | 53=>eP
 | n=>PT n
noncomputable def gd:List D->O D:=mk cH 1 2 (v9)
noncomputable def cG:au
 | 47=>bA
 | 94=>gd
 | n=>PT n
noncomputable def fZ:List D->O D:=OH cG 2 3 (t_) 2 (.bf .list1 [(.v 1)])
noncomputable def eW:au
 | 92=>fI
 | 93=>dI
 | 95=>fZ
 | 207=>kf
 | 249=>gN
 | n=>PT n
noncomputable def eQ:List D->O D:=mk eW 3 5 (rY)
noncomputable def oF:au
 | 201=>cF
 | n=>PT n
noncomputable def kS:List D->O D:=mk oF 2 2 (oj 201)
noncomputable def jq:au
 | 202=>dA
 | 203=>iJ
 | 222=>kS
 | 231=>gO
 | 232=>jf
 | n=>PT n
noncomputable def je:List D->O D:=mk jq 3 8 (kL)
noncomputable def Bo:au
 | 92=>fI
 | 93=>dI
 | 95=>fZ
 | 200=>jh
 | 202=>dA
 | 204=>so
 | 212=>hJ
 | 215=>jg
 | 222=>kS
 | 230=>lP
 | 232=>jf
 | 234=>eR
 | 237=>je
 | 249=>gN
 | 250=>eQ
 | n=>PT n
def Ys:Nat->List D->Prop
 | 94=>Oq
 | 95=>Tv
 | _=>λ_=>False
theorem BA:gL cF:=Hv lW
theorem Bz:dQ dA:=JQ oH (f:=201) BA
theorem Vr:sg kg:=DG ko Bz
theorem Qg:kR di:=BH eV Vr
theorem Vo:Ox eR:=VA eX Qg
theorem Qk:si jh:=Lr lX
theorem Vq:ou jg:=BI jr
theorem Vs:oy hJ:=BK ia ⟨rfl,rfl,rfl,rfl,rfl,rfl⟩ Qk BA
theorem Vu:Gi so:=Qx sA
theorem Vp:wg lP:=Hu lV BA
theorem K1:dH iJ:=zZ oG (f:=201) BA
theorem Qi:iI gO:=DH kr Bz K1
theorem Qh:qf jf:=Ht lU Bz K1 Qi
theorem Vt:sf kf:=DF kn BA Qg
theorem Qf:r_ gN:=Lo km Bz
theorem t0:du f9:=iT lY
theorem YU:fH fJ:=fj jw t0
theorem t1:aQ bX:=cJ d4
theorem t3:cY eF:=d7 ic t0 t1
theorem t12:m_ sr:=mx sC t3 YU
theorem t44:ka kc:=gq kl rfl rfl rfl
theorem t9:dh dj:=cZ eY t1
theorem YW:gK gM:=gn ki
theorem TR:fM bW:=BE gf t9 YW rfl
theorem t15:gY g_:=d5 hZ TR
theorem t45:Gj lQ:=iU lZ t0 t12 t15 t44
theorem t11:sh su:=my sD YU
theorem t16:Ou ji:=fg js t11 t45
theorem TQ:dY bI:=c_ e_ t16
theorem Vl:eO cg:=de fb t3
theorem t90:gZ hV:=d9 il Vl
theorem Qe:eD 4 jJ bA:=z_ gi (f:=40) uE Vl
theorem t2:bP aY:=d8 ig t1
theorem t5:i_ kh:=DJ ku (f:=2) t2.1
theorem YQ:nc eG:=DK iq t5 TQ Qe t90 rfl
theorem t4:dQ lR:=JQ l4 (f:=2) t2.1
theorem YT:eD 3 jJ dm:=z_ eZ (f:=40) uE Vl
theorem t6:dH jm:=zZ jv (f:=2) t2.1
theorem YV:i9 jc:=iS lT t9 YW
theorem YS:eA eE:=d6 h_ t6 YV rfl
theorem t49:oq oz:=kC oE t2 TR rfl
theorem t51:ja jk:=fh jt TQ YT Qe YS t49
theorem t42:jb jl:=fi ju t2 YV
theorem t52:lN lO:=iR lS t42 Qe
theorem YO:m9 fI:=Hs jn t4 t51 t52 YQ
theorem t50:j_ kb:=gp kj t2 TR rfl
theorem t65:ox f_:=BJ gh TQ YT Qe YS t50
theorem YN:kQ dI:=BG gg t65 YQ
theorem t7:Ow oA:=s_by oI (f:=2) t2
theorem t19:wj hU:=Hw ib t2
theorem t20:r9 jd:=DE jo TR TQ t19
theorem YR:qe eP:=Hr eU t7 t20
theorem t94:zI gd:=Lq cH YR rfl
theorem t95:oo fZ:=BF cG Qe t94
theorem Vm:zH eQ:=Lm eW YO YN t95 Vt Qf rfl
theorem Qj:i_ kS:=DJ oF (f:=201) BA
theorem Vn:se je:=Lp jq Bz K1 Qj Qi Qh
theorem BY:∀ ns:List Int,∃ fo,aT Bo mZ (some (D.lst .sc (aa ns))::List.replicate 13 none)=ok fo/\o3 (TT Bo Ys 6 12 Yf) (.bl true) fo:=Rq Bo Ys ⟨YO,YN,Qk,Bz,Vu,Vs,Vq,Qj,Vp,Qh,Vo,Vn,Qf,Vm⟩ λ_ h=>h
abbrev qz:Stmt:=top 56
theorem xZ:dP qz ["_law_top","_law_bottom","_law_one","_law_other"] ["_law_top","_law_bottom"] [] ["abs"] [] px (mY)=true:=by decide +kernel
abbrev tV:Stmt:=top 57
theorem zu:dP tV ["_law_one","_law_other"] ["_law_one","_law_other"] [(201,"_law_frac")] [] [] px (uD 201)=true:=by decide +kernel
abbrev oP:Stmt:=top 62
theorem vN:dP oP ["_law_drawing_here","_law_found","_law_house","_law_row","_law_other","_law_share","_law_chance","_law_lot"] ["_law_drawing_here"] [(202,"_law_add")] ["range"] [] px (mW)=true:=by decide +kernel
abbrev jA:Stmt:=top 63
theorem nW:dP jA ["_law_drawing_here","_law_pairs_here"] ["_law_drawing_here"] [(213,"_law_pairs")] ["range"] [] px (kM)=true:=by decide +kernel
abbrev jC:Stmt:=top 64
theorem nY:dP jC ["_law_drawing_here"] ["_law_drawing_here"] [(233,"_law_shares_of")] ["len"] [] px (Js)=true:=by decide +kernel
abbrev qA:Stmt:=top 55
theorem x4:dP qA ["_law_script","_law_k","_law_cell_here","_law_number"] ["_law_script","_law_k"] [] ["len"] [] px (eN)=true:=by decide +kernel
abbrev mq:Stmt:=top 70
theorem s_:dP mq ["_law_drawing_here"] ["_law_drawing_here"] [] ["list"] [] px (kN)=true:=by decide +kernel
abbrev kZ:Stmt:=top 60
theorem rQ:dP kZ ["_law_script","_law_at","_law_most","_law_number","_law_many","_law_lots","_law_k","_law_other","_law_lot","_law_whole"] ["_law_script","_law_at","_law_most"] [(200,"_law_cell"),(201,"_law_frac")] ["range","sorted","sum","tuple"] [] px (kP)=true:=by decide +kernel
abbrev wX:Stmt:=top 69
theorem Cp:dP wX ["_law_found"] ["_law_found"] [] ["bool","int","isinstance","len","tuple"] [] px (Bc)=true:=by decide +kernel
abbrev qy:Stmt:=top 61
theorem xY:dP qy ["_law_number","_law_many","_law_found","_law_k"] ["_law_number","_law_many"] [(201,"_law_frac")] ["range"] [] px (qc)=true:=by decide +kernel
abbrev tU:Stmt:=top 58
theorem zt:dP tU ["_law_one","_law_other"] ["_law_one","_law_other"] [(201,"_law_frac")] [] [] px (kH 201)=true:=by decide +kernel
abbrev oQ:Stmt:=top 66
theorem vO:dP oQ ["_law_weights","_law_lot","_law_worths","_law_found","_law_house"] ["_law_weights","_law_lot","_law_worths"] [(202,"_law_add"),(203,"_law_mul")] [] [] px (mX)=true:=by decide +kernel
abbrev qx:Stmt:=top 67
theorem xX:dP qx ["_law_drawing_here","_law_weights","_law_worths","_law_found","_law_chance","_law_lot"] ["_law_drawing_here","_law_weights","_law_worths"] [(202,"_law_add"),(203,"_law_mul"),(231,"_law_guess")] [] [] px (qb)=true:=by decide +kernel
abbrev oO:Stmt:=top 65
theorem vM:dP oO ["_law_drawing_here"] ["_law_drawing_here"] [(201,"_law_frac"),(233,"_law_shares_of")] [] [] px (v7)=true:=by decide +kernel
abbrev oN:Stmt:=top 71
theorem vL:dP oN ["_law_worths","_law_found","_law_worth"] ["_law_worths"] [(202,"_law_add")] [] [] px (v5)=true:=by decide +kernel
abbrev iT:Stmt:=top 9
theorem x5:dP iT ["thing"] ["thing"] [] ["bool","int","isinstance"] [] px (i4)=true:=by decide +kernel
abbrev fj:Stmt:=top 24
theorem tu:dP fj ["thing","many"] ["thing","many"] [(0,"is_whole")] ["all","isinstance","len","set","tuple"] [] px (cO)=true:=by decide +kernel
abbrev cJ:Stmt:=top 10
theorem mT:dP cJ ["one","other","rest"] ["one","other"] [] ["abs"] [] px (cN)=true:=by decide +kernel
abbrev d7:Stmt:=top 12
theorem rS:dP d7 ["thing"] ["thing"] [(0,"is_whole"),(1,"common_divisor")] ["isinstance","len","tuple"] [] px (bt)=true:=by decide +kernel
abbrev mx:Stmt:=top 26
theorem Cq:dP mx ["thing","many"] ["thing","many"] [(3,"is_fraction"),(43,"are_houses")] ["isinstance","len","tuple"] [] px (m5)=true:=by decide +kernel
abbrev gq:Stmt:=top 27
theorem vK:dP gq ["rows","ahead","behind"] ["rows"] [] ["zip"] [] px (gJ)=true:=by decide +kernel
abbrev cZ:Stmt:=top 18
theorem nZ:dP cZ ["some","bottom","part"] ["some"] [(1,"common_divisor")] [] [] px (cf)=true:=by decide +kernel
abbrev gn:Stmt:=top 19
theorem vI:dP gn ["some","bottom"] ["some","bottom"] [] [] [] px (gH)=true:=by decide +kernel
abbrev jQ:Stmt:=top 28
theorem pw:dP jQ ["rows","chances","lots","bottom"] ["rows"] [(9,"common_bottom"),(10,"tops_over")] ["list","zip"] [] px (kG)=true:=by decide +kernel
abbrev d5:Stmt:=top 29
theorem rO:dP d5 ["rows","weighed"] ["rows"] [(14,"weighed_lots")] ["sum"] [] px (ej)=true:=by decide +kernel
abbrev iU:Stmt:=top 30
theorem x6:dP iU ["thing","many","rows","row"] ["thing"] [(0,"is_whole"),(12,"is_row"),(15,"sums_to_one"),(44,"rows_rise")] ["isinstance","len","list","tuple"] [("MOST_HOUSES",GK.i 12)] px (i5)=true:=by decide +kernel
abbrev my:Stmt:=top 25
theorem Cr:dP my ["thing","many"] ["thing","many"] [(43,"are_houses")] ["list","sorted"] [] px (iH)=true:=by decide +kernel
abbrev fg:Stmt:=top 31
theorem tf:dP fg ["thing"] ["thing"] [(11,"is_lot"),(45,"is_drawn")] ["all"] [] px (fD)=true:=by decide +kernel
abbrev c_:Stmt:=top 32
theorem og:dP c_ ["thing"] ["thing"] [(16,"is_drawing")] [] [] px (dg)=true:=by decide +kernel
abbrev de:Stmt:=top 13
theorem oh:dP de ["thing","many"] ["thing","many"] [(3,"is_fraction")] ["all","isinstance","len","list"] [] px (bH)=true:=by decide +kernel
abbrev d9:Stmt:=top 48
theorem rV:dP d9 ["thing","many"] ["thing","many"] [(40,"are_fractions")] ["isinstance","len","tuple"] [] px (ez)=true:=by decide +kernel
abbrev jT:Stmt:=top 38
theorem pC:dP jT ["thing","many"] ["thing","many"] [(40,"are_fractions")] [] [] px (i6 40 4)=true:=by decide +kernel
abbrev d8:Stmt:=top 11
theorem rT:dP d8 ["top","bottom","divisor"] ["top","bottom"] [(1,"common_divisor")] [] [] px (cj)=true:=by decide +kernel
abbrev oR:Stmt:=top 15
theorem vP:dP oR ["one","other"] ["one","other"] [(2,"fraction_of")] [] [] px (oj 2)=true:=by decide +kernel
abbrev k8:Stmt:=top 49
theorem rW:dP k8 ["drawing","guess","worths"] ["drawing","guess","worths"] [(5,"frac_less"),(17,"check_drawing"),(47,"check_worths"),(90,"check_moved")] ["zip"] [] px (m6)=true:=by decide +kernel
abbrev qB:Stmt:=top 14
theorem x8:dP qB ["one","other"] ["one","other"] [(2,"fraction_of")] [] [] px (uD 2)=true:=by decide +kernel
abbrev jD:Stmt:=top 37
theorem n_:dP jD ["thing","many"] ["thing","many"] [(40,"are_fractions")] [] [] px (i6 40 3)=true:=by decide +kernel
abbrev mz:Stmt:=top 16
theorem tq:dP mz ["one","other"] ["one","other"] [(2,"fraction_of")] [] [] px (kH 2)=true:=by decide +kernel
abbrev iS:Stmt:=top 20
theorem xW:dP iS ["some","bottom"] ["some"] [(9,"common_bottom"),(10,"tops_over")] [] [] px (i3)=true:=by decide +kernel
abbrev d6:Stmt:=top 39
theorem rP:dP d6 ["drawing","weights","worths","parts","tops"] ["drawing","weights","worths"] [(6,"frac_times"),(41,"over_one")] ["sum","zip"] [] px (eu)=true:=by decide +kernel
abbrev kC:Stmt:=top 40
theorem zq:dP kC ["rows","guesses","weighed","total"] ["rows","guesses"] [(2,"fraction_of"),(14,"weighed_lots")] ["sum","zip"] [] px (kK)=true:=by decide +kernel
abbrev fh:Stmt:=top 42
theorem tj:dP fh ["drawing","weights","worths"] ["drawing","weights","worths"] [(17,"check_drawing"),(46,"check_weights"),(47,"check_worths"),(48,"lot_guesses"),(49,"mean_of")] [] [] px (fE)=true:=by decide +kernel
abbrev fi:Stmt:=top 21
theorem tm:dP fi ["some","tops"] ["some"] [(2,"fraction_of"),(41,"over_one")] ["sum"] [] px (fF)=true:=by decide +kernel
abbrev iR:Stmt:=top 43
theorem xV:dP iR ["worths"] ["worths"] [(42,"frac_total"),(47,"check_worths")] ["isinstance","len","list"] [("MOST_HOUSES",GK.i 12)] px (iZ)=true:=by decide +kernel
abbrev ml:Stmt:=top 50
theorem sX:dP ml ["drawing","guess","worths","beyond"] ["drawing","guess","worths"] [(4,"frac_sum"),(51,"guess_mean"),(52,"whole_of"),(91,"beyond_base")] [] [] px (qa)=true:=by decide +kernel
abbrev gp:Stmt:=top 41
theorem vJ:dP gp ["rows","guesses","weighed","total","squares","bottom"] ["rows","guesses"] [(2,"fraction_of"),(14,"weighed_lots")] ["sum","zip"] [] px (gI)=true:=by decide +kernel
abbrev jS:Stmt:=top 46
theorem pA:dP jS ["drawing","weights","worths"] ["drawing","weights","worths"] [(17,"check_drawing"),(46,"check_weights"),(47,"check_worths"),(48,"lot_guesses"),(50,"spread_of")] [] [] px (kO)=true:=by decide +kernel
abbrev jR:Stmt:=top 51
theorem pz:dP jR ["drawing","guess","worths","beyond"] ["drawing","guess","worths"] [(65,"guess_spread"),(91,"beyond_base")] [] [] px (kJ)=true:=by decide +kernel
abbrev tW:Stmt:=top 17
theorem zw:dP tW ["one","other"] ["one","other"] [(2,"fraction_of")] [] [] px (Gd 2)=true:=by decide +kernel
abbrev k7:Stmt:=top 33
theorem rR:dP k7 ["weighed","one","other","having"] ["weighed","one","other"] [(2,"fraction_of")] ["sum"] [] px (qd)=true:=by decide +kernel
abbrev mm:Stmt:=top 34
theorem sY:dP mm ["drawing","weighed"] ["drawing"] [(14,"weighed_lots"),(17,"check_drawing"),(19,"joint_share")] ["range"] [] px (mV)=true:=by decide +kernel
abbrev jz:Stmt:=top 44
theorem nV:dP jz ["drawing"] ["drawing"] [(7,"frac_by"),(20,"lot_shares")] [] [("ONE",GK.t [1,1])] px (p_)=true:=by decide +kernel
abbrev bx:Stmt:=top 52
abbrev jx:Sx:=⟨ae bx,["drawing","weights"],λn=>List.lookup n [(53,"right_weights")],[],[],px⟩
theorem pj:IG ["drawing","weights"] ["drawing"] (ae bx)=true:=by decide +kernel
theorem pF:∃ te m j p np cpos rp ip tr,(aE bx).drop 1=.If te [.Raise (some (.Call (.Name "NoPair" np) [.Constant (.str m) j p] [] cpos)) none rp] [] ip::tr/\(cE jx ([.asg (.nm 1) (.call 53 [(.v 0)])]) ((aE bx).take 1)&&(br jx (.cw 1036 [.bh,(.v 1)]) te&&(fV (ae bx) "NoPair" && !(("NoPair" : Str)==("__debug__" : Str)))))=true:=⟨_,_,_,_,_,_,_,_,_,rfl,by decide +kernel⟩
theorem pB:dP bx ["drawing","weights"] ["drawing"] [(53,"right_weights")] [] [] px (v9)=true:=by decide +kernel
abbrev aZ:Stmt:=top 53
abbrev cc:Sx:=⟨ae aZ,["drawing","worths","weights"],λn=>List.lookup n [(47,"check_worths"),(94,"full_weights")],["list"],[],px⟩
theorem jE:IG ["drawing","worths","weights"] ["drawing","worths"] (ae aZ)=true:=by decide +kernel
theorem pG:∃ v2 nn p1 pos rp,(aE aZ).drop 2=[.Return (some (.Tuple [.Name "weights" p1,v2] nn pos)) rp]/\(cE cc (t_) ((aE aZ).take 2)&&(lL cc 2 (.Name "weights" p1)&&(lB "weights" && br cc (.bf .list1 [(.v 1)]) v2)))=true:=⟨_,_,_,_,_,rfl,by decide +kernel⟩
theorem pE:∃ e es np cpos rp p tr,(aE aZ).drop 0=.Assign [.Name "weights" p] (.Call (.Name "full_weights" np) (e::es) [] cpos) rp::tr/\(cE cc ([]) ((aE aZ).take 0)&&(bc cc ([(.v 0)]) (e::es)&&((fV (ae aZ) "full_weights" && !(("full_weights" : Str)==("__debug__" : Str)))&&(decide ((["drawing","worths","weights"]:List Str)[2]?=some ("weights" : Str))&&decide ((ae aZ).names.lookup ("weights" : Str)=some NameKind.local)))))=true:=⟨_,_,_,_,_,_,_,rfl,by decide +kernel⟩
abbrev jB:Stmt:=top 72
theorem nX:dP jB ["_law_drawing_here","_law_worths","_law_some","_law_guess_here","_law_one"] ["_law_drawing_here","_law_worths","_law_some"] [(92,"moved_mean"),(93,"moved_spread"),(95,"nought_guess"),(207,"_law_right"),(249,"_law_total")] ["isinstance","tuple"] [] px (rY)=true:=by decide +kernel
abbrev tT:Stmt:=top 59
theorem zr:dP tT ["_law_one","_law_other"] ["_law_one","_law_other"] [(201,"_law_frac")] [] [] px (oj 201)=true:=by decide +kernel
abbrev mn:Stmt:=top 68
theorem sZ:dP mn ["_law_drawing_here","_law_weights","_law_worths","_law_mean_here","_law_found","_law_chance","_law_lot","_law_gap"] ["_law_drawing_here","_law_weights","_law_worths"] [(202,"_law_add"),(203,"_law_mul"),(222,"_law_sub"),(231,"_law_guess"),(232,"_law_mean")] [] [] px (kL)=true:=by decide +kernel
abbrev mw:Stmt:=top 73
abbrev Dh:Sx:=⟨ae mw,["_law_script","_law_drawing_here","_law_many","_law_weights","_law_base","_law_worths","_law_handed","_law_moved","_law_mean_here","_law_spread_here","_law_some","_law_house","_law_kept","e"],λn=>List.lookup n [(92,"moved_mean"),(93,"moved_spread"),(95,"nought_guess"),(200,"_law_cell"),(202,"_law_add"),(204,"_law_is"),(212,"_law_drawing"),(215,"_law_copied"),(222,"_law_sub"),(230,"_law_list"),(232,"_law_mean"),(234,"_law_all_asked"),(237,"_law_spread"),(249,"_law_total"),(250,"_law_right_one")],["int","list","range"],[],px⟩
theorem Nl:IG ["_law_script","_law_drawing_here","_law_many","_law_weights","_law_base","_law_worths","_law_handed","_law_moved","_law_mean_here","_law_spread_here","_law_some","_law_house","_law_kept","e"] ["_law_script"] (ae mw)=true:=by decide +kernel
theorem Ma:Y7 (ae mw) ["_law_script","_law_drawing_here","_law_many","_law_weights","_law_base","_law_worths","_law_handed","_law_moved","_law_mean_here","_law_spread_here","_law_some","_law_house","_law_kept","e"] "ShareError" "NoPair" "e" "_law_kept" 13 12=true:=by decide +kernel
theorem Oa:cE Dh (mZ) ((aE mw).take 14)=true:=by decide +kernel
theorem Oe:∃ Qn ie j1 q1 q2 q3 np p1 p2 p3 hpos pos rp,(aE mw).drop 14=[.Assign [.Name "_law_kept" q1] (.Constant .none j1 q2) q3,.Try [Qn] [.ExceptHandler (some (.Name "ShareError" np)) (some "e") [.Assign [.Name "_law_kept" p1] (.Name "e" p2) p3] hpos] [] [] pos,.Return (some ie) rp]/\F1 Dh Yf Qn=true/\Io "_law_kept" (UO "NoPair") ie=some true:=⟨_,_,_,_,_,_,_,_,_,_,_,_,_,rfl,by decide +kernel,by decide +kernel⟩
theorem all_mk{l:PySem.W.OpenLaw}{w:World}{K:PySem.W.Frag}{h:Heap}{mg:Str->Option Value}{fa t1 gB gC:Addr}{to1:Option Addr}{tn1:Nat}{ts1:Array (Option Value)}{PV PU:Tok}{u0:Value}(X:K.In h)(G:h.Ns mainGlobals mg)(hfa:mg "law" = some (.ref fa))
  (a0:Df K "_law_frac" qz)
  (a1:Df K "_law_add" tV)
  (a2:Df K "_law_pairs" oP)
  (a3:Df K "_law_shares_of" jA)
  (a4:Df K "_law_all_asked" jC)
  (a5:Df K "_law_cell" qA)
  (a6:Df K "_law_copied" mq)
  (a7:Df K "_law_drawing" kZ)
  (a8:Df K "_law_is" wX)
  (a9:Df K "_law_list" qy)
  (a10:Df K "_law_mul" tU)
  (a11:Df K "_law_guess" oQ)
  (a12:Df K "_law_mean" qx)
  (a13:Df K "_law_right" oO)
  (a14:Df K "_law_total" oN)
  (a15:Df K "is_whole" iT)
  (a16:Df K "are_houses" fj)
  (a17:Df K "common_divisor" cJ)
  (a18:Df K "is_fraction" d7)
  (a19:Df K "is_row" mx)
  (a20:Df K "rows_rise" gq)
  (a21:Df K "common_bottom" cZ)
  (a22:Df K "tops_over" gn)
  (a23:Df K "weighed_lots" jQ)
  (a24:Df K "sums_to_one" d5)
  (a25:Df K "is_drawn" iU)
  (a26:Df K "is_lot" my)
  (a27:Df K "is_drawing" fg)
  (a28:Df K "check_drawing" c_)
  (a29:Df K "are_fractions" de)
  (a30:Df K "check_moved" d9)
  (a31:Df K "check_worths" jT)
  (a32:Df K "fraction_of" d8)
  (a33:Df K "frac_less" oR)
  (a34:Df K "beyond_base" k8)
  (a35:Df K "frac_sum" qB)
  (a36:Df K "check_weights" jD)
  (a37:Df K "frac_times" mz)
  (a38:Df K "over_one" iS)
  (a39:Df K "lot_guesses" d6)
  (a40:Df K "mean_of" kC)
  (a41:Df K "guess_mean" fh)
  (a42:Df K "frac_total" fi)
  (a43:Df K "whole_of" iR)
  (a44:Df K "moved_mean" ml)
  (a45:Df K "spread_of" gp)
  (a46:Df K "guess_spread" jS)
  (a47:Df K "moved_spread" jR)
  (a48:Df K "frac_by" tW)
  (a49:Df K "joint_share" k7)
  (a50:Df K "lot_shares" mm)
  (a51:Df K "right_weights" jz)
  (a52:Df K "full_weights" bx)
  (a53:Df K "nought_guess" aZ)
  (a54:Df K "_law_right_one" jB)
  (a55:Df K "_law_sub" tT)
  (a56:Df K "_law_spread" mn)
  (a57:Df K "law" mw)
  (z0:PySem.W.nsIn K mainGlobals "abs" = some none)
  (z1:PySem.W.nsIn K mainGlobals "all" = some none)
  (z2:PySem.W.nsIn K mainGlobals "bool" = some none)
  (z3:PySem.W.nsIn K mainGlobals "int" = some none)
  (z4:PySem.W.nsIn K mainGlobals "isinstance" = some none)
  (z5:PySem.W.nsIn K mainGlobals "len" = some none)
  (z6:PySem.W.nsIn K mainGlobals "list" = some none)
  (z7:PySem.W.nsIn K mainGlobals "range" = some none)
  (z8:PySem.W.nsIn K mainGlobals "set" = some none)
  (z9:PySem.W.nsIn K mainGlobals "sorted" = some none)
  (z10:PySem.W.nsIn K mainGlobals "sum" = some none)
  (z11:PySem.W.nsIn K mainGlobals "tuple" = some none)
  (z12:PySem.W.nsIn K mainGlobals "zip" = some none)
  (q0:PySem.W.nsIn K mainGlobals "MOST_HOUSES" = some (some u0)) (r0:RelV (.int 12) u0)
  (q1:PySem.W.nsIn K mainGlobals "ONE" = some (some (.ref t1))) (r1:K.lookup t1=some ⟨.type "tuple",to1,.seq #[.int 1 PV,.int 1 PU] tn1,ts1⟩)
  (eB:PySem.W.nsIn K mainGlobals "ShareError" = some (some (.ref gB))) (eC:PySem.W.nsIn K mainGlobals "NoPair" = some (some (.ref gC))) (xB:PySem.W.excIn K gB KO "ValueError.__new__" = true) (xC:PySem.W.excIn K gC KO "ValueError.__new__" = true) (mC:PySem.W.mroIn K gC (.ref gB)=some true) (nC:gC≠gB) (vC:PySem.W.kitOne K (.ref gC) (.ref gC)=some true)
  (w1:PySem.W.findIn K (.ref gC) "__getattribute__" = some (some (.builtin "BaseException.__getattribute__"))) (w2:PySem.W.findIn K (.ref gC) "__getattr__" = some none) (w3:PySem.W.findIn K (.ref gC) "__class__" = some (some (.builtin "object.__class__"))) (w4:PySem.W.mroIn K gC (.type "BaseException")=some true) (w5:PySem.W.mroIn K gC (.type "object")=some true) :
  ∃ fd:FuncData,(∀(s:Shared) (v:Value),BindsTo s fd ⟨[v],[]⟩ [("_law_script",v)])/\∀ base:Heap,K.In base->base.Ns mainGlobals mg->eT l.prog w K mg base Bq 59 fa fd ["_law_script"] (Gq K 1 ve):=by
 obtain⟨f,fd,Fu,a⟩:=a57;have e:=hfa.symm.trans (aaY X G a);cases e;obtain⟨oc,od,kV,dc,pm,an,cd,ct,sl,rfl,_,_⟩:=id Fu.ex;have y0:=aaE X G z0;have y1:=aaE X G z1;have y2:=aaE X G z2;have y3:=aaE X G z3;have y4:=aaE X G z4;have y5:=aaE X G z5;have y6:=aaE X G z6;have y7:=aaE X G z7;have y8:=aaE X G z8;have y9:=aaE X G z9;have KC:=aaE X G z10;have JE:=aaE X G z11;have Oz:=aaE X G z12;have x0:∃ u,mg "MOST_HOUSES" = some u/\wo K (GK.i 12) u:=⟨_,aaY X G q0,r0⟩
 have x1:∃ u,mg "ONE" = some u/\wo K (GK.t [1,1]) u:=⟨_,aaY X G q1,t1,_,_,_,rfl,r1,rfl,rfl,by rw[sizeLine_eq];simp,(.cons ⟨_,rfl⟩ (.cons ⟨_,rfl⟩ .nil))⟩
 refine⟨PySem.W.fnOf "law" "law" (eh mw) (aE mw) (ae mw) .none kV dc pm an cd ct,λs v=>.of_eq rfl,λbase KB GB=>?_⟩;have N:=@en l.prog w K h base mg X G;have xc:XC K gC:=⟨w1,w2,w3,w4,w5,by
  unfold PySem.W.mroIn at w5;cases q:PySem.W.clsIn K gC with
  | none=>rw[q]at w5;cases w5
  | some _=>rfl⟩
 have O:tH "NoPair" gC mg base:=Aq KB GB eC xC;have OB:tH "ShareError" gB mg base:=Aq KB GB eB xB;have OS:sk gC gB base:=BO KB xC mC nC;have E0:=N 1 lW cF a0 xZ (pr {}) ⟨y0,trivial⟩ trivial trivial az;have E1:=N 2 oH dA a1 zu (pr {}) trivial trivial ⟨E0.u,trivial⟩ az;have E2:=N 3 ko kg a2 vN (pr {}) ⟨y7,trivial⟩ trivial ⟨E1.u,trivial⟩ az;have E3:=N 4 eV di a3 nW (pr {}) ⟨y7,trivial⟩ trivial ⟨E2.u,trivial⟩ az;have E4:=N 5 eX eR a4 nY (pr {}) ⟨y5,trivial⟩ trivial ⟨E3.u,trivial⟩ az;have E5:=N 6 lX jh a5 x4 (pr {}) ⟨y5,trivial⟩ trivial trivial az;have E6:=N 7 jr jg a6 s_ (pr {}) ⟨y6,trivial⟩ trivial trivial az;have E7:=N 8 ia hJ a7 rQ (pr {}) ⟨y7,y9,KC,JE,trivial⟩ trivial ⟨E5.u,E0.u,trivial⟩ az;have E8:=N 9 sA so a8 Cp (pr {}) ⟨y2,y3,y4,y5,JE,trivial⟩ trivial trivial az;have E9:=N 10 lV lP a9 xY (pr {}) ⟨y7,trivial⟩ trivial ⟨E0.u,trivial⟩ az;have YD:=N 11 oG iJ a10 zt (pr {}) trivial trivial ⟨E0.u,trivial⟩ az;have E11:=N 12 kr gO a11 vO (pr {}) trivial trivial ⟨E1.u,YD.u,trivial⟩ az;have E12:=N 13 lU jf a12 xX (pr {}) trivial trivial ⟨E1.u,YD.u,E11.u,trivial⟩ az;have E13:=N 14 kn kf a13 vM (pr {}) trivial trivial ⟨E0.u,E3.u,trivial⟩ az;have E14:=N 15 km gN a14 vL (pr {}) trivial trivial ⟨E1.u,trivial⟩ az;have YC:=N 16 lY f9 a15 x5 (pr {}) ⟨y2,y3,y4,trivial⟩ trivial trivial az;have E16:=N 17 jw fJ a16 tu (pr {}) ⟨y1,y4,y5,y8,JE,trivial⟩ trivial ⟨YC.u,trivial⟩ az;have YB:=N 18 d4 bX a17 mT (pr {}) ⟨y0,trivial⟩ trivial trivial az;have E18:=N 19 ic eF a18 rS (pr {}) ⟨y4,y5,JE,trivial⟩ trivial ⟨YC.u,YB.u,trivial⟩ az;have E19:=N 20 sC sr a19 Cq (pr {}) ⟨y4,y5,JE,trivial⟩ trivial ⟨E18.u,E16.u,trivial⟩ az;have E20:=N 21 kl kc a20 vK (pr {}) ⟨Oz,trivial⟩ trivial trivial az;have E21:=N 22 eY dj a21 nZ (pr {}) trivial trivial ⟨YB.u,trivial⟩ az;have E22:=N 23 ki gM a22 vI (pr {}) trivial trivial trivial az;have U0:=N 24 gf bW a23 pw (pr {}) ⟨y6,Oz,trivial⟩ trivial ⟨E21.u,E22.u,trivial⟩ az;have E24:=N 25 hZ g_ a24 rO (pr {}) ⟨KC,trivial⟩ trivial ⟨U0.u,trivial⟩ az;have E25:=N 26 lZ lQ a25 x6 (pr {}) ⟨y4,y5,y6,JE,trivial⟩ ⟨x0,trivial⟩ ⟨YC.u,E19.u,E24.u,E20.u,trivial⟩ az;have E26:=N 27 sD su a26 Cr (pr {}) ⟨y6,y9,trivial⟩ trivial ⟨E16.u,trivial⟩ az;have E27:=N 28 js ji a27 tf (pr {}) ⟨y1,trivial⟩ trivial ⟨E26.u,E25.u,trivial⟩ az;have UZ:=N 29 e_ bI a28 og (pr {}) trivial trivial ⟨E27.u,trivial⟩ az;have YA:=N 30 fb cg a29 oh (pr {}) ⟨y1,y4,y5,y6,trivial⟩ trivial ⟨E18.u,trivial⟩ az;have E30:=N 31 il hV a30 rV (pr {}) ⟨y4,y5,JE,trivial⟩ trivial ⟨YA.u,trivial⟩ az;have Pm:=N 32 gi bA a31 pC (pr {}) trivial trivial ⟨YA.u,trivial⟩ az;have Kw:=N 33 ig aY a32 rT (pr {}) trivial trivial ⟨YB.u,trivial⟩ az;have E33:=N 34 ku kh a33 vP (pr {}) trivial trivial ⟨Kw.u,trivial⟩ az;have E34:=N 35 iq eG a34 rW (pr {}) ⟨Oz,trivial⟩ trivial ⟨E33.u,UZ.u,Pm.u,E30.u,trivial⟩ az;have E35:=N 36 l4 lR a35 x8 (pr {}) trivial trivial ⟨Kw.u,trivial⟩ az;have E36:=N 37 eZ dm a36 n_ (pr {}) trivial trivial ⟨YA.u,trivial⟩ az;have E37:=N 38 jv jm a37 tq (pr {}) trivial trivial ⟨Kw.u,trivial⟩ az;have E38:=N 39 lT jc a38 xW (pr {}) trivial trivial ⟨E21.u,E22.u,trivial⟩ az;have E39:=N 40 h_ eE a39 rP (pr {}) ⟨KC,Oz,trivial⟩ trivial ⟨E37.u,E38.u,trivial⟩ az;have E40:=N 41 oE oz a40 zq (pr {}) ⟨KC,Oz,trivial⟩ trivial ⟨Kw.u,U0.u,trivial⟩ az;have E41:=N 42 jt jk a41 tj (pr {}) trivial trivial ⟨UZ.u,E36.u,Pm.u,E39.u,E40.u,trivial⟩ az;have E42:=N 43 ju jl a42 tm (pr {}) ⟨KC,trivial⟩ trivial ⟨Kw.u,E38.u,trivial⟩ az;have E43:=N 44 lS lO a43 xV (pr {}) ⟨y4,y5,y6,trivial⟩ ⟨x0,trivial⟩ ⟨E42.u,Pm.u,trivial⟩ az;have E44:=N 45 jn fI a44 sX (pr {}) trivial trivial ⟨E35.u,E41.u,E43.u,E34.u,trivial⟩ az;have E45:=N 46 kj kb a45 vJ (pr {}) ⟨KC,Oz,trivial⟩ trivial ⟨Kw.u,U0.u,trivial⟩ az;have E46:=N 47 gh f_ a46 pA (pr {}) trivial trivial ⟨UZ.u,E36.u,Pm.u,E39.u,E45.u,trivial⟩ az;have E47:=N 48 gg dI a47 pz (pr {}) trivial trivial ⟨E46.u,E34.u,trivial⟩ az;have E48:=N 49 oI oA a48 zw (pr {}) trivial trivial ⟨Kw.u,trivial⟩ az;have E49:=N 50 ib hU a49 rR (pr {}) ⟨KC,trivial⟩ trivial ⟨Kw.u,trivial⟩ az;have E50:=N 51 jo jd a50 sY (pr {}) ⟨y7,trivial⟩ trivial ⟨U0.u,UZ.u,E49.u,trivial⟩ az;have E51:=N 52 eU eP a51 nV (pr {}) trivial ⟨x1,trivial⟩ ⟨E48.u,E50.u,trivial⟩ az;have E52:=N 53 cH gd a52 pB (pr {}) trivial trivial ⟨E51.u,trivial⟩ az;obtain⟨_,_,_,_,_,_,_,_,_,Xb⟩:=pF;have X52:=X1 (P:=l.prog) (w:=w) (mr:=Oq) X G O 53 1 cH a52 pj rfl Xb (pr {}) trivial trivial ⟨E51.u,trivial⟩ (XW cH YR rfl);obtain⟨_,_,_,_,_,W9⟩:=pG;have E53:=en2 (P:=l.prog) (w:=w) (base:=base) X G 54 2 2 cG a53 jE W9 (pr {}) ⟨y6,trivial⟩ trivial ⟨Pm.u,E52.u,trivial⟩;obtain⟨_,_,_,_,_,_,_,Xa⟩:=pE;have X53:=S8 (P:=l.prog) (w:=w) (C:=gC) (base:=base) (mr:=Tv) (mr':=Oq) (i:=2) X G 54 0 1 cG a53 jE rfl Xa (pr {}) ⟨y6,trivial⟩ trivial ⟨Pm.u,E52.u,trivial⟩ X52.u Rm (λ_=>XU cG) V5;have E54:=N 55 eW eQ a54 nX (pr {}) ⟨y4,JE,trivial⟩ trivial ⟨E44.u,E47.u,E53.u,E13.u,E14.u,trivial⟩ az;have E55:=N 56 oF kS a55 zr (pr {}) trivial trivial ⟨E0.u,trivial⟩ az;have E56:=N 57 jq je a56 sZ (pr {}) trivial trivial ⟨E1.u,YD.u,E55.u,E11.u,E12.u,trivial⟩ az;obtain⟨_,_,_,_,_,_,_,_,_,_,_,_,_,hT⟩:=Oe;exact X0 OB OS xc y4 (aaY X G eC) vC 6 13 12 14 58 Bo Ys ve Fu Nl Ma hT Oa (pr {}) ⟨y3,y6,y7,trivial⟩ trivial ⟨E44.u,E47.u,E53.u,E5.u,E1.u,E8.u,E7.u,E6.u,E55.u,E9.u,E12.u,E4.u,E56.u,E14.u,E54.u,trivial⟩ ⟨λ⟨_,z⟩=>z.elim,λ⟨_,z⟩=>z.elim,λ_=>X53.u,λ⟨_,z⟩=>z.elim,λ⟨_,z⟩=>z.elim,λ⟨_,z⟩=>z.elim,λ⟨_,z⟩=>z.elim,λ⟨_,z⟩=>z.elim,λ⟨_,z⟩=>z.elim,λ⟨_,z⟩=>z.elim,λ⟨_,z⟩=>z.elim,λ⟨_,z⟩=>z.elim,λ⟨_,z⟩=>z.elim,λ⟨_,z⟩=>z.elim,λ⟨_,z⟩=>z.elim,trivial⟩ (Ew λns _=>BY ns)
theorem walk{l:PySem.W.OpenLaw}{q:Program}{loose:List Str}{XP:(Str->Option Value)->Heap->Prop}{YP:World->Heap->Prop}{d:DefRec}{K:Params->PySem.W.Frag}(hn:l.most=some 63)(Sf:d.params.defaults=[])
  (hY:∀(w:World) (h:Heap),YP w h->(K w.params).In h)
  (F:∀(w:World) (mg:Str->Option Value) (fa:Addr) (h:Heap),(K w.params).In h->h.Ns mainGlobals mg->mg d.name=some (.ref fa) ->
   ∃ fd:FuncData,(∀(s:Shared) (u:Value),BindsTo s fd ⟨[u],[]⟩ [("_law_script",u)])/\∀ base:Heap,(K w.params).In base->base.Ns mainGlobals mg->eT l.prog w (K w.params) mg base Bq 59 fa fd ["_law_script"] (Gq (K w.params) 1 ve)) :
  PySem.W.WalkO q loose XP YP l.row.toRowW d [] (λf vs=>PySem.call f vs) :=
 L2.GQ (n:=63) (k:=59) (x:="_law_script") (CX:=λ_=>Bq) (sp:=λw=>Gq (K w.params) 1 ve) hn (by decide) Sf ⟨rfl,by decide,by decide⟩ hY F (λw H a ns hl hO hS=>Mn (K w.params) H a ns ve (Ic hl) hO hS) λ_ _ _ _ _ z=>z
end Asm
end
open PySem PySem.W PyProof.Rows
set_option maxRecDepth 100000 in
set_option maxHeartbeats 0 in
theorem PySem.Challenge.cw_sharesample_k41_moved_guesses_holds : PySem.Challenge.rw_sharesample_k41_moved_guesses.Holds := by
 w_on;o_law;k_head;(case hw=>w_witness2)
 k_fill
 refine Asm.walk (l:=PySem.Challenge.rw_sharesample_k41_moved_guesses) rfl rfl (fun w h Y=>PySem.W.kIn_of Y) ?F
 case F =>
  intro w mg fa h KX G hmg
  refine' Asm.all_mk KX G hmg ?a0 ?a1 ?a2 ?a3 ?a4 ?a5 ?a6 ?a7 ?a8 ?a9 ?a10 ?a11 ?a12 ?a13 ?a14 ?a15 ?a16 ?a17 ?a18 ?a19 ?a20 ?a21 ?a22 ?a23 ?a24 ?a25 ?a26 ?a27 ?a28 ?a29 ?a30 ?a31 ?a32 ?a33 ?a34 ?a35 ?a36 ?a37 ?a38 ?a39 ?a40 ?a41 ?a42 ?a43 ?a44 ?a45 ?a46 ?a47 ?a48 ?a49 ?a50 ?a51 ?a52 ?a53 ?a54 ?a55 ?a56 ?a57 ?z0 ?z1 ?z2 ?z3 ?z4 ?z5 ?z6 ?z7 ?z8 ?z9 ?z10 ?z11 ?z12 ?q0 ?r0 ?q1 ?r1 ?eB ?eC ?xB ?xC ?mC ?nC ?vC ?w1 ?w2 ?w3 ?w4 ?w5
  case a0 | a1 | a2 | a3 | a4 | a5 | a6 | a7 | a8 | a9 | a10 | a11 | a12 | a13 | a14 | a15 | a16 | a17 | a18 | a19 | a20 | a21 | a22 | a23 | a24 | a25 | a26 | a27 | a28 | a29 | a30 | a31 | a32 | a33 | a34 | a35 | a36 | a37 | a38 | a39 | a40 | a41 | a42 | a43 | a44 | a45 | a46 | a47 | a48 | a49 | a50 | a51 | a52 | a53 | a54 | a55 | a56 | a57 =>
   refine' DI.dmk ?x ?y ?z ?w
   case x | y | z | w=>k_is
  case z0 | z1 | z2 | z3 | z4 | z5 | z6 | z7 | z8 | z9 | z10 | z11 | z12=>k_is
  (case q0=>k_is);(case r0=>exact ⟨_,rfl⟩)
  (case q1=>k_is);(case r1=>k_is)
  (case eB=>k_is)
  (case eC=>k_is)
  (case xB=>k_exc)
  (case xC=>k_exc)
  (case mC=>k_is)
  (case nC=>decide)
  (case vC=>kit_is)
  (case w1=>k_is)
  (case w2=>k_is)
  (case w3=>k_is)
  (case w4=>k_is)
  (case w5=>k_is)
