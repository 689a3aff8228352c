import PyProof.Rows.All
import Wide.All
import OpenK.AllK
import Wide.FinOn
import Lean
import PyProof.EqAt
import PyProof.EqKinds
import PyProof.TupleCall
import PyProof.NeKinds
import KE.BitLaws
import PyProof.SumWalkG
import PyProof.ConsumeWalk
import PyProof.WalksMore
import KE.KSortedM
import PyProof.Rows.SetFrom
import PyProof.CompUse
import PyProof.ZipIter
import PyProof.EnumMake
import KE.KSortTup
import PyProof.Draws
import PyProof.ListRange
import PyProof.SliceList
import PyProof.DictIter
import PyProof.Rows.DictUnroll
import KE.KDictSum
import PyProof.DictRoadsH
import PyProof.DictKinds
import PyProof.NsDelKeeps
import PyProof.ExcBaseAll.ValueError
import PyProof.ExcAttrAll.ValueError
import PySem.Challenge.RW_sharesample_k25_whole_guessed_spreads
set_option bootstrap.genMatcherCode false
set_option genSizeOf false
set_option genSizeOfSpec false
set_option Elab.async false
set_option linter.all false
set_option maxRecDepth 100000
local macro_rules | `(tactic| left) => `(tactic| first | assumption | exact Nat.zero_le _ | exact Int.natCast_nonneg _ | exact Int.ofNat_lt.mpr (by assumption) | exact Nat.le_of_lt (by assumption) | exact Nat.le_trans (by assumption) (by assumption) | exact Nat.lt_of_lt_of_le (by assumption) (by assumption) | lia | omega)
noncomputable section
abbrev aab:=@PySem.wpAny_bind
abbrev aac:=@Bool.false_ne_true
abbrev aad:=@of_decide_eq_true
abbrev aae:=@List.mem_cons_of_mem
abbrev aaf:=@PySem.wpAny_pure
abbrev aag:=@PySem.Heap.get?_push_of_some
abbrev aah:=@PySem.Heap.lt_size
abbrev aai:=@List.mem_cons_self
abbrev aaj:=@List.map_congr_left
abbrev aak:=@Nat.le_refl
abbrev aal:=@Nat.lt_of_lt_of_le
abbrev aam:=@List.getElem?_eq_getElem
abbrev aan:=@Nat.ne_of_lt
abbrev aao:=@PySem.Heap.get?_push_size
abbrev aap:=@List.mem_append_right
abbrev aaq:=@Nat.lt_of_le_of_lt
abbrev aar:=@Option.some.inj
abbrev aas:=@List.mem_of_getElem?
abbrev aat:=@Nat.pow_le_pow_right
abbrev aau:=@Nat.ne_of_gt
abbrev aav:=@PySem.wpAny_mono
abbrev aaw:=@PyProof.Rows.callWith_type1
abbrev aax:=@Nat.lt_irrefl
abbrev aaA:=@Nat.mul_pos
abbrev aaB:=@Nat.mul_le_mul_right
abbrev aaC:=@List.mem_append_left
abbrev aaD:=@Nat.le_trans
abbrev aaE:=@PySem.wpAny_newObj_type
abbrev aaF:=@PySem.wpAny_holding
abbrev aaG:=@Nat.mul_le_mul
abbrev aaH:=@PySem.wpAny_call_entry
abbrev aaI:=@List.mem_map_of_mem
abbrev aaK:=@Nat.mul_le_mul_left
abbrev aaL:=@Nat.lt_succ_of_lt
abbrev aaM:=@decide_eq_true
abbrev aaN:=@decide_eq_false
abbrev aaO:=@PySem.wpAny_callSpecial?_slot
abbrev aaP:=@PySem.wpAny_field
abbrev aaQ:=@PySem.Heap.get?_update_other
abbrev aaR:=@PySem.wpAny_Call_Name_kw
abbrev aaS:=@Nat.zero_le
abbrev aaT:=@PySem.F.slot_dict_keyiterator_next
abbrev aaU:=@List.mergeSort_perm
abbrev aaV:=@if_pos
abbrev aaW:=@PySem.Heap.get?_update_self
abbrev aaX:=@congrArg
abbrev aaY:=@PySem.wpAny_truthy_bool
abbrev aaZ:=@PySem.wpAny_loadPart_at
abbrev aa0:=@PySem.wpAny_typeNameOfWhole_keyiter
abbrev aa1:=@PySem.mem_of_lookup
abbrev aa2:=@PySem.wpAny_passesOwn
abbrev aa3:=@PySem.W.kia_one
abbrev aa4:=@Array.getElem?_eq_getElem
abbrev aa5:=@Nat.lt_succ_self
abbrev aa7:=@PySem.wpAny_typeNameOf_keyiter
abbrev aa8:=@Int.mul_fdiv_cancel_left
abbrev aa9:=@PySem.Heap.SameBut.update
abbrev aa_:=@PySem.W.mg_of
abbrev aba:=@PyProof.Rows.callWith_builtin1
abbrev abb:=@PySem.call_meets
abbrev abc:=@PySem.codeAny_builtin
abbrev abd:=@List.length_map
abbrev abe:=@Int.mul_ne_zero
abbrev abf:=@PySem.sizeLine_eq
abbrev abg:=@Nat.le_mul_of_pos_left
abbrev abh:=@PySem.F.slot_zip_next
abbrev abi:=@PySem.Calls.Name_function_global
abbrev abn:=@Nat.le_of_dvd
abbrev abo:=@Nat.le_succ
abbrev abp:=@PySem.wpAny_execs_nil
abbrev abq:=@PySem.SeqAt.EqAt.same
abbrev abr:=@PySem.Calls.call_function_entry
abbrev abt:=@PySem.Calls.spliced_cons
abbrev abu:=@PySem.SeqAt.EqAt.int_int
abbrev abv:=@Nat.lt_trans
abbrev abw:=@Ne.symm
abbrev abx:=@PySem.wpAny_seqItems
abbrev abD:=@List.nodup_nil
abbrev abE:=@PySem.F.plainAttrs_list
abbrev abF:=@PySem.Calls.spliced_nil
abbrev abG:=@PyProof.Rows.subscriptTail_builtinR
abbrev abH:=@PySem.Calls.callWith_builtin
abbrev abI:=@PySem.wpAny_nextOf_list_item
abbrev abJ:=@Int.fmod_nonneg_of_pos
abbrev abK:=@PySem.wpAny_newList
abbrev abL:=@PySem.wpAny_attempt
abbrev abM:=@List.cons.inj
abbrev abN:=@beq_self_eq_true
abbrev abO:=@List.getElem_mem
abbrev abP:=@List.ext_getElem
abbrev abQ:=@PySem.F.slot_tuple_lt
abbrev abR:=@PySem.F.typeOf_object_class
abbrev abS:=@List.length_filter_le
abbrev abT:=@PySem.codeAny_mono
abbrev abU:=@PySem.SeqAt.EqAt.none_bool
abbrev abV:=@PySem.SeqAt.EqAt.bool_none
abbrev abW:=@PySem.SeqAt.EqAt.bool_bool
abbrev abX:=@PySem.Calls.evalArgs_plain
abbrev abY:=@PySem.codeAny_call_builtin
abbrev abZ:=@PySem.wpAny_updateSeq
abbrev ab0:=@Nat.div_le_self
abbrev ab1:=@PySem.SeqAt.EqAt.none_int
abbrev ab3:=@PySem.SeqAt.EqAt.bool_int
abbrev ab4:=@PySem.SeqAt.EqAt.int_none
abbrev ab5:=@PySem.SeqAt.EqAt.int_bool
abbrev ab6:=@Nat.add_le_add_left
abbrev ab7:=@PySem.wpAny_setField
abbrev ab8:=@Eq.symm
abbrev ab9:=@if_neg
abbrev ab_:=@PySem.Code.quiet_builtin
abbrev aca:=@PySem.tupleKind_room_in1
abbrev acb:=@Int.fmod_lt_of_pos
abbrev ace:=@PySem.wpAny_standAt
abbrev acf:=@Nat.le_succ_of_le
abbrev acg:=@PySem.wpAny_dictEntries
abbrev ach:=@List.getElem_inj
abbrev aci:=@PySem.boot_len
abbrev aA:=List (List Int)
abbrev ae:=List Int
abbrev aO:=List Nat
abbrev ao:=List PySem.Str
abbrev av:=List PySem.Value
abbrev aC:=List PySem.Expr
abbrev aR:=List PySem.Addr
abbrev ba:=List PySem.Stmt
abbrev az:=List Rat
abbrev aP:=Array PySem.Value
abbrev au:=PySem.W.Frag
abbrev aB:=PySem.Value->PySem.Shared->Prop
abbrev aq:=List (PySem.Addr×PySem.Obj)
abbrev ak:=PySem.Addr->Prop
abbrev aU:=PySem.Str->Option PySem.Value
abbrev aE:=PySem.Program
abbrev aJ:=PySem.Around
namespace L2
open PySem PySem.Spec PyProof.Rows
noncomputable abbrev Key:=Sum Int Str
def Jp:Key->Value->Bool
 |.inl k,v=>Value.isInt k v
 |.inr x,v=>Value.isStrOf x v
def V2(w:World):Key->Int
 |.inl k=>hashInt k
 |.inr x=>hashStr w x
theorem cE:∀{k:Key} {v:Value},Jp k v=true->(∃i t,k=Sum.inl i/\v=Value.int i t)\/(∃x t,k=Sum.inr x/\v=Value.str x t)
 |.inl i,v,h=>by
  obtain⟨t,e⟩:=Value.isInt_shape (k:=i) (v:=v) h;exact .inl ⟨i,t,rfl,e⟩
 |.inr x,v,h=>by
  obtain⟨t,e⟩:=Value.isStrOf_shape (x:=x) (v:=v) h;exact .inr ⟨x,t,rfl,e⟩
theorem LM(a b:Int):decide ((Sum.inl a:Key)=Sum.inl b)=(a==b):=by
 by_cases e:a=b
 ·subst e;simp
 ·have h:¬ (Sum.inl a:Key)=Sum.inl b:=λq=>e (Sum.inl.inj q);rw[decide_eq_false h];exact(beq_eq_false_iff_ne.mpr e).symm
theorem LJ(a b:Str):decide ((Sum.inr a:Key)=Sum.inr b)=decide (a=b):=by
 by_cases e:a=b
 ·subst e;simp
 ·have h:¬ (Sum.inr a:Key)=Sum.inr b:=λq=>e (Sum.inr.inj q);rw[decide_eq_false h,decide_eq_false e]
theorem LL(a:Int)(b:Str):decide ((Sum.inl a:Key)=Sum.inr b)=false:=aaN (λq=>nomatch q)
theorem LK(a:Str)(b:Int):decide ((Sum.inr a:Key)=Sum.inl b)=false:=aaN (λq=>nomatch q)
def yU(prog:aE)(w:World):PySem.KeyKind prog w Key where
 is:=Jp
 hash:=V2 w
 inj:=λv a b ha hb=>by
  rcases cE ha with ⟨i,t,rfl,rfl⟩|⟨x,t,rfl,rfl⟩
  ·rcases cE hb with ⟨j,u,rfl,e⟩|⟨y,u,rfl,e⟩
   ·injection e with e1 _;rw[e1]
   ·exact nomatch e
  ·rcases cE hb with ⟨j,u,rfl,e⟩|⟨y,u,rfl,e⟩
   ·exact nomatch e
   ·injection e with e1 _;rw[e1]
 byValue:=λk v h=>by
  rcases cE h with ⟨i,t,rfl,rfl⟩|⟨x,t,rfl,rfl⟩<;>rfl
 pyHash:=λhv h=>by
  rcases cE hv with ⟨i,t,rfl,rfl⟩|⟨x,t,rfl,rfl⟩
  ·exact wpAny_pyHash_int h
  ·exact wpAny_pyHash_str h
 eqBool:=λhu hv h=>by
  rcases cE hu with ⟨i,t,rfl,rfl⟩|⟨x,t,rfl,rfl⟩
  ·rcases cE hv with ⟨j,u,rfl,rfl⟩|⟨y,u,rfl,rfl⟩
   ·rw[LM]at h;exact wpAny_eqBool_int h
   ·rw[LL]at h;exact SeqAt.EqAt.int_str i t y u _ _ _ _ h
  ·rcases cE hv with ⟨j,u,rfl,rfl⟩|⟨y,u,rfl,rfl⟩
   ·rw[LK]at h;exact SeqAt.EqAt.str_int x t j u _ _ _ _ h
   ·rw[LJ]at h;exact wpAny_eqBool_str h
 «strs»:=λk x t v h=>by
  rcases cE h with ⟨i,u,rfl,e⟩|⟨y,u,rfl,e⟩
  ·exact nomatch e
  ·injection e with e1 _
   subst e1;cases v<;>rfl
end L2
namespace L2
open PySem PySem.Spec PyProof.Rows
inductive V where
 |bV|bl (b:Bool)|int (i:Int)|str (x:Str)|X3 (b:Array UInt8)|R5 (b:UInt64)|ref (a:Addr)|ty (n:String)
 deriving DecidableEq
abbrev af:=List V
noncomputable def RelV:V->Value->Prop
 |.bV,u=>u=Value.none
 |.bl b,u=>u=Value.bool b
 |.int i,u=>∃t,u=Value.int i t
 |.str x,u=>∃t,u=Value.str x t
 |.X3 b,u=>∃t,u=Value.bytes b t
 |.R5 b,u=>∃t,u=Value.float b t
 |.ref a,u=>u=Value.ref a
 |.ty n,u=>u=Value.type n
abbrev Vals:af->av->Prop:=Paired RelV
theorem Vals.length{xs:af}{us:av}(r:Vals xs us):xs.length=us.length:=Paired.length r
theorem Vals.get:∀{xs:af} {us:av} {i:Nat} {x:V},Vals xs us->xs[i]?=some x->∃u,us[i]?=some u/\RelV x u
 |_,_,_,_,.nil,e=>by simp at e
 |_,_,0,_,.cons r _,e=>by simp at e;subst e;exact⟨_,rfl,r⟩
 |_,_,i+1,x,.cons _ t,e=>by
  obtain⟨u,h1,h2⟩:=Vals.get (i:=i) (x:=x) t (by simpa using e);exact⟨u,by simpa using h1,h2⟩
theorem Vals.append:∀{xs ys:af} {us ws:av},Vals xs us->Vals ys ws->Vals (xs++ys) (us++ws)
 |_,_,_,_,.nil,s=>s
 |_,_,_,_,.cons r t,s=>.cons r (Vals.append t s)
theorem Vals.take:∀{xs:af} {us:av} (n:Nat),Vals xs us->Vals (xs.take n) (us.take n)
 |_,_,0,_=>.nil
 |_,_,_+1,.nil=>.nil
 |_,_,n+1,.cons r t=>.cons r (Vals.take n t)
theorem Vals.drop:∀{xs:af} {us:av} (n:Nat),Vals xs us->Vals (xs.drop n) (us.drop n)
 |_,_,0,r=>r
 |_,_,_+1,.nil=>.nil
 |_,_,n+1,.cons _ t=>Vals.drop n t
def qb:Option V->Option Value->Prop
 |some v,some u=>RelV v u
 |none,none=>True
 |_,_=>False
def KV{κ:Type}:List (κ×V)->List (κ×Value)->Prop:=Paired λ(p:κ×V) (q:κ×Value)=>p.1=q.1/\RelV p.2 q.2
def kV:Key->V
 |.inl i=>.int i
 |.inr x=>.str x
inductive HO where
 |lst (xs:af)
 |tup (xs:af)
 |dK (nq:List (Key×V))|dT (nq:List (List Key×V))
 |set (S:Int->Bool) (n:Nat)
 |ins (C dx:Addr) (fs:List (Str×V))
 |own (x:Addr)
 |xd (fs:List (Str×V))
 |met (f x:Addr)
 |jK (lo hi:Int)
 |i4 (o:Obj) (u:HO)
 |FQ (ps:aP)
 |ext (φ:Heap->Prop)
noncomputable abbrev Hp:=Addr->Option HO
noncomputable def upd(H:Hp)(a:Addr)(o:HO):Hp:=λb=>if b=a then some o else H b
variable {H:Hp}
theorem bj{a:Addr}{o:HO}:upd H a o a=some o:=by unfold upd;rw[if_pos rfl]
theorem aV{a b:Addr}{o:HO}(h:b≠a):upd H a o b=H b:=by unfold upd;rw[if_neg h]
theorem b_{a b:Addr}{o:HO}(h:H a=some o)(h':H b=none):a≠b:=by
 intro e;subst e;rw[h]at h';cases h'
section
variable (P:aE)(w:World)
def cS(H:Hp)(h:Heap)(a:Addr):HO->Prop
 |.lst xs=>xs.length<=sizeLine/\∃(aK:av) (n:Nat),Vals xs aK/\h.get? a=some { cls:=.type "list",data:=.seq aK.toArray n }
 |.tup xs=>xs.length<=sizeLine/\∃aK:av,Vals xs aK/\IsTup h a aK.toArray
 |.dK nq=>nq.length<=sizeLine/\(a==sysModules)=false/\∃vs,KV nq vs/\h.DictOf (yU P w) a vs
 |.dT nq=>nq.length<=sizeLine/\(a==sysModules)=false/\∃xs:List (List Key×Addr×Value),
   Paired (λ(p:List Key×V) (q:List Key×Addr×Value)=>p.1=q.1/\H q.2.1=some (.tup (p.1.map kV))/\RelV p.2 q.2.2) nq xs /\
   ∃o es ep,h.get? a=some o/\o.ExactDict/\o.data=.dict es ep/\es.toList=xs.map (entryOfKey (tupleKind (yU P w)))/\(xs.map (·.1)).Nodup
 |.set S n=>h.SetOf (intKind P w) a S n
 |.ins C dx fs=>H dx=some (.own a)/\fs.length<=1000/\dx≠a/\h.get? a=some (PySem.W.instObj C dx) /\
   ∃mA,h.Ns1 dx mA/\(∀f,qb (fs.lookup f) (mA f))/\PySem.Within mA (fs.map (·.1))
 |.own _=>∃o,h.get? a=some o
 |.xd fs=>∃mA,h.Ns1 a mA/\∀f,qb (fs.lookup f) (mA f)
 |.jK lo hi=>∃t u v,h.get? a=some { cls:=.type "range",data:=.fields #[.int lo t,.int hi u,.int 1 v] }
 |.i4 o u=>h.get? a=some o/\cS H h a u
 |.FQ ps=>h.get? a=some { cls:=.none,data:=.fields ps }
 |.met f x=>h.get? a=some (PySem.W.methodObj (.ref f) (.ref x))
 |.ext φ=>φ h/\(∃o,h.get? a=some o)/\∀h1 h2:Heap,φ h1->(∀o,h1.get? a=some o->h2.get? a=some o)->φ h2
def jZ(H:Hp)(h:Heap):Prop:=∀a o,H a=some o->cS P w H h a o
end
section
variable {P:aE}{w:World}{H H':Hp}{h h':Heap}{a:Addr}{o:HO}
theorem cS.lt(x:cS P w H h a o):a<h.objs.size:=by
 cases o with
 |lst xs=>obtain⟨_,_,_,_,e⟩:=x;exact aah e
 |tup xs=>obtain⟨_,_,_,p⟩:=x;exact p.lt
 |dK nq=>obtain⟨_,_,_,_,o,_,_,e,_⟩:=x;exact aah e
 |dT nq=>obtain⟨_,_,_,_,o,_,_,e,_⟩:=x;exact aah e
 |set S n=>obtain⟨o,_,_,_,e,_⟩:=x;exact aah e
 |ins C dx fs=>obtain⟨_,_,_,e,_⟩:=x;exact aah e
 |own y=>obtain⟨_,e⟩:=x;exact aah e
 |xd fs=>obtain⟨_,⟨_,_,_,e,_⟩,_⟩:=x;exact aah e
 |jK lo hi=>obtain⟨_,_,_,e⟩:=x;exact aah e
 |i4 ob u=>obtain⟨e,_⟩:=x;exact aah e
 |FQ ps=>exact aah (show h.get? a=some _ from x)
 |met f y=>exact aah (show h.get? a=some _ from x)
 |ext φ=>obtain⟨_,⟨_,e⟩,_⟩:=x;exact aah e
theorem Paired.Qi{α β:Type}{F G:α->β->Prop}:∀{l₁:List α} {l₂:List β},Paired F l₁ l₂->(∀a b,F a b->G a b)->Paired G l₁ l₂
 |_,_,.nil,_=>.nil
 |_,_,.cons r t,f=>.cons (f _ _ r) (Paired.Qi t f)
theorem cS.i_(x:cS P w H h a o)(k:∀b u,(b=a\/H b=some (.own a))->h.get? b=some u->h'.get? b=some u)
  (ho:∀b,H b=some (.own a)->H' b=some (.own a)) (ht:∀b xs,H b=some (.tup xs)->H' b=some (.tup xs)):cS P w H' h' a o:=by
 induction o with
 |lst xs=>obtain⟨z,aK,n,r,e⟩:=x;exact⟨z,aK,n,r,k _ _ (.inl rfl) e⟩
 |tup xs=>obtain⟨z,aK,r,ob,e,c⟩:=x;exact⟨z,aK,r,ob,k _ _ (.inl rfl) e,c⟩
 |dK nq=>obtain⟨z,y,vs,r,ob,es,ep,e,c⟩:=x;exact⟨z,y,vs,r,ob,es,ep,k _ _ (.inl rfl) e,c⟩
 |dT nq =>
  obtain⟨z,y,xs,r,ob,es,ep,e,c⟩:=x;exact⟨z,y,xs,Paired.Qi r λp q z=>⟨z.1,ht _ _ z.2.1,z.2.2⟩,ob,es,ep,k _ _ (.inl rfl) e,c⟩
 |set S n=>obtain⟨ob,es,ep,t,e,c⟩:=x;exact⟨ob,es,ep,t,k _ _ (.inl rfl) e,c⟩
 |ins C dx fs =>
  obtain⟨d,z,ne,e,mA,⟨od,es,ep,e2,c⟩,r⟩:=x;exact⟨ho _ d,z,ne,k _ _ (.inl rfl) e,mA,⟨od,es,ep,k _ _ (.inr d) e2,c⟩,r⟩
 |own y=>obtain⟨ob,e⟩:=x;exact⟨ob,k _ _ (.inl rfl) e⟩
 |xd fs=>obtain⟨mA,⟨od,es,ep,e,c⟩,r⟩:=x;exact⟨mA,⟨od,es,ep,k _ _ (.inl rfl) e,c⟩,r⟩
 |jK lo hi=>obtain⟨t,u,v,e⟩:=x;exact⟨t,u,v,k _ _ (.inl rfl) e⟩
 |i4 ob u ih=>obtain⟨e,q⟩:=x;exact⟨k _ _ (.inl rfl) e,ih q⟩
 |FQ ps =>
  have e:h.get? a=some { cls:=.none,data:=.fields ps }:=x;show h'.get? a=some { cls:=.none,data:=.fields ps };exact k a _ (.inl rfl) e
 |met f y =>
  have e:h.get? a=some (PySem.W.methodObj (.ref f) (.ref y)):=x;show h'.get? a=some (PySem.W.methodObj (.ref f) (.ref y));exact k a _ (.inl rfl) e
 |ext φ=>obtain⟨p,⟨o,e⟩,st⟩:=x;exact⟨st _ _ p λo q=>k _ _ (.inl rfl) q,⟨o,k _ _ (.inl rfl) e⟩,st⟩
theorem jZ.lt(x:jZ P w H h)(e:H a=some o):a<h.objs.size:=(x a o e).lt
theorem jZ.fresh(x:jZ P w H h)(e:h.objs.size<=a):H a=none:=by
 cases q:H a with
 |none=>rfl
 |some u=>exact absurd (aal (x.lt q) e) (aax _)
theorem jZ.kept(x:jZ P w H h)(k:∀b u,h.get? b=some u->h'.get? b=some u):jZ P w H h':=λa o e =>
 (x a o e).i_ (λb u _ q=>k b u q) (λ_ q=>q) λ_ _ q=>q
theorem jZ.laid(x:jZ P w H h)(k:∀b u,h.get? b=some u->h'.get? b=some u)(hp:h.objs.size<=a)(new:cS P w (upd H a o) h' a o):jZ P w (upd H a o) h':=λb u e=>by
 have hn:=x.fresh hp;by_cases hb:b=a
 ·subst hb;rw[bj]at e;cases e;exact new
 ·rw[aV hb]at e;exact(x b u e).i_ (λc v _ q=>k c v q) (λc q=>by rw[aV (b_ q hn)];exact q) λc xs q=>by rw[aV (b_ q hn)];exact q
end
def Rd(H:Hp)(a:Addr)(u:HO):Prop:=H a=some u\/∃o,H a=some (.i4 o u)
theorem Rd.ok{P:aE}{w:World}{h:Heap}{a:Addr}{u:HO}(r:Rd H a u)(x:jZ P w H h):cS P w H h a u:=by
 rcases r with r|⟨o,r⟩
 ·exact x a u r
 ·obtain⟨_,q⟩:=x a _ r;exact q
noncomputable def UA:Option HO->Prop
 |some (.lst _)=>True
 |some (.dK _)=>True
 |some (.dT _)=>True
 |some (.set _ _)=>True
 |some (.ins _ _ _)=>True
 |some (.ext _)=>True
 |_=>False
section
variable {P:aE}{w:World}{H:Hp}{h h':Heap}{x e:Addr}{o':HO}
theorem jZ.write(ok:jZ P w H h)(mu:UA (H x))(he:e=x\/H e=some (.own x))(k:∀b u,b≠e->h.get? b=some u->h'.get? b=some u)(Ol:∃u,h'.get? e=some u)
  (new:cS P w (upd H x o') h' x o'):jZ P w (upd H x o') h':=λb u q=>by
 have P_:∀c y,H c=some (.own y)->c≠x:=λc y r z=>by subst z;rw[r]at mu;exact mu
 have VV:∀c xs,H c=some (.tup xs)->c≠x:=λc xs r z=>by subst z;rw[r]at mu;exact mu
 by_cases hb:b=x
 ·subst hb;rw[bj]at q;cases q;exact new
 ·rw[aV hb]at q;by_cases Mq:b=e
  ·have q':H b=some (.own x):=by
    rcases he with z|z
    ·exact absurd (Mq.trans z) hb
    ·rw[Mq];exact z
   rw[q]at q';cases q';obtain⟨v,hv⟩:=Ol;exact⟨v,by rw[Mq];exact hv⟩
  ·refine(ok b u q).i_ (λc v hc r=>k c v ?_ r) (λc r=>by rw[aV (P_ c b r)];exact r) λc xs r=>by rw[aV (VV c xs r)];exact r
   rcases hc with rfl|hc
   ·exact Mq
   ·rintro rfl;rcases he with z|z
    ·exact P_ c b hc z
    ·rw[hc]at z;cases z;exact hb rfl
end
structure Un(fs ex:aR)(H H':Hp)(h h':Heap):Prop where
 keep:∀b o,h.get? b=some o->H b=none->b∉fs->b∉ex->h'.get? b=some o
 slot:∀b o,h.get? b=some o->H b=none->b∈fs->b∉ex->∃sl,h'.get? b=some { o with slots:=sl }
 free:∀b o,h.get? b=some o->H b=none->b∉ex->H' b=none
 there:∀b o,h.get? b=some o->b∉ex->∃o',h'.get? b=some o'
 mZ:∀b xs,H b=some (.tup xs)->H' b=some (.tup xs)
 l9:∀b o u,H b=some (.i4 o u)->H' b=some (.i4 o u)
 m4:∀b ps,H b=some (.FQ ps)->∃more,H' b=some (.FQ (ps++more))
section
variable {fs fs' ex Xy:aR}{H H1 H2:Hp}{h h1 h2 h':Heap}{a x e:Addr}{o:HO}
theorem Un.any(u:Un fs ex H H1 h h1){b:Addr}{ob:Obj}(q:h.get? b=some ob)(n:H b=none)(hx:b∉ex):∃sl,h1.get? b=some { ob with slots:=sl }:=by
 by_cases hb:b∈fs
 ·exact u.slot b ob q n hb hx
 ·exact⟨ob.slots,u.keep b ob q n hb hx⟩
theorem Un.kept(k:∀b u,h.get? b=some u->h'.get? b=some u):Un fs ex H H h h' :=
 ⟨λb ob q _ _ _=>k b ob q,λb ob q _ _ _=>⟨ob.slots,k b ob q⟩,λ_ _ _ n _=>n,λb ob q _=>⟨ob,k b ob q⟩,λ_ _ q=>q,λ_ _ _ q=>q,λ_ ps q=>⟨#[],by rw[q];simp⟩⟩
theorem Un.refl:Un fs ex H H h h:=Un.kept λ_ _ q=>q
theorem Un.laid(k:∀b u,h.get? b=some u->h'.get? b=some u)(hp:h.objs.size<=a)(hn:H a=none):Un fs ex H (upd H a o) h h' where
 keep:=λb u q _ _ _=>k b u q
 slot:=λb u q _ _ _=>⟨u.slots,k b u q⟩
 free:=λb u q n _=>by rw[aV (Nat.ne_of_lt (Nat.lt_of_lt_of_le (Heap.lt_size q) hp))];exact n
 there:=λb u q _=>⟨u,k b u q⟩
 mZ:=λb xs q=>by rw[aV (b_ q hn)];exact q
 l9:=λb u xs q=>by rw[aV (b_ q hn)];exact q
 m4:=λb ps q=>⟨#[],by rw[aV (b_ q hn),q];simp⟩
theorem Un.write(mu:UA (H x))(he:e=x\/H e=some (.own x))(k:∀b u,b≠e->h.get? b=some u->h'.get? b=some u)(Ol:∃u,h'.get? e=some u):Un fs ex H (upd H x o) h h':=by
 have hx:∀b,H b=none->b≠x:=λb n z=>by subst z;rw[n]at mu;exact mu
 have hb:∀b,H b=none->b≠e:=λb n z=>by
  subst z;rcases he with r|r
  ·exact hx b n r
  ·rw[n]at r;cases r
 have hm:∀b u,H b=some u->¬ UA (some u)->b≠x:=λb u q nm z=>by subst z;rw[q]at mu;exact nm mu
 refine⟨λb u q n _ _=>k b u (hb b n) q,λb u q n _ _=>⟨u.slots,k b u (hb b n) q⟩,λb u q n _=>by rw[aV (hx b n)];exact n,λb u q _=>?_,
  λb xs q=>by rw[aV (hm b _ q λz=>z)];exact q,λb u xs q=>by rw[aV (hm b _ q λz=>z)];exact q,λb ps q=>⟨#[],by rw[aV (hm b _ q λz=>z),q];simp⟩⟩
 by_cases Mq:b=e
 ·subst Mq;exact Ol
 ·exact⟨u,k b u Mq q⟩
end
noncomputable def SX(h:Heap)(H:Hp):aR:=(List.range h.objs.size).filter λa=>(H a).isSome
def tx(h:Heap)(H:Hp):Heap:=PySem.W.hideAll h (SX h H)
theorem AM(h:Heap)(H:Hp):(tx h H).objs.size=h.objs.size:=PySem.W.hideAll_size _ _
variable {o:Obj}
theorem DK{h:Heap}{b:Addr}(e:h.get? b=some o)(n:H b=none):(tx h H).get? b=some o :=
 PySem.W.hideAll_get _ e λhm=>by
  have q:(H b).isSome=true:=(List.mem_filter.mp hm).2;rw[n]at q;simp at q
theorem GW{h:Heap}{b:Addr}(e:(tx h H).get? b=some o):h.get? b=some o/\H b=none:=by
 have e':h.get? b=some o:=PySem.W.of_hideAll (SX h H) e;refine⟨e',?_⟩;cases q:H b with
 |none=>rfl
 |some x =>
  have hm:b∈SX h H:=List.mem_filter.mpr ⟨List.mem_range.mpr (aah e'),by simp[q]⟩;have z:(tx h H).get? b=none:=PySem.W.hideAll_none (SX h H) hm;rw[z]at e;cases e
noncomputable def Ir(g h:Heap)(L:Addr):aq:=(List.range h.objs.size).filterMap λa=>if a=L\/(g.get? a).isSome=true then none else(h.get? a).map λo=>(a,o)
def rest(g h:Heap)(L d:Addr):aq:=(Ir g h L).filter λp=>decide (p.1≠d)
end L2
namespace L2
open PySem PySem.Spec PyProof.Rows
structure Mod(K:au)(mg:aU)(base:Heap):Prop where
 V1:K.In base
 glob:base.Ns mainGlobals mg
 blt:∃mb,base.Ns builtinsNs mb/\∀x:Str,x ≠ "__name__" -> mb x=bootBuiltins x
 nolimit:base.NoLimit
structure Cx where
 prog:aE
 w:World
 K:au
 mg:aU
 base:Heap
 A:aJ
 N:ao
 s₀:Shared
 H₀:Hp
 env:Env
 outer:List Env
 stack:List Env
 ex:aR
 fn:Str->Bool
 calm:Bool
 pn:aq
 xe:aB
noncomputable def l_(l:List Env):aR:=l.filterMap (·.frame)
abbrev Cx.fs(X:Cx):aR:=l_ X.outer
def JS(sc:Scope)(x:Str):Prop:=sc.names.lookup x=some .local\/sc.names.lookup x=some .cell\/sc.names.lookup x=some .free
def Loc(sc:Scope)(x:Str):Prop:=sc.names.lookup x=some .local\/sc.names.lookup x=some .cell
noncomputable def Look(env:Env)(h:Heap)(m:aU)(x:Str)(u:Value):Prop :=
 (env.kindOf x=some .local/\m x=some u)\/((env.kindOf x=some .cell\/env.kindOf x=some .free)/\∃c,env.cells.lookup x=some c/\h.IsCell c (some u))
structure Cx.Ok(X:Cx):Prop where
 mod:Mod X.K X.mg X.base
 kind:X.env.scope.kind=.function
 glob:X.env.globals=mainGlobals
 blt:X.env.builtins=builtinsNs
 above:X.s₀.heap.objs.size<=X.env.locals
 inj:∀x y c,X.env.cells.lookup x=some c->X.env.cells.lookup y=some c->x=y
 has:∀x,(X.env.kindOf x=some .cell\/X.env.kindOf x=some .free)->∃c,X.env.cells.lookup x=some c
 JK:∀x c,X.fn x=true->X.env.cells.lookup x=some c->X.s₀.heap.objs.size<=c
 hd:X.calm=true->X.A.handled=none
 frames:X.A.frames=some X.stack
 Kh:X.stack=X.outer\/(X.stack=X.env::X.outer/\X.env.frame=some X.env.locals)
 R8:∀b∈X.ex,b≠X.env.locals/\∀x c,X.env.cells.lookup x=some c->c≠b
 bs:∀b o,X.base.get? b=some o->X.s₀.heap.get? b=some o/\X.H₀ b=none
 EK:X.base.objs.size<=X.s₀.heap.objs.size
 ve:∀b o,X.base.get? b=some o->b∉X.ex
 xK:∀b∈X.ex,b∉X.fs
 kn:X.s₀.heap.FunFrames X.base X.outer
 Bq:∀b∈X.fs,X.H₀ b=none
structure Inv(X:Cx)(pins:aq)(σ:List (Option V))(H:Hp)(s:Shared):Prop where
 ok:X.Ok
 os:s.os=X.s₀.os
 bare:AllBare s.gens
 base:Un X.fs X.ex X.H₀ H X.s₀.heap s.heap
 loc:∃m,s.heap.Ns X.env.locals m/\∀(i:Nat) (x:Str) (v:V),X.N[i]?=some x->σ[i]?=some (some v)->JS X.env.scope x->∃u,RelV v u/\Look X.env s.heap m x u
 cell:∀x c,X.env.cells.lookup x=some c->∃v,s.heap.IsCell c v
 free:H X.env.locals=none
 fW:∀x c,X.env.cells.lookup x=some c->H c=none
 pin:∀p∈X.pn++pins,s.heap.get? p.1=some p.2/\H p.1=none/\p.1≠X.env.locals/\p.1∉X.fs/\∀v,p.2.data≠.cell v
 cA:jZ X.prog X.w H s.heap
 len:σ.length=X.N.length
variable {A:aJ}{E:Value->Shared->Prop}{Q:Unit->Shared->Prop}{ch:aR}{t':Nat}
section
variable {X:Cx}{pins:aq}{σ:List (Option V)}{H H':Hp}{s:Shared}{h':Heap}
theorem Cx.Ok.VW(ok:X.Ok){b:Addr}{o:Obj}(e:X.base.get? b=some o):b∉X.fs:=λhb=>by
 have:=(ok.kn.mem hb).1;rw[e]at this;cases this
theorem Inv.bs(I:Inv X pins σ H s):∀b o,X.base.get? b=some o->s.heap.get? b=some o/\H b=none:=λb o e =>
 ⟨I.base.keep b o (I.ok.bs b o e).1 (I.ok.bs b o e).2 (I.ok.VW e) (I.ok.ve b o e),I.base.free b o (I.ok.bs b o e).1 (I.ok.bs b o e).2 (I.ok.ve b o e)⟩
theorem Inv.bk(I:Inv X pins σ H s):∀b o,X.base.get? b=some o->s.heap.get? b=some o:=λb o e=>(I.bs b o e).1
theorem Inv.mod(I:Inv X pins σ H s):Mod X.K X.mg X.base:=I.ok.mod
theorem Inv.AD(I:Inv X pins σ H s):X.K.In s.heap:=I.ok.mod.V1.keeps I.bk
theorem Inv.lt(I:Inv X pins σ H s):X.env.locals<s.heap.objs.size:=let ⟨_,hn,_⟩:=I.loc;hn.lt
theorem Inv.sz(I:Inv X pins σ H s):X.s₀.heap.objs.size<=s.heap.objs.size:=aaD I.ok.above (Nat.le_of_lt I.lt)
theorem Inv.Lp(I:Inv X pins σ H s){a:Addr}(h:s.heap.objs.size<=a):a∉X.fs:=λhb=>by
 obtain⟨_,o,ho,_⟩:=I.ok.kn.mem hb;exact absurd (aal (aah ho) (aaD I.sz h)) (aax _)
theorem Inv.Ig(I:Inv X pins σ H s):∀x c,X.env.cells.lookup x=some c->c≠X.env.locals:=λx c e z=>by
 obtain⟨v,o,ho,hd⟩:=I.cell x c e;obtain⟨m,⟨o',es,ep,gg,Mm,_⟩,_⟩:=I.loc;rw[z,gg]at ho;cases ho;rw[Mm]at hd;cases hd
theorem Inv.kn(I:Inv X pins σ H s):s.heap.FunFrames X.base X.outer:=by
 have all:∀(l:List Env),(∀b∈l_ l,b∈X.fs)->X.s₀.heap.FunFrames X.base l->s.heap.FunFrames X.base l:=by
  intro l;induction l with
  |nil=>intro _ _;trivial
  |cons env r ih =>
   intro hs hl;obtain⟨hk,⟨L,o,hf,hn,ho,hd⟩,hr⟩:=hl;have hL:L∈X.fs:=hs L (by unfold l_;rw[List.filterMap_cons,hf];exact aai);obtain⟨sl,e⟩:=I.base.slot L o ho (I.ok.Bq L hL) hL λz=>I.ok.xK L z hL;exact⟨hk,⟨L,_,hf,hn,e,hd⟩,ih (λb hb=>hs b (by unfold l_;rw[List.filterMap_cons,hf];exact aae _ hb)) hr⟩
 exact all X.outer (λ_ hb=>hb) I.ok.kn
theorem Inv.stack(I:Inv X pins σ H s):s.heap.FunFrames X.base X.stack:=by
 rcases I.ok.Kh with e|⟨e,hf⟩
 ·rw[e];exact I.kn
 ·rw[e];obtain⟨m,hn,_⟩:=I.loc;refine .cons (by rw[I.ok.kind];decide) hf hn ?_ I.kn;exact Heap.get?_none_of_le (aaD I.ok.EK I.ok.above)
theorem Inv.ki(I:Inv X pins σ H s):∀b∈l_ X.stack,b∈X.env.locals::X.fs:=λb hb=>by
 rcases I.ok.Kh with e|⟨e,hf⟩
 ·rw[e]at hb;exact aae _ hb
 ·rw[e]at hb;unfold l_ at hb;rw[List.filterMap_cons,hf]at hb;exact hb
theorem Inv.kU(I:Inv X pins σ H s):∀b∈l_ X.stack,H b=none:=λb hb=>by
 rcases List.mem_cons.mp (I.ki b hb)with e|hb
 ·rw[e];exact I.free
 ·obtain⟨_,o,ho,_⟩:=I.ok.kn.mem hb;exact I.base.free b o ho (I.ok.Bq b hb) λz=>I.ok.xK b z hb
theorem Inv.step{g':Array GenState}{d':Drawn}(I:Inv X pins σ H s)
  (Fj:∀b∈ch,(b∈X.ex\/X.s₀.heap.objs.size<=b)/\b≠X.env.locals/\(∀x c,X.env.cells.lookup x=some c->c≠b)/\∀p∈X.pn++pins,p.1≠b)
  (keep:∀b o,b≠X.env.locals->b∉X.fs->b∉ch->s.heap.get? b=some o->H b=none->h'.get? b=some o)
  (slot:∀b o,b≠X.env.locals->b∈X.fs->b∉ch->s.heap.get? b=some o->H b=none->∃sl,h'.get? b=some { o with slots:=sl }) (free:∀b o,b∉ch->s.heap.get? b=some o->H b=none->H' b=none)
  (there:∀b o,b∉ch->s.heap.get? b=some o->∃o',h'.get? b=some o')
  (mZ:∀b xs,H b=some (.tup xs)->H' b=some (.tup xs)) (l9:∀b o u,H b=some (.i4 o u)->H' b=some (.i4 o u)) (m4:∀b ps,H b=some (.FQ ps)->∃more,H' b=some (.FQ (ps++more)))
  (ns:∀m,s.heap.Ns X.env.locals m->h'.Ns X.env.locals m) (cA:jZ X.prog X.w H' h') (hg:AllBare g') :
  Inv X pins σ H' { s with heap:=h',gens:=g',drawn:=d',toks:=t' }:=by
 have YX:∀b o,X.s₀.heap.get? b=some o->b≠X.env.locals:=λb o e=>aan (aal (aah e) I.ok.above);have Jn:∀b o,X.s₀.heap.get? b=some o->b∉X.ex->b∉ch:=λb o e hx hb=>by
  rcases(Fj b hb).1 with z|z
  ·exact hx z
  ·exact absurd (aal (aah e) z) (aax _)
 have cellK:∀x c,X.env.cells.lookup x=some c->∀v,s.heap.IsCell c v->h'.IsCell c v:=λx c e v bR=>by
  obtain⟨o,ho,hd⟩:=bR;have Qe:c∉ch:=λz=>(Fj c z).2.2.1 x c e rfl;by_cases hc:c∈X.fs
  ·obtain⟨sl,q⟩:=slot c o (I.Ig x c e) hc Qe ho (I.fW x c e);exact⟨_,q,hd⟩
  ·exact⟨o,keep c o (I.Ig x c e) hc Qe ho (I.fW x c e),hd⟩
 refine⟨I.ok,I.os,hg,⟨λb o e n hb hx=>?_,λb o e n hb hx=>?_,λb o e n hx=>?_,λb o e hx=>?_,λb xs e=>mZ b xs (I.base.mZ b xs e),λb o xs e=>l9 b o xs (I.base.l9 b o xs e),λb ps e=>?_⟩,?_,λx c e=>?_,?_,λx c e=>?_,λp hp=>?_,cA,I.len⟩
 ·exact keep b o (YX b o e) hb (Jn b o e hx) (I.base.keep b o e n hb hx) (I.base.free b o e n hx)
 ·obtain⟨sl,e1⟩:=I.base.slot b o e n hb hx;obtain⟨Vm,e2⟩:=slot b _ (YX b o e) hb (Jn b o e hx) e1 (I.base.free b o e n hx);exact⟨Vm,e2⟩
 ·obtain⟨o',e1⟩:=I.base.there b o e hx;exact free b o' (Jn b o e hx) e1 (I.base.free b o e n hx)
 ·obtain⟨o',e1⟩:=I.base.there b o e hx;exact there b o' (Jn b o e hx) e1
 ·obtain⟨m1,e1⟩:=I.base.m4 b ps e;obtain⟨m2,e2⟩:=m4 b _ e1;exact⟨m1++m2,by rw[e2,Array.append_assoc]⟩
 ·obtain⟨m,hn,hl⟩:=I.loc;refine⟨m,ns m hn,λi x v e1 e2 e3=>?_⟩;obtain⟨u,r,l⟩:=hl i x v e1 e2 e3;refine⟨u,r,?_⟩;rcases l with l|⟨k,c,e,z⟩
  ·exact .inl l
  ·exact .inr ⟨k,c,e,cellK x c e _ z⟩
 ·obtain⟨v,z⟩:=I.cell x c e;exact⟨v,cellK x c e v z⟩
 ·obtain⟨m,⟨o,_,_,ho,_⟩,_⟩:=I.loc;exact free _ o (λz=>(Fj _ z).2.1 rfl) ho I.free
 ·obtain⟨v,o,ho,hd⟩:=I.cell x c e;exact free c o (λz=>(Fj c z).2.2.1 x c e rfl) ho (I.fW x c e)
 ·obtain⟨e,n,ne,nf,d⟩:=I.pin p hp;have Qe:p.1∉ch:=λz=>(Fj p.1 z).2.2.2 p hp rfl;exact⟨keep p.1 p.2 ne nf Qe e n,free p.1 p.2 Qe e n,ne,nf,d⟩
theorem Inv.un(I:Inv X pins σ H s)(u:Un X.fs [] H H' s.heap h')(cA:jZ X.prog X.w H' h'):Inv X pins σ H' { s with heap:=h',toks:=t' }:=by
 obtain⟨m,⟨o,es,ep,ho,r⟩,_⟩:=id I.loc;obtain⟨sl,hL⟩:=u.any ho I.free (by simp);exact I.step (g':=s.gens) (d':=s.drawn) (ch:=[]) (λ_ z=>nomatch z) (λb o _ hb _ e n=>u.keep b o e n hb (by simp)) (λb o _ hb _ e n=>u.slot b o e n hb (by simp)) (λb o _ e n=>u.free b o e n (by simp)) (λb o _ e=>u.there b o e (by simp)) u.mZ u.l9 u.m4 (λm' hm=>by
  obtain⟨o',Oy,zr,gg,r'⟩:=hm;rw[ho]at gg;cases gg;exact⟨_,Oy,zr,hL,r'⟩) cA I.bare
theorem Inv.call{g':Array GenState}{d':Drawn}(I:Inv X pins σ H s)(u:Un (l_ X.stack) ch H H' s.heap h')(cA:jZ X.prog X.w H' h')(hg:AllBare g')
  (Fj:∀b∈ch,(b∈X.ex\/X.s₀.heap.objs.size<=b)/\b≠X.env.locals/\(∀x c,X.env.cells.lookup x=some c->c≠b)/\∀p∈X.pn++pins,p.1≠b) :
  Inv X pins σ H' { s with heap:=h',gens:=g',drawn:=d',toks:=t' }:=by
 obtain⟨m,⟨o,es,ep,ho,r⟩,_⟩:=id I.loc;obtain⟨sl,hL⟩:=u.any ho I.free λz=>(Fj _ z).2.1 rfl;exact I.step (ch:=ch) Fj (λb o hL hb hc e n=>u.keep b o e n (λz=>(List.mem_cons.mp (I.ki b z)).elim hL hb) hc) (λb o _ _ hc e n=>u.any e n hc) (λb o hc e n=>u.free b o e n hc) (λb o hc e=>u.there b o e hc) u.mZ u.l9 u.m4 (λm' hm=>by
  obtain⟨o',Oy,zr,gg,r'⟩:=hm;rw[ho]at gg;cases gg;exact⟨_,Oy,zr,hL,r'⟩) cA hg
theorem Inv.turned{it:Addr}(I:Inv X pins σ H s)(k:∀b o,b≠it->s.heap.get? b=some o->h'.get? b=some o)(hn:H it=none)(hL:it≠X.env.locals)
  (h1:it∈X.ex\/X.s₀.heap.objs.size<=it) (h2:∀x c,X.env.cells.lookup x=some c->c≠it) (h3:∀p∈X.pn++pins,p.1≠it):Inv X pins σ H { s with heap:=h',toks:=t' }:=by
 have Jm:∀b u,H b=some u->b≠it:=λb u e z=>by rw[z,hn]at e;cases e
 refine I.step (g':=s.gens) (d':=s.drawn) (ch:=[it]) (λb hb=>?_) (λb o _ _ hc e _=>k b o (λz=>hc (by simp[z])) e) (λb o _ _ hc e _=>⟨o.slots,k b o (λz=>hc (by simp[z])) e⟩) (λ_ _ _ _ n=>n)
  (λb o hc e=>⟨o,k b o (λz=>hc (by simp[z])) e⟩) (λ_ _ e=>e) (λ_ _ _ e=>e) (λb ps e=>⟨#[],by rw[e];simp⟩) (λm hm=>?_) (λb u e=>?_) I.bare
 ·have e:b=it:=by simpa using hb
  subst e;exact⟨h1,hL,h2,h3⟩
 ·obtain⟨o,es,ep,ho,r⟩:=hm;exact⟨o,es,ep,k _ o (abw hL) ho,r⟩
 ·refine(I.cA b u e).i_ (λc v hc q=>k c v ?_ q) (λ_ q=>q) λ_ _ q=>q;rcases hc with z|z
  ·rw[z];exact Jm b u e
  ·exact Jm c _ z
theorem Inv.tok(I:Inv X pins σ H s)(t:Nat):Inv X pins σ H { s with toks:=t }:=I.un (h':=s.heap) (t':=t) Un.refl I.cA
theorem Inv.kept{t':Nat}(I:Inv X pins σ H s)(k:∀b u,s.heap.get? b=some u->h'.get? b=some u):Inv X pins σ H { s with heap:=h',toks:=t' }:=I.un (Un.kept k) (I.cA.kept k)
theorem Inv.laid{a:Addr}{o:HO}{t':Nat}(I:Inv X pins σ H s)(k:∀b u,s.heap.get? b=some u->h'.get? b=some u)(hp:s.heap.objs.size<=a)(new:cS X.prog X.w (upd H a o) h' a o):
  Inv X pins σ (upd H a o) { s with heap:=h',toks:=t' }:=I.un (Un.laid k hp (I.cA.fresh hp)) (I.cA.laid k hp new)
theorem Inv.write{x e:Addr}{o:HO}{t':Nat}(I:Inv X pins σ H s)(mu:UA (H x))(he:e=x\/H e=some (.own x))(k:∀b u,b≠e->s.heap.get? b=some u->h'.get? b=some u)(Ol:∃u,h'.get? e=some u)
  (new:cS X.prog X.w (upd H x o) h' x o):Inv X pins σ (upd H x o) { s with heap:=h',toks:=t' }:=I.un (Un.write mu he k Ol) (I.cA.write mu he k Ol new)
theorem Inv.jN{Ct:aq}(I:Inv X pins σ H s)(h:∀p∈Ct,s.heap.get? p.1=some p.2/\H p.1=none/\p.1≠X.env.locals/\p.1∉X.fs/\∀v,p.2.data≠.cell v):Inv X Ct σ H s :=
 ⟨I.ok,I.os,I.bare,I.base,I.loc,I.cell,I.free,I.fW,λp hp=>(List.mem_append.mp hp).elim (λz=>I.pin p (aaC _ z)) (h p),I.cA,I.len⟩
theorem vf{N:ao}(hN:N.Nodup){i j:Nat}{x:Str}(a:N[i]?=some x)(b:N[j]?=some x):i=j:=by
 obtain⟨h1,e1⟩:=List.getElem?_eq_some_iff.mp a;obtain⟨h2,e2⟩:=List.getElem?_eq_some_iff.mp b;exact(ach hN).mp (e1.trans e2.symm)
theorem Ah{M:Model}{i:Nat}{x:Str}{v:V}{u:Value}(I:Inv X pins σ H s)(hN:X.N.Nodup)(hi:X.N[i]?=some x)(hx:Loc X.env.scope x)(r:RelV v u)
  (h:∀s',Inv X pins (σ.set i (some v)) H s'->(∃a,Heap.SameBut a s.heap s'.heap/\(a=X.env.locals\/X.env.cells.lookup x=some a))->Q () s') (hf:X.fn x=true\/X.env.scope.names.lookup x=some .local:=by first|exact .inl rfl|exact .inr rfl|assumption):wpAny M A (storeName X.env x u) Q E s:=by
 obtain⟨m,hn,hl⟩:=id I.loc;have vz:(X.env.scope.kind==.class||(X.env.scope.kind==.module&&X.env.locals != X.env.globals))=false:=by rw[I.ok.kind];rfl
 have Q_:i<σ.length:=by rw[I.len];exact(List.getElem?_eq_some_iff.mp hi).1
 have Ig:=I.Ig;have tracked:∀{a:Addr} {h':Heap},(∃o,s.heap.get? a=some o/\H a=none)->Heap.SameBut a s.heap h'->jZ X.prog X.w H h':=λ{a h'} ha hs b ob e=>by
  obtain⟨_,_,Jy⟩:=ha;refine(I.cA b ob e).i_ (λc w' hc q=>(hs.2 c ?_).trans q) (λ_ q=>q) λ_ _ q=>q;rintro rfl;rcases hc with rfl|hc
  ·rw[Jy]at e;cases e
  ·rw[Jy]at hc;cases hc
 rcases hx with hk|hk
 ·refine wpAny_storeName_local hk hn (λh' za hs=>?_) vz;obtain⟨oL,_,_,Q1,_⟩:=id hn;refine h _ ⟨I.ok,I.os,I.bare,⟨λb o e n hb hx=>?_,λb o e n hb hx=>?_,I.base.free,λb o e hx=>?_,I.base.mZ,I.base.l9,I.base.m4⟩,⟨_,za,λj y v' e1 e2 e3=>?_⟩,λy c e=>?_,I.free,I.fW,λp hp=>?_,tracked ⟨oL,Q1,I.free⟩ hs,by simpa using I.len⟩ ⟨_,hs,.inl rfl⟩
  ·exact(hs.2 b (aan (aal (aah e) I.ok.above))).trans (I.base.keep b o e n hb hx)
  ·obtain⟨sl,e1⟩:=I.base.slot b o e n hb hx;exact⟨sl,(hs.2 b (aan (aal (aah e) I.ok.above))).trans e1⟩
  ·obtain⟨o',e1⟩:=I.base.there b o e hx;exact⟨o',(hs.2 b (aan (aal (aah e) I.ok.above))).trans e1⟩
  ·by_cases hj:j=i
   ·subst hj;rw[hi]at e1;cases e1;rw[List.getElem?_set_self Q_]at e2;cases e2;exact⟨u,r,.inl ⟨hk,by simp⟩⟩
   ·rw[List.getElem?_set_ne (Ne.symm hj)]at e2;obtain⟨u',r',q⟩:=hl j y v' e1 e2 e3;refine⟨u',r',?_⟩;rcases q with ⟨k,e⟩|⟨k,c,e,z⟩
    ·refine .inl ⟨k,?_⟩;have:y≠x:=λe=>hj (vf hN e1 (e▸hi));simp[this,e]
    ·exact .inr ⟨k,c,e,z.sameBut hs (Ig y c e)⟩
  ·obtain⟨w',z⟩:=I.cell y c e;exact⟨w',z.sameBut hs (Ig y c e)⟩
  ·obtain⟨e,n,ne,nf,d⟩:=I.pin p hp;exact⟨(hs.2 p.1 ne).trans e,n,ne,nf,d⟩
 ·have wq:X.fn x=true:=by
   rcases hf with z|z
   ·exact z
   ·rw[z]at hk;cases hk
  obtain⟨c,hc⟩:=I.ok.has x (.inl hk);obtain⟨w',z⟩:=I.cell x c hc;refine wpAny_storeName_cell I.ok.kind hk hc z (λh' wt hs=>?_);obtain⟨oc,Zq,WD⟩:=id z;refine h { s with heap:=h' } ⟨I.ok,I.os,I.bare,⟨λb o e n hb hx=>?_,λb o e n hb hx=>?_,I.base.free,λb o e hx=>?_,I.base.mZ,I.base.l9,I.base.m4⟩,⟨m,hn.sameBut hs (abw (Ig x c hc)),λj y v' e1 e2 e3=>?_⟩,λy c' e=>?_,I.free,I.fW,λp hp=>?_,tracked ⟨oc,Zq,I.fW x c hc⟩ hs,by simpa using I.len⟩ ⟨c,hs,.inr hc⟩
  ·exact(hs.2 b (aan (aal (aah e) (I.ok.JK x c wq hc)))).trans (I.base.keep b o e n hb hx)
  ·obtain⟨sl,e1⟩:=I.base.slot b o e n hb hx;exact⟨sl,(hs.2 b (aan (aal (aah e) (I.ok.JK x c wq hc)))).trans e1⟩
  ·obtain⟨o',e1⟩:=I.base.there b o e hx;exact⟨o',(hs.2 b (aan (aal (aah e) (I.ok.JK x c wq hc)))).trans e1⟩
  ·by_cases hj:j=i
   ·subst hj;rw[hi]at e1;cases e1;rw[List.getElem?_set_self Q_]at e2;cases e2;exact⟨u,r,.inr ⟨.inl hk,c,hc,wt⟩⟩
   ·rw[List.getElem?_set_ne (Ne.symm hj)]at e2;obtain⟨u',r',q⟩:=hl j y v' e1 e2 e3;refine⟨u',r',?_⟩;rcases q with q|⟨k,c',e,z'⟩
    ·exact .inl q
    ·refine .inr ⟨k,c',e,z'.sameBut hs ?_⟩;rintro rfl;exact hj (vf hN e1 (I.ok.inj _ _ _ e hc▸hi))
  ·by_cases ZE:c'=c
   ·subst ZE;exact⟨_,wt⟩
   ·obtain⟨w2,z2⟩:=I.cell y c' e;exact⟨w2,z2.sameBut hs ZE⟩
  ·obtain⟨e,n,ne,nf,d⟩:=I.pin p hp;refine⟨(hs.2 p.1 ?_).trans e,n,ne,nf,d⟩;intro q;rw[q,Zq]at e;have q':oc=p.2:=aar e;exact d w' (by rw[<- q'];exact WD)
theorem gY{M:Model}{i:Nat}{x:Str}{v:V}{u:Value}(I:Inv X pins σ H s)(hN:X.N.Nodup)(hi:X.N[i]?=some x)(hx:Loc X.env.scope x)(r:RelV v u)
  (h:∀s',Inv X pins (σ.set i (some v)) H s'->Q () s') (hf:X.fn x=true\/X.env.scope.names.lookup x=some .local:=by first|exact .inl rfl|exact .inr rfl|assumption):wpAny M A (storeName X.env x u) Q E s :=
 Ah I hN hi hx r (λs' I' _=>h s' I') hf
theorem Inv.zJ{s':Shared}(I:Inv X pins σ H s)(ho:s'.os=s.os)(u:Un (l_ X.stack) ch H H' s.heap s'.heap)(cA:jZ X.prog X.w H' s'.heap)(hg:AllBare s'.gens)
  (Fj:∀b∈ch,(b∈X.ex\/X.s₀.heap.objs.size<=b)/\b≠X.env.locals/\(∀x c,X.env.cells.lookup x=some c->c≠b)/\∀p∈X.pn++pins,p.1≠b):Inv X pins σ H' s':=by
 obtain⟨h',g',d',t',o'⟩:=s';have e:o'=s.os:=ho;subst e;exact I.call (g':=g') (t':=t') (d':=d') u cA hg Fj
end
noncomputable abbrev XK:=Value->Option Addr->Hp->Prop
noncomputable abbrev St:=List (Option V)
noncomputable abbrev VK:=V->Hp->Prop
noncomputable abbrev TE:=St->Hp->VK->Prop
noncomputable abbrev TT:=St->Hp->(Bool->Hp->Prop)->Prop
noncomputable abbrev TA:=St->Hp->(af->Hp->Prop)->Prop
structure Ends where
 nx:St->Hp->Prop
 rt:VK
 bk:St->Hp->Prop:=λ_ _=>False
 ct:St->Hp->Prop:=λ_ _=>False
noncomputable abbrev TS:=Ends->St->Hp->Prop
def EP(X:Cx)(pins:aq)(σ:St)(Q:VK)(u:Value)(s':Shared):Prop:=∃v H',Inv X pins σ H' s'/\RelV v u/\Q v H'
def TP(X:Cx)(pins:aq)(σ:St)(Q:Bool->Hp->Prop)(b:Bool)(s':Shared):Prop:=∃H',Inv X pins σ H' s'/\Q b H'
def AP(X:Cx)(pins:aq)(σ:St)(Q:af->Hp->Prop)(us:av)(s':Shared):Prop:=∃vs H',Inv X pins σ H' s'/\Vals vs us/\Q vs H'
def SP(X:Cx)(pins:aq)(D:Ends)(f:Flow)(s':Shared):Prop :=
 match f with
 |.next=>∃σ' H',Inv X pins σ' H' s'/\D.nx σ' H'
 |.brk=>∃σ' H',Inv X pins σ' H' s'/\D.bk σ' H'
 |.cont=>∃σ' H',Inv X pins σ' H' s'/\D.ct σ' H'
 |.ret u=>∃v σ' H',Inv X pins σ' H' s'/\RelV v u/\D.rt v H'
noncomputable def PE(X:Cx)(e:Expr)(t:TE):Prop :=
 ∀(pins:aq) (s:Shared) (σ:St) (H:Hp) (Q:VK),Inv X pins σ H s->t σ H Q->wpAny (model X.prog X.w) X.A (eval e X.env) (EP X pins σ Q) X.xe s
noncomputable def PT(X:Cx)(e:Expr)(t:TT):Prop :=
 ∀(pins:aq) (s:Shared) (σ:St) (H:Hp) (Q:Bool->Hp->Prop),Inv X pins σ H s->t σ H Q->wpAny (model X.prog X.w) X.A (isTrue e X.env (eval e X.env)) (TP X pins σ Q) X.xe s
noncomputable def PW(X:Cx)(e:Expr)(t:TT):Prop :=
 ∀(whole:Sem Value) (pins:aq) (s:Shared) (σ:St) (H:Hp) (Q:Bool->Hp->Prop),Inv X pins σ H s->t σ H Q->wpAny (model X.prog X.w) X.A (isTrue e X.env whole) (TP X pins σ Q) X.xe s
theorem PW.pt{X:Cx}{e:Expr}{t:TT}(h:PW X e t):PT X e t:=h _
noncomputable def PA(X:Cx)(es:aC)(t:TA):Prop :=
 ∀(pos:Pos) (pins:aq) (s:Shared) (σ:St) (H:Hp) (Q:af->Hp->Prop),Inv X pins σ H s->t σ H Q->wpAny (model X.prog X.w) X.A (spliced (backTo pos (starEach es X.env))) (AP X pins σ Q) X.xe s
noncomputable def PS(X:Cx)(st:Stmt)(t:TS):Prop :=
 ∀(pins:aq) (s:Shared) (σ:St) (H:Hp) (D:Ends),Inv X pins σ H s->t D σ H->wpAny (model X.prog X.w) X.A (exec st X.env) (SP X pins D) X.xe s
noncomputable def iY(X:Cx)(st:ba)(t:TS):Prop :=
 ∀(pins:aq) (s:Shared) (σ:St) (H:Hp) (D:Ends),Inv X pins σ H s->t D σ H->wpAny (model X.prog X.w) X.A (execs st X.env) (SP X pins D) X.xe s
theorem dg{α:Type}{t:Sem α}{Q Q':α->Shared->Prop}{M:Model}{s:Shared}(h:wpAny M A t Q E s)(hQ:∀a s,Q a s->Q' a s):wpAny M A t Q' E s:=aav h hQ λ_ _ x=>x
end L2
namespace L2
open PySem PySem.Spec PyProof.Rows
variable {E Q:Value->Shared->Prop}{H:Hp}{pos:Pos}{σ:L2.St}
section
variable {X:Cx}
theorem bin{a b:Expr}{ta tb:TE}(ha:PE X a ta)(hb:PE X b tb){pins:aq}{s:Shared}{R:V->V->Hp->Prop}(I:Inv X pins σ H s)(h:ta σ H λx H1=>tb σ H1 λy H2=>R x y H2)
  {α:Type} {Q:α->Shared->Prop} {f:Value->Value->Sem α}
  (hf:∀v u s2 x y H2,Inv X pins σ H2 s2->RelV x v->RelV y u->R x y H2->wpAny (model X.prog X.w) X.A (f v u) Q X.xe s2) :
  wpAny (model X.prog X.w) X.A (eval a X.env) (λv s₁=>wpAny (model X.prog X.w) X.A (eval b X.env) (λu s₂=>wpAny (model X.prog X.w) X.A (f v u) Q X.xe s₂) X.xe s₁) X.xe s:=by
 refine dg (ha pins s σ H _ I h) λv s1 bR=>?_;obtain⟨x,H1,I1,r1,q1⟩:=bR;refine dg (hb pins s1 σ H1 _ I1 q1) λu s2 bR=>?_;obtain⟨y,H2,I2,r2,q2⟩:=bR;exact hf v u s2 x y H2 I2 r1 r2 q2
noncomputable def wL(i:Nat):TE:=λσ H Q=>∃v,σ[i]?=some (some v)/\Q v H
noncomputable def tC(v:V):TE:=λ_ H Q=>Q v H
theorem oV{i:Nat}{x:Str}(hN:X.N[i]?=some x)(hv:JS X.env.scope x)(hd:(x==("__debug__" : Str))=false:=by decide)(xE:(x==("__classdict__" : Str))=false:=by decide):PE X (.Name x pos) (wL i):=by
 intro pins s σ H Q I h;obtain⟨v,e,h⟩:=h;obtain⟨m,hn,hl⟩:=I.loc;obtain⟨u,r,l⟩:=hl i x v hN e hv;have fin:EP X pins σ Q u s:=⟨v,H,I,r,h⟩
 rcases l with ⟨hk,hm⟩|⟨hk,c,hc,hcell⟩
 ·exact wpAny_Name (wpAny_loadName_local I.ok.kind hk hn hm fin) hd
 ·rcases hk with hk|hk
  ·exact wpAny_Name (wpAny_loadName_cell I.ok.kind hk hc hcell fin) hd
  ·exact wpAny_Name (wpAny_loadName_free I.ok.kind hk hc hcell fin xE) hd
theorem K9{i j pos}:PE X (.Constant (.int i) j pos) (tC (.int i)):=λ_ _ _ H _ I h=>wpAny_Constant_int ⟨.int i,H,I.tok _,⟨_,rfl⟩,h⟩
theorem PY{b j pos}:PE X (.Constant (.bool b) j pos) (tC (.bl b)):=λ_ _ _ H _ I h=>Constant_bool ⟨.bl b,H,I,rfl,h⟩
theorem CD{j pos}:PE X (.Constant .none j pos) (tC .bV):=λ_ _ _ H _ I h=>Constant_none ⟨.bV,H,I,rfl,h⟩
theorem K5{x j pos}:PE X (.Constant (.str x) j pos) (tC (.str x)):=λ_ _ _ H _ I h=>Calls.Constant_str ⟨.str x,H,I.tok _,⟨_,rfl⟩,h⟩
def Gl(X:Cx)(x:Str):Prop:=X.env.kindOf x=some .globalImplicit
theorem tm{pins:aq}{s:Shared}{x:Str}{u:Value}(I:Inv X pins σ H s)(hg:Gl X x)(hm:X.mg x=some u)(h:Q u s)
  (hd:(x==("__debug__" : Str))=false:=by decide):wpAny (model X.prog X.w) X.A (eval (.Name x pos) X.env) Q E s :=
 abi I.ok.kind hg (Calls.loadGlobal_global (by rw[I.ok.glob];exact I.mod.glob.keeps I.bk) hm h) hd
theorem eK{pins:aq}{s:Shared}{x:Str}{u:Value}(I:Inv X pins σ H s)(hg:Gl X x)(hm:X.mg x=none)(hv:bootBuiltins x=some u)(h:Q u s)
  (hn:x ≠ "__name__":=by decide) (hd:(x==("__debug__" : Str))=false:=by decide):wpAny (model X.prog X.w) X.A (eval (.Name x pos) X.env) Q E s:=by
 obtain⟨mb,h1,h2⟩:=I.mod.blt;exact abi I.ok.kind hg (Calls.loadGlobal_builtin (by rw[I.ok.glob];exact I.mod.glob.keeps I.bk) hm (by rw[I.ok.blt];exact h1.keeps I.bk) ((h2 x hn).trans hv) h) hd
theorem sR{x:Str}{v:V}{u:Value}(hg:Gl X x)(hm:X.mg x=some u)(r:RelV v u)(hd:(x==("__debug__" : Str))=false:=by decide):PE X (.Name x pos) (tC v) :=
 λ_ _ _ H _ I h=>tm I hg hm ⟨v,H,I,r,h⟩ hd
theorem GJ{x:Str}{v:V}{u:Value}(hg:Gl X x)(hm:X.mg x=none)(hv:bootBuiltins x=some u)(r:RelV v u)(hn:x ≠ "__name__":=by decide)(hd:(x==("__debug__" : Str))=false:=by decide):PE X (.Name x pos) (tC v) :=
 λ_ _ _ H _ I h=>eK I hg hm hv ⟨v,H,I,r,h⟩ hn hd
variable {a b:Expr}{ta tb:TE}{pos:Pos}
noncomputable def tB(t:TE):TT:=λσ H Q=>t σ H λx H1=>∃c,x=.bl c/\Q c H1
theorem KY{e:Expr}{t:TE}(h:PE X e t)(he:∀whole,isTrue e X.env whole=(do let v <- whole;standAt e.pos;holding [v] (truthy v)):=by intro _;rfl):PT X e (tB t):=by
 intro pins s σ H Q I hw;refine isTrue_plain (dg (h pins s σ H _ I hw) λv s1 bR=>?_) (he _);obtain⟨x,H1,I1,r1,q1⟩:=bR;obtain⟨d,rfl,q⟩:=q1;cases r1;exact aaY ⟨H1,I1,q⟩
variable {tA S0:TT}{rest:aC}
noncomputable def Pd(t u:TT):TT:=λσ H Q=>t σ H λc H1=>if c=true then u σ H1 Q else Q false H1
noncomputable def Yw(t u:TT):TT:=λσ H Q=>t σ H λc H1=>if c=true then Q true H1 else u σ H1 Q
noncomputable def U0(t:TT):TT:=λσ H Q=>t σ H λc H1=>Q (!c) H1
theorem GA(ha:PT X a tA):PW X (.BoolOp .And [a] pos) tA:=by
 intro wh pins s σ H Q I h;refine isTrue_and (dg (ha pins s σ H Q I h) λc s1 e=>?_);cases c with
 |true=>exact isTrue_and_nil e
 |false=>exact e
theorem KU(ha:PT X a tA):PW X (.BoolOp .Or [a] pos) tA:=by
 intro wh pins s σ H Q I h;refine isTrue_or (dg (ha pins s σ H Q I h) λc s1 e=>?_);cases c with
 |false=>exact isTrue_or_nil e
 |true=>exact e
theorem KW(ha:PT X a tA)(hb:PW X (.BoolOp .And (b::rest) pos) S0):PW X (.BoolOp .And (a::b::rest) pos) (Pd tA S0):=by
 intro wh pins s σ H Q I h;refine isTrue_and (dg (ha pins s σ H _ I h) λc s1 ⟨H1,I1,q1⟩=>?_);cases c with
 |true=>exact hb wh pins s1 σ H1 Q I1 q1
 |false=>exact⟨H1,I1,q1⟩
theorem PL(ha:PT X a tA)(hb:PW X (.BoolOp .Or (b::rest) pos) S0):PW X (.BoolOp .Or (a::b::rest) pos) (Yw tA S0):=by
 intro wh pins s σ H Q I h;refine isTrue_or (dg (ha pins s σ H _ I h) λc s1 ⟨H1,I1,q1⟩=>?_);cases c with
 |true=>exact⟨H1,I1,q1⟩
 |false=>exact hb wh pins s1 σ H1 Q I1 q1
theorem KZ(ha:PT X a tA):PT X (.UnaryOp .Not a pos) (U0 tA):=by
 intro pins s σ H Q I h;exact isTrue_not (ha pins s σ H (λc H1=>Q (!c) H1) I h)
noncomputable def IP(ta tb:TE):TE:=λσ H Q=>ta σ H λx H1=>∃c,x=.bl c/\if c=true then tb σ H1 Q else Q (.bl false) H1
noncomputable def O7(ta tb:TE):TE:=λσ H Q=>ta σ H λx H1=>∃c,x=.bl c/\if c=true then Q (.bl true) H1 else tb σ H1 Q
noncomputable def O8(ta:TE):TE:=λσ H Q=>ta σ H λx H1=>∃c,x=.bl c/\Q (.bl (!c)) H1
theorem CB{op}{t:TE}(h:PE X a t):PE X (.BoolOp op [a] pos) t:=λpins s σ H Q I hw=>BoolOp_one (h pins s σ H Q I hw)
theorem K_(ha:PE X a ta)(hb:PE X (.BoolOp .And (b::rest) pos) tb):PE X (.BoolOp .And (a::b::rest) pos) (IP ta tb):=by
 intro pins s σ H Q I h;refine BoolOp_and (dg (ha pins s σ H _ I h) λv s1 bR=>?_);obtain⟨x,H1,I1,r1,q1⟩:=bR;obtain⟨c,rfl,q1⟩:=q1;cases r1;refine aaY ?_;cases c with
 |true=>exact hb pins s1 σ H1 Q I1 q1
 |false=>exact⟨.bl false,H1,I1,rfl,q1⟩
theorem PU(ha:PE X a ta)(hb:PE X (.BoolOp .Or (b::rest) pos) tb):PE X (.BoolOp .Or (a::b::rest) pos) (O7 ta tb):=by
 intro pins s σ H Q I h;refine BoolOp_or (dg (ha pins s σ H _ I h) λv s1 bR=>?_);obtain⟨x,H1,I1,r1,q1⟩:=bR;obtain⟨c,rfl,q1⟩:=q1;cases r1;refine aaY ?_;cases c with
 |false=>exact hb pins s1 σ H1 Q I1 q1
 |true=>exact⟨.bl true,H1,I1,rfl,q1⟩
theorem K6(ha:PE X a ta):PE X (.UnaryOp .Not a pos) (O8 ta):=by
 intro pins s σ H Q I h;refine UnaryOp_ (dg (ha pins s σ H _ I h) λv s1 bR=>?_);obtain⟨x,H1,I1,r1,q1⟩:=bR;obtain⟨c,rfl,q1⟩:=q1;cases r1;exact not_of (aaY ⟨.bl (!c),H1,I1,rfl,q1⟩)
end
end L2
namespace L2
open PySem PySem.Spec PyProof.Rows
def dH(K:au)(H:Hp)(a:Addr)(xs:af):Prop :=
 Rd H a (.lst xs) \/
  ∃(o:Obj) (aK:aP) (n:Nat),K.lookup a=some o/\o.cls=.type "list" /\ o.dict=none/\o.data=.seq aK n/\aK.size<=sizeLine/\Vals xs aK.toList
def aY(K:au)(H:Hp)(a:Addr)(xs:af):Prop :=
 Rd H a (.tup xs) \/
  ∃(o:Obj) (aK:aP) (n:Nat),K.lookup a=some o/\o.cls=.type "tuple" /\ o.data=.seq aK n/\aK.size<=sizeLine/\Vals xs aK.toList
noncomputable def Ya:Value->Option V
 |.none=>some .bV
 |.bool b=>some (.bl b)
 |.int i _=>some (.int i)
 |.str x _=>some (.str x)
 |.bytes b _=>some (.X3 b)
 |.float b _=>some (.R5 b)
 |.ref a=>some (.ref a)
 |.type n=>some (.ty n)
 |_=>none
theorem RelV.abs{x:V}{u:Value}(r:RelV x u):Ya u=some x:=by
 cases x with
 |bV=>cases r;rfl
 |bl _=>cases r;rfl
 |int _=>obtain⟨t,rfl⟩:=r;rfl
 |str _=>obtain⟨t,rfl⟩:=r;rfl
 |X3 _=>obtain⟨t,rfl⟩:=r;rfl
 |R5 _=>obtain⟨t,rfl⟩:=r;rfl
 |ref _=>cases r;rfl
 |ty _=>cases r;rfl
theorem RelV.inj{x y:V}{u:Value}(r:RelV x u)(q:RelV y u):x=y:=aar (r.abs.symm.trans q.abs)
theorem Vals.inj:∀{xs ys:af} {us:av},Vals xs us->Vals ys us->xs=ys
 |_,_,_,.nil,.nil=>rfl
 |_,_,_,.cons r t,.cons r' t'=>by rw[r.inj r',Vals.inj t t']
variable {K:au}
section
variable {X:Cx}{pins:aq}{σ:St}{H:Hp}{s:Shared}{a:Addr}{xs ys:af}
theorem dH.of(h:H a=some (.lst xs)):dH K H a xs:=.inl (.inl h)
theorem aY.of(h:H a=some (.tup xs)):aY K H a xs:=.inl (.inl h)
theorem Inv.list(I:Inv X pins σ H s)(h:dH X.K H a xs):∃aK:av,Vals xs aK/\PlainL s.heap a aK.toArray/\xs.length<=sizeLine:=by
 rcases h with h|⟨o,aK,n,hk,hc,hd,hs,hz,r⟩
 ·obtain⟨z,aK,n,r,e⟩:=h.ok I.cA;exact⟨aK,r,⟨_,n,e,rfl,rfl,rfl⟩,z⟩
 ·refine⟨aK.toList,r,⟨o,n,I.AD a o hk,hc,hd,by simpa using hs⟩,?_⟩;have e:=r.length;simp only[Array.length_toList]at e;left
theorem Inv.tuple(I:Inv X pins σ H s)(h:aY X.K H a xs):∃aK:av,Vals xs aK/\IsTup s.heap a aK.toArray/\xs.length<=sizeLine:=by
 rcases h with h|⟨o,aK,n,hk,hc,hs,hz,r⟩
 ·obtain⟨z,aK,r,p⟩:=h.ok I.cA;exact⟨aK,r,p,z⟩
 ·refine⟨aK.toList,r,⟨o,I.AD a o hk,hc,n,by simpa using hs⟩,?_⟩;have e:=r.length;simp only[Array.length_toList]at e;left
theorem Inv.k7(I:Inv X pins σ H s)(h:dH X.K H a xs)(h':dH X.K H a ys):xs=ys:=by
 obtain⟨aK,r,⟨o,n,e,_,_,d⟩,_⟩:=I.list h;obtain⟨its',r',⟨o',n',e',_,_,d'⟩,_⟩:=I.list h';rw[e]at e';cases e';rw[d]at d';injection d' with d1 _;have:aK=its':=by simpa using congrArg Array.toList d1
 subst this;exact r.inj r'
theorem Inv.jG(I:Inv X pins σ H s)(h:aY X.K H a xs)(h':aY X.K H a ys):xs=ys:=by
 obtain⟨aK,r,⟨o,e,_,n,d⟩,_⟩:=I.tuple h;obtain⟨its',r',⟨o',e',_,n',d'⟩,_⟩:=I.tuple h';rw[e]at e';cases e';rw[d]at d';injection d' with d1 _;have:aK=its':=by simpa using congrArg Array.toList d1
 subst this;exact r.inj r'
end
noncomputable abbrev Cx.ox(X:Cx)(E:aB):Cx:={ X with xe:=E }
abbrev Cx.Fb(X:Cx):Cx:=X.ox λ_ _=>False
theorem Cx.Ok.ox{X:Cx}(ok:X.Ok)(E:aB):(X.ox E).Ok :=
 ⟨ok.mod,ok.kind,ok.glob,ok.blt,ok.above,ok.inj,ok.has,ok.JK,ok.hd,ok.frames,ok.Kh,ok.R8,ok.bs,ok.EK,ok.ve,ok.xK,ok.kn,ok.Bq⟩
variable {E:Value->Shared->Prop}{X:Cx}
theorem Cx.Ok.ig(ok:(X.ox E).Ok):X.Ok :=
 ⟨ok.mod,ok.kind,ok.glob,ok.blt,ok.above,ok.inj,ok.has,ok.JK,ok.hd,ok.frames,ok.Kh,ok.R8,ok.bs,ok.EK,ok.ve,ok.xK,ok.kn,ok.Bq⟩
section
variable {X:Cx}{pins:aq}{σ:St}{H:Hp}{s:Shared}{E:aB}
theorem Inv.ox(I:Inv X pins σ H s)(E:aB):Inv (X.ox E) pins σ H s:=⟨I.ok.ox E,I.os,I.bare,I.base,I.loc,I.cell,I.free,I.fW,I.pin,I.cA,I.len⟩
theorem Inv.ig(I:Inv (X.ox E) pins σ H s):Inv X pins σ H s:=⟨I.ok.ig,I.os,I.bare,I.base,I.loc,I.cell,I.free,I.fW,I.pin,I.cA,I.len⟩
theorem SP.ig{D:Ends}{f:Flow}{s':Shared}(h:SP (X.ox E) pins D f s'):SP X pins D f s':=by
 cases f with
 |next=>obtain⟨σ',H',I,q⟩:=h;exact⟨σ',H',I.ig,q⟩
 |brk=>obtain⟨σ',H',I,q⟩:=h;exact⟨σ',H',I.ig,q⟩
 |cont=>obtain⟨σ',H',I,q⟩:=h;exact⟨σ',H',I.ig,q⟩
 |ret u=>obtain⟨v,σ',H',I,r,q⟩:=h;exact⟨v,σ',H',I.ig,r,q⟩
theorem iY.Fb{st:ba}{t:TS}(h:iY X.Fb st t):iY X st t:=λpins s σ H D I hw =>
 aav (h pins s σ H D (I.ox _) hw) (λ_ _ q=>q.ig) λ_ _ z=>False.elim z
end
variable {H:Hp}{σ:L2.St}
section
variable {X:Cx}{st:Stmt}{rest:ba}{t u:TS}{e:Expr}{te:TE}{pos:Pos}
noncomputable def IL:TS:=λD σ H=>D.nx σ H
noncomputable def UX(t u:TS):TS:=λD σ H=>t { D with nx:=u D } σ H
theorem GC:iY X [] IL:=λ_ _ σ H _ I h=>abp ⟨σ,H,I,h⟩
theorem jb(h1:PS X st t)(h2:iY X rest u):iY X (st::rest) (UX t u):=by
 intro pins s σ H D I h;refine wpAny_execs_cons (dg (h1 pins s σ H { D with nx:=u D } I h) λf s1 q=>?_);cases f with
 |next =>
  obtain⟨σ',H',I',q⟩:=q;exact h2 pins s1 σ' H' D I' q
 |ret v=>exact q
 |brk=>exact q
 |cont=>exact q
theorem nM(h1:PS X st t):iY X [st] t:=by
 intro pins s σ H D I h;refine wpAny_execs_cons (dg (h1 pins s σ H D I h) λf s1 q=>?_);cases f with
 |next=>exact abp q
 |ret v=>exact q
 |brk=>exact q
 |cont=>exact q
theorem Inv.quiet{pins:aq}{s:Shared}(I:Inv X pins σ H s):interactive X.env=false:=by simp[interactive,I.ok.kind]
noncomputable def O_(te:TE):TS:=λD σ H=>te σ H λ_ H1=>D.nx σ H1
theorem nN(he:PE X e te)(hs:swapsWith e none pos.line X.env=pure false:=by rfl):PS X (.Expr e pos) (O_ te):=by
 intro pins s σ H D I h;exact wpAny_Expr_any (dg (he pins s σ H _ I h) λv s1 ⟨x,H1,I1,r1,q1⟩=>⟨σ,H1,I1,q1⟩) I.quiet hs
noncomputable def UY(te:TE):TS:=λD σ H=>te σ H D.rt
theorem w6(he:PE X e te):PS X (.Return (some e) pos) (UY te):=by
 intro pins s σ H D I h;exact wpAny_Return_some (dg (he pins s σ H _ I h) λv s1 ⟨x,H1,I1,r1,q1⟩=>⟨x,σ,H1,I1,r1,q1⟩)
noncomputable def U3(c:TT)(t u:TS):TS:=λD σ H=>c σ H λb H1=>if b=true then t D σ H1 else u D σ H1
theorem Cp{c:Expr}{a b:ba}{tc:TT}(hc:PT X c tc)(ha:iY X a t)(hb:iY X b u):PS X (.If c a b pos) (U3 tc t u):=by
 intro pins s σ H D I h;refine wpAny_If (dg (hc pins s σ H _ I h) λd s1 ⟨H1,I1,q1⟩=>?_);cases d with
 |true=>exact ha pins s1 σ H1 D I1 q1
 |false=>exact hb pins s1 σ H1 D I1 q1
noncomputable def Kc:TS:=λ_ _ _=>False
end
noncomputable abbrev TG:=V->St->Hp->(St->Hp->Prop)->Prop
noncomputable abbrev Iw:=af->St->Hp->(St->Hp->Prop)->Prop
def PG(X:Cx)(target:Expr)(t:TG):Prop :=
 ∀(pins:aq) (s:Shared) (σ:St) (H:Hp) (v:V) (u:Value) (Q:St->Hp->Prop),Inv X pins σ H s->RelV v u->t v σ H Q ->
  wpAny (model X.prog X.w) X.A (assign target X.env u) (λ_ s'=>∃σ' H',Inv X pins σ' H' s'/\Q σ' H') X.xe s
def OI(X:Cx)(ts:aC)(t:Iw):Prop :=
 ∀(pins:aq) (s:Shared) (σ:St) (H:Hp) (vs:af) (us:av) (Q:St->Hp->Prop),Inv X pins σ H s->Vals vs us->t vs σ H Q ->
  wpAny (model X.prog X.w) X.A (assignInOrder ((assignEach ts X.env).map (·.2)) us) (λ_ s'=>∃σ' H',Inv X pins σ' H' s'/\Q σ' H') X.xe s
variable {es:aC}{pos':Pos}{te:TE}{tg:Expr}
section
variable {X:Cx}{pos:Pos}
noncomputable def pA(i:Nat):TG:=λv σ H Q=>Q (σ.set i (some v)) H
theorem sQ{i:Nat}{x:Str}(hN:X.N.Nodup)(hi:X.N[i]?=some x)(hx:Loc X.env.scope x)(hf:X.fn x=true\/X.env.scope.names.lookup x=some .local:=by first|exact .inl rfl|exact .inr rfl|assumption):PG X (.Name x pos) (pA i):=by
 intro pins s σ H v u Q I r h;exact wpAny_assign_Name (gY I hN hi hx r (λs' I'=>⟨_,H,I',h⟩) hf)
noncomputable def MF:Iw:=λvs σ H Q=>vs=[]/\Q σ H
noncomputable def DZ(t:TG)(u:Iw):Iw:=λvs σ H Q=>∃v r,vs=v::r/\t v σ H λσ' H'=>u r σ' H' Q
theorem yM:OI X [] MF:=by
 intro pins s σ H vs us Q I r h;obtain⟨e,h⟩:=h;subst e;cases r;exact assignInOrder_nil ⟨σ,H,I,h⟩
theorem uX{e:Expr}{t:TG}{u:Iw}(h1:PG X e t)(h2:OI X es u)
  (hs:(assignEach (e::es) X.env).map (·.2)=assign e X.env::(assignEach es X.env).map (·.2):=by rfl):OI X (e::es) (DZ t u):=by
 intro pins s σ H vs us Q I r h;obtain⟨v,vr,e1,h⟩:=h;subst e1;cases r with
 |cons r rr =>
  rw[hs];refine assignInOrder_cons (dg (h1 pins s σ H _ _ _ I r h) λ_ s1 bR=>?_);obtain⟨σ1,H1,I1,q1⟩:=bR;exact h2 pins s1 σ1 H1 _ _ Q I1 rr q1
def Xk(K:au)(n:Nat)(t:Iw):TG:=λv σ H Q=>∃a xs,v=.ref a/\aY K H a xs/\xs.length=n/\t xs σ H Q
theorem Cw{k:Nat}{t:Iw}{n:Nat}(hc:X.calm=true)(h:OI X es t)
  (hn:(assignEach es X.env).length=n:=by rfl) (mQ:(assignEach es X.env).findIdx? (·.1)=none:=by rfl):PG X (.Tuple es k pos) (Xk X.K n t):=by
 intro pins s σ H v u Q I r hw;obtain⟨a,xs,e1,hq,hl,hw⟩:=hw;subst e1;cases r;obtain⟨aK,rv,ht,hz⟩:=I.tuple hq;refine assign_Tuple_tuple (I.ok.hd hc) ht (by simp[hn,<- hl,rv.length]) mQ λh' hx=>?_;have I1:Inv X pins σ H { s with heap:=h' }:=I.kept (t':=s.toks) λb o e=>hx b o (aan (aah e)) e;exact h pins _ σ H xs _ Q I1 (by simpa using rv) hw
noncomputable def Pc(te:TE)(g:TG):TS:=λD σ H=>te σ H λx H1=>g x σ H1 D.nx
theorem K1{e:Expr}{g:TG}(he:PE X e te)(hg:PG X tg g)(hs:swapsWithSole [tg] e pos.line X.env=pure false:=by rfl)(hw:swappedStores [tg] e X.env=pure none:=by rfl)
  (h1:(assignEach [tg] X.env).map (·.2)=[assign tg X.env]:=by rfl):PS X (.Assign [tg] e pos) (Pc te g):=by
 intro pins s σ H D I h;refine wpAny_Assign_stores (dg (he pins s σ H _ I h) λv s1 bR=>?_) hs hw;obtain⟨x,H1,I1,r1,q1⟩:=bR;rw[h1];exact dg (hg pins s1 σ H1 x v _ I1 r1 q1) λ_ s2 q=>q
theorem wZ{i:Nat}{x:Str}{e:Expr}(hN:X.N.Nodup)(hi:X.N[i]?=some x)(hx:Loc X.env.scope x)(he:PE X e te)(hs:swapsWith e (some (.Name x pos')) pos.line X.env=pure false:=by rfl)(hf:X.fn x=true\/X.env.scope.names.lookup x=some .local:=by first|exact .inl rfl|exact .inr rfl|assumption):
  PS X (.Assign [.Name x pos'] e pos) (Pc te (pA i)):=by
 intro pins s σ H D I h;refine wpAny_Assign_Name (dg (he pins s σ H _ I h) λv s1 bR=>?_) hs;obtain⟨y,H1,I1,r1,q1⟩:=bR;exact gY I1 hN hi hx r1 (λs2 I2=>⟨_,H1,I2,q1⟩) hf
noncomputable def UZ(i j:Nat)(ta:TA):TS:=λD σ H=>ta σ H λvs H1=>∃v w,vs=[v,w]/\D.nx ((σ.set i (some v)).set j (some w)) H1
theorem K0{i j:Nat}{x y:Str}{a b:Expr}{ta:TA}{px py pt:Pos}{kt k2 NY}(hc:X.calm=true)(hN:X.N.Nodup)(hi:X.N[i]?=some x)(hj:X.N[j]?=some y)(ka:i≠j)
  (hx:X.env.scope.names.lookup x=some .local) (hy:X.env.scope.names.lookup y=some .local) (ha:PA X [a,b] ta)
  (hw:swappedStores [.Tuple [.Name x px,.Name y py] kt pt] (.Tuple [a,b] k2 NY) X.env=pure (some [x,y]))
  (hs:swapsWithSole [.Tuple [.Name x px,.Name y py] kt pt] (.Tuple [a,b] k2 NY) pos.line X.env=pure false:=by rfl) :
  PS X (.Assign [.Tuple [.Name x px,.Name y py] kt pt] (.Tuple [a,b] k2 NY) pos) (UZ i j ta):=by
 intro pins s σ H D I h;rw[exec_Assign_arm];refine aab (ace ?_);rw[hs];refine aab (aaf ?_);rw[if_neg (by decide)];refine aab (Tuple_ (dg (ha _ pins s σ H _ I h) λus s1 bR=>?_));obtain⟨vs,H1,I1,r1,q1⟩:=bR;obtain⟨v,w,e1,q1⟩:=q1;subst e1;obtain⟨u1,u2,rfl,rv,lI⟩:∃u1 u2,us=[u1,u2]/\RelV v u1/\RelV w u2:=by
  cases r1 with
  |cons p q =>
   cases q with
   |cons p' q' =>
    cases q';exact⟨_,_,rfl,p,p'⟩
 refine aaE ?_ (by show 2<=sizeLine;decide);have I2:Inv X pins σ H1 { s1 with heap:=s1.heap.push { cls:=.type "tuple",data:=.seq [u1,u2].toArray } }:=I1.kept (t':=s1.toks) λb o e=>aag _ e;rw[hw];refine aab (aaf ?_);show wpAny (model X.prog X.w) X.A (do rule "assign.swapped-stores";let items <- unpackItems (.ref s1.heap.objs.size) 2 none;assignInOrder [λv=>bindName X.env y v,λv=>bindName X.env x v] items.reverse;pure Flow.next) _ _ _;refine aab (wpAny_rule (aab (unpackItems_tuple (items:=#[u1,u2]) (I.ok.hd hc) (IsTup.new s1.heap _) λh' y6=>?_)));have I3:=I2.kept (h':=h') (t':=s1.toks) λb o e=>y6 b o (aan (aah e)) e;show wpAny _ _ (assignInOrder [λv=>bindName X.env y v,λv=>bindName X.env x v] [u2,u1] >>= λ_=>pure Flow.next) _ _ _;refine aab (assignInOrder_cons (wpAny_bindName (gY I3 hN hj (.inl hy) lI (λs2 I4=>?_) (.inr hy))));refine assignInOrder_cons (wpAny_bindName (gY I4 hN hi (.inl hx) rv (λs3 I5=>assignInOrder_nil (aaf ?_)) (.inr hx)));rw[List.set_comm _ _ (Ne.symm ka)]at I5;exact⟨_,H1,I5,q1⟩
end
section
variable {X:Cx}{pos:Pos}
noncomputable def Ka(c:TT)(tb:TS):TS:=λD σ H=>∃W:Nat->St->Hp->Prop,(∃m,W m σ H)/\∀m σ H,W m σ H ->
 c σ H λb H1=>if b=true then ∃N:St->Hp->Prop,(∀σ' H',N σ' H'->∃m',m'<m/\W m' σ' H')/\tb { D with nx:=N,ct:=N,bk:=D.nx } σ H1 else D.nx σ H1
theorem Cn{c:Expr}{body:ba}{tc:TT}{tb:TS}(hp:PassesOwn (model X.prog X.w) X.A X.env X.xe)(hc:PT X c tc)(hb:iY X body tb):PS X (.While c body [] pos) (Ka tc tb):=by
 intro pins s σ H D I h;obtain⟨W,⟨m0,w0⟩,turn⟩:=h;refine wpAny_While (codeAny_whileLoop (λn s'=>∃σ' H',Inv X pins σ' H' s'/\W n σ' H') ?_ m0 ⟨σ,H,I,w0⟩);rintro n s1 ⟨σ1,H1,I1,w1⟩;refine aa2 hp (dg (hc pins s1 σ1 H1 _ I1 (turn n σ1 H1 w1)) λb s2 ⟨H2,I2,q2⟩=>?_);cases b with
 |true =>
  obtain⟨N,hN,q2⟩:=q2;rw[if_pos rfl];refine aa2 hp (dg (hb pins s2 σ1 H2 _ I2 q2) λf s3 q3=>?_);cases f with
  |next =>
   obtain⟨σ3,H3,I3,n3⟩:=q3;obtain⟨m',hm,w3⟩:=hN σ3 H3 n3;exact⟨m',hm,σ3,H3,I3,w3⟩
  |cont =>
   obtain⟨σ3,H3,I3,n3⟩:=q3;obtain⟨m',hm,w3⟩:=hN σ3 H3 n3;exact⟨m',hm,σ3,H3,I3,w3⟩
  |brk=>exact q3
  |ret v=>exact q3
 |false =>
  rw[if_neg Bool.false_ne_true];exact abp ⟨σ1,H2,I2,q2⟩
end
structure It where
 go:Nat->Hp->Prop
 wj:Nat->Hp->V->Hp->Prop
 stop:Nat->Hp->Prop
noncomputable def qf(X:Cx)(pins:aq)(H:Hp)(b:Addr):Prop :=
 H b=none/\b≠X.env.locals/\b∉X.fs/\(b∈X.ex\/X.s₀.heap.objs.size<=b)/\(∀x c,X.env.cells.lookup x=some c->c≠b)/\∀p∈X.pn++pins,p.1≠b
theorem Inv.AV{pins:aq}{H':Hp}{s:Shared}{b:Addr}(I:Inv X pins σ H s)(hb:s.heap.objs.size<=b)(hn:H' b=none):qf X pins H' b:=by
 refine⟨hn,aau (aal I.lt hb),I.Lp hb,.inr (aaD I.sz hb),λx c e z=>?_,λp hp z=>?_⟩
 ·obtain⟨v,q⟩:=I.cell x c e;exact absurd (aal q.lt (by rw[z];exact hb)) (aax _)
 ·exact absurd (aal (aah (I.pin p hp).1) (by rw[z];exact hb)) (aax _)
structure Turn(P:aE)(w:World)(K:au)(tg:Expr)(J:It)(fp:aR)(it:Addr)(tn:Nat->Heap->Prop):Prop where
 mem:it∈fp
 obj:∀i h,tn i h->∀b∈fp,∃o,h.get? b=some o/\∀v,o.data≠.cell v
 keep:∀i h h',tn i h->(∀b∈fp,∀o,h.get? b=some o->h'.get? b=some o)->tn i h'
 item:∀(X:Cx),X.prog=P->X.w=w->X.K=K->X.calm=true->∀(i:Nat) (pins:aq) (s:Shared) (σ:St) (H:Hp) (E:aB),Inv X pins σ H s->(∀b∈fp,qf X pins H b)->tn i s.heap->J.go i H ->
  wpAny (model P w) X.A (pyNext (.ref it)) (λr s1=>∃u,r=some u /\
   wpAny (model P w) X.A (letOwnedTupleGo tg (.ref it) u) (λ_ s2=>∃x H',Inv X pins σ H' s2/\RelV x u/\J.wj i H x H'/\tn (i+1) s2.heap/\∀b∈fp,H' b=none) E s1) E s
 done:∀(X:Cx),X.prog=P->X.w=w->X.K=K->X.calm=true->∀(i:Nat) (pins:aq) (s:Shared) (σ:St) (H:Hp) (E:aB),Inv X pins σ H s->(∀b∈fp,qf X pins H b)->tn i s.heap->J.stop i H ->
  wpAny (model P w) X.A (pyNext (.ref it)) (λr s1=>r=none/\Inv X pins σ H s1) E s
 self:∀(A:aJ) (i:Nat) (s:Shared) (Q:aB) (E:aB),tn i s.heap->Q (.ref it) s->wpAny (model P w) A (pyIter (.ref it)) Q E s
noncomputable abbrev TI:=St->Hp->(It->Hp->Prop)->Prop
def Bt(X:Cx)(pins:aq)(σ:St)(tg:Expr)(R:It->Hp->Prop)(V_:Value)(s2:Shared):Prop :=
 ∃(it:Addr) (fp:aR) (tn:Nat->Heap->Prop) (J:It) (H':Hp),V_=.ref it/\Inv X pins σ H' s2/\Turn X.prog X.w X.K tg J fp it tn/\tn 0 s2.heap/\(∀b∈fp,qf X pins H' b)/\R J H'
def PI(X:Cx)(tg iter:Expr)(wi:TI):Prop :=
 ∀(pins:aq) (s:Shared) (σ:St) (H:Hp) (R:It->Hp->Prop),Inv X pins σ H s->wi σ H R ->
  wpAny (model X.prog X.w) X.A (eval iter X.env) (λv s1=>wpAny (model X.prog X.w) X.A (pyIter v) (Bt X pins σ tg R) X.xe s1) X.xe s
theorem ze{M:Model}{A:aJ}{s:Shared}{it:Addr}{u:Value}{o:Obj}{n:String}{vs:aP}{Q:Unit->Shared->Prop}(ho:s.heap.get? it=some o)(hc:o.cls=.type n)(hd:o.data=.fields vs)
    (hn:["enumerate","zip","dict_itemiterator","dict_reverseitemiterator","odict_iterator","itertools.zip_longest","itertools.pairwise"].contains n=false) (hQ:Q () s):wpAny M A (letOwnedTupleGo tg (.ref it) u) Q E s:=by
  unfold letOwnedTupleGo;cases tg<;>first
    |exact aaf hQ
    | (cases u<;>first
        |exact aaf hQ
        | (refine aab (wpAny_load ho ?_)
           rw[hc,hd];show wpAny M A (if (["enumerate","zip","dict_itemiterator","dict_reverseitemiterator","odict_iterator","itertools.zip_longest","itertools.pairwise"].contains n&&vs[0]?==some (rawInt _))=true then _ else _) Q E s;rw[if_neg (by intro h;rw[hn,Bool.false_and]at h;cases h)];exact aaf hQ))
def OK(K:au)(a:Addr):It :=
 ⟨λi H=>∃xs x,dH K H a xs/\xs[i]?=some x,λi H x H'=>H'=H/\∀xs,dH K H a xs->xs[i]?=some x,λi H=>∃xs,dH K H a xs/\xs.length<=i⟩
def OJ(K:au)(a:Addr):It :=
 ⟨λi H=>∃xs x,aY K H a xs/\xs[i]?=some x,λi H x H'=>H'=H/\∀xs,aY K H a xs->xs[i]?=some x,λi H=>∃xs,aY K H a xs/\xs.length<=i⟩
noncomputable def Bd(lo:Int)(n:Nat):It:=⟨λi _=>i<n,λi H x H'=>H'=H/\x=.int (lo+i),λi _=>n<=i⟩
variable {P:aE}{w:World}
theorem Ad(a it:Addr):Turn P w K tg (OK K a) [it] it (λi h=>h.IsListIter it a i) where
 mem:=by simp
 obj:=λi h st b hb=>by
  have e:b=it:=by simpa using hb
  subst e;obtain⟨o,e,c,d⟩:=st;exact⟨o,e,λv z=>by rw[d]at z;cases z⟩
 keep:=λi h h' st k=>st.at λo e=>k it (by simp) o e
 item:=by
  intro X hP hw hK hc i pins s σ H E I hf st hg;subst hP hw hK;obtain⟨xs,x,hq,hx⟩:=hg;obtain⟨aK,rv,p,hz⟩:=I.list hq;obtain⟨u,hu,ru⟩:=rv.get hx;obtain⟨f0,f1,f2,f3,f4,f5⟩:=hf it (by simp);refine wpAny_pyNext_list_item st p.isList (x:=u) (by simpa using hu) λh' m6 sb=>?_;have I1:Inv X pins σ H { s with heap:=h' }:=I.turned (t':=s.toks) (λb o hb e=>(sb.2 b hb).trans e) f0 f1 f3 f4 f5;obtain⟨o,e,c,d⟩:=id m6;exact⟨u,rfl,ze (s:={ s with heap:=h' }) e c d (by decide) ⟨x,H,I1,ru,⟨rfl,λys hy=>by rw[I.k7 hy hq];exact hx⟩,m6,λb hb=>(hf b hb).1⟩⟩
 done:=by
  intro X hP hw hK hc i pins s σ H E I hf st hg;subst hP hw hK;obtain⟨xs,hq,hx⟩:=hg;obtain⟨aK,rv,p,hz⟩:=I.list hq;obtain⟨f0,f1,f2,f3,f4,f5⟩:=hf it (by simp);have hl:=rv.length;exact wpAny_pyNext_list_end (I.ok.hd hc) st p.isList (by simp;left) λh' eb=>⟨rfl,I.turned (t':=s.toks) (λb o hb e=>eb b o hb e) f0 f1 f3 f4 f5⟩
 self:=λ_ _ _ _ _ st h=>wpAny_pyIter_listiter st h
theorem wG(a it:Addr):Turn P w K tg (OJ K a) [it] it (λi h=>h.IsTupleIter it a i) where
 mem:=by simp
 obj:=λi h st b hb=>by
  have e:b=it:=by simpa using hb
  subst e;obtain⟨o,e,c,d⟩:=st;exact⟨o,e,λv z=>by rw[d]at z;cases z⟩
 keep:=λi h h' st k=>st.at λo e=>k it (by simp) o e
 item:=by
  intro X hP hw hK hc i pins s σ H E I hf st hg;subst hP hw hK;obtain⟨xs,x,hq,hx⟩:=hg;obtain⟨aK,rv,p,hz⟩:=I.tuple hq;obtain⟨u,hu,ru⟩:=rv.get hx;obtain⟨f0,f1,f2,f3,f4,f5⟩:=hf it (by simp);refine wpAny_pyNext_tuple_item st (show s.heap.IsTuple a aK.toArray from p) (x:=u) (by simpa using hu) λh' m6 sb=>?_;have I1:Inv X pins σ H { s with heap:=h' }:=I.turned (t':=s.toks) (λb o hb e=>(sb.2 b hb).trans e) f0 f1 f3 f4 f5;obtain⟨o,e,c,d⟩:=id m6;exact⟨u,rfl,ze (s:={ s with heap:=h' }) e c d (by decide) ⟨x,H,I1,ru,⟨rfl,λys hy=>by rw[I.jG hy hq];exact hx⟩,m6,λb hb=>(hf b hb).1⟩⟩
 done:=by
  intro X hP hw hK hc i pins s σ H E I hf st hg;subst hP hw hK;obtain⟨xs,hq,hx⟩:=hg;obtain⟨aK,rv,p,hz⟩:=I.tuple hq;obtain⟨f0,f1,f2,f3,f4,f5⟩:=hf it (by simp);have hl:=rv.length;exact wpAny_pyNext_tuple_end (I.ok.hd hc) st (show s.heap.IsTuple a aK.toArray from p) (by simp;left) λh' eb=>⟨rfl,I.turned (t':=s.toks) (λb o hb e=>eb b o hb e) f0 f1 f3 f4 f5⟩
 self:=λ_ _ _ _ _ st h=>wpAny_pyIter_tupleiter st h
theorem wH(it:Addr)(lo:Int)(n:Nat):Turn P w K tg (Bd lo n) [it] it (λi h=>IsRangeIter h it (lo+(i:Nat)*1) ((n:Int) - (i:Nat)) 1) where
 mem:=by simp
 obj:=λi h st b hb=>by
  have e:b=it:=by simpa using hb
  subst e;exact⟨_,st,λv z=>by
   have z':Data.fields _=Data.cell v:=z;cases z'⟩
 keep:=λi h h' st k=>k it (by simp) _ st
 item:=by
  intro X hP hw hK hc i pins s σ H E I hf st hg;subst hP hw hK;obtain⟨f0,f1,f2,f3,f4,f5⟩:=hf it (by simp);have W:=Walks.range (prog:=X.prog) (w:=X.w) (I.ok.hd hc) it lo 1 n;refine W.item i s _ _ hg st λv h' tk hv m6 kk=>?_;obtain⟨t,rfl⟩:=hv;have I1:Inv X pins σ H { s with heap:=h',toks:=tk }:=I.turned (λb o hb e=>kk b o (by simpa using hb) e) f0 f1 f3 f4 f5;refine⟨_,rfl,ze (s:={ s with heap:=h',toks:=tk }) (n:="range_iterator") m6 rfl rfl (by decide) ⟨.int (lo+i),H,I1,⟨t,?_⟩,⟨rfl,rfl⟩,m6,λb hb=>(hf b hb).1⟩⟩;rw[Int.mul_one]
 done:=by
  intro X hP hw hK hc i pins s σ H E I hf st hg;subst hP hw hK;obtain⟨f0,f1,f2,f3,f4,f5⟩:=hf it (by simp);exact wpAny_pyNext_range_end (I.ok.hd hc) st (by have:n<=i:=hg;left) λh' eb=>⟨rfl,I.turned (t':=s.toks) (λb o hb e=>eb b o hb e) f0 f1 f3 f4 f5⟩
 self:=λ_ _ _ _ _ st h=>wpAny_pyIter_rangeiter st h
end L2
namespace L2
open PySem PySem.Spec PyProof.Rows
variable {H:Hp}{fp:aR}{lo:Int}{pos:Pos}{ta:TA}{σ:L2.St}
section
variable {X:Cx}{tg:Expr}
def QJ(K:au)(tl:TE):TI:=λσ H R=>tl σ H λx H1=>∃a,x=.ref a/\(∃xs,dH K H1 a xs)/\R (OK K a) H1
def Wj(K:au)(tl:TE):TI:=λσ H R=>tl σ H λx H1=>∃a,x=.ref a/\(∃xs,aY K H1 a xs)/\R (OJ K a) H1
theorem sP{l:Expr}{tl:TE}(hl:PE X l tl):PI X tg l (QJ X.K tl):=by
 intro pins s σ H R I h;refine dg (hl pins s σ H _ I h) λv s1 bR=>?_;obtain⟨x,H1,I1,r1,q1⟩:=bR;obtain⟨a,e,⟨xs,hq⟩,q⟩:=q1;subst e;cases r1;obtain⟨aK,rv,p,hz⟩:=I1.list hq;refine wpAny_pyIter_list p.isList ?_;refine⟨s1.heap.objs.size,[s1.heap.objs.size],_,_,H1,rfl,I1.kept (t':=s1.toks) λb o e=>aag _ e,Ad a _,⟨_,aao _ rfl,rfl,rfl⟩,λb hb=>?_,q⟩;have e:b=s1.heap.objs.size:=by simpa using hb
 subst e;exact I1.AV (aak _) (I1.cA.fresh (aak _))
theorem w_{l:Expr}{tl:TE}(hl:PE X l tl):PI X tg l (Wj X.K tl):=by
 intro pins s σ H R I h;refine dg (hl pins s σ H _ I h) λv s1 bR=>?_;obtain⟨x,H1,I1,r1,q1⟩:=bR;obtain⟨a,e,⟨xs,hq⟩,q⟩:=q1;subst e;cases r1;obtain⟨aK,rv,p,hz⟩:=I1.tuple hq;refine wpAny_pyIter_tuple (show s1.heap.IsTuple a aK.toArray from p) ?_;refine⟨s1.heap.objs.size,[s1.heap.objs.size],_,_,H1,rfl,I1.kept (t':=s1.toks) λb o e=>aag _ e,wG a _,⟨_,aao _ rfl,rfl,rfl⟩,λb hb=>?_,q⟩;have e:b=s1.heap.objs.size:=by simpa using hb
 subst e;exact I1.AV (aak _) (I1.cA.fresh (aak _))
theorem uV{pins:aq}{s:Shared}{R:It->Hp->Prop}{E:aB}{hi:Int}{t u v:Tok}{tk:Nat}(I:Inv X pins σ H s)(h1:-(2 ^ 62)<=lo)(h2:lo<2 ^ 62)(h3:-(2 ^ 62)<=hi)(h4:hi<2 ^ 62)
  (q:R (Bd lo (hi - lo).toNat) H):wpAny (model X.prog X.w) X.A (pyIter (.ref s.heap.objs.size)) (Bt X pins σ tg R) E { s with heap:=s.heap.push { cls:=.type "range",data:=.fields #[.int lo t,.int hi u,.int 1 v] },toks:=tk }:=by
 refine wpAny_pyIter_range (IsRange.new ..) (small_one h1 h2 h3 h4) ?_;have I1:Inv X pins σ H { s with heap:=s.heap.push { cls:=.type "range",data:=.fields #[.int lo t,.int hi u,.int 1 v] },toks:=tk }:=I.kept λb o e=>aag _ e;refine⟨(s.heap.push { cls:=.type "range",data:=.fields #[.int lo t,.int hi u,.int 1 v] }).objs.size,[(s.heap.push { cls:=.type "range",data:=.fields #[.int lo t,.int hi u,.int 1 v] }).objs.size],_,_,H,rfl,
  I1.kept (t':=tk) λb o e=>aag _ e,wH _ lo (hi - lo).toNat,?_,λb hb=>?_,q⟩
 ·have e1:lo+((0:Nat):Int)*1=lo:=by simp
  have e2:(((hi - lo).toNat:Nat):Int) - ((0:Nat):Int)=Builtin.Range.rangeSize lo hi 1:=by rw[rangeSize_one];split<;>left
  show IsRangeIter _ _ (lo+((0:Nat):Int)*1) ((((hi - lo).toNat:Nat):Int) - ((0:Nat):Int)) 1;rw[e1,e2];exact aao _ rfl
 ·have e:b=(s.heap.push { cls:=.type "range",data:=.fields #[.int lo t,.int hi u,.int 1 v] }).objs.size:=by simpa using hb
  subst e;exact I1.AV (aak _) (I1.cA.fresh (aak _))
def QI(ta:TA):TI:=λσ H R=>ta σ H λvs H1=>∃j:Int,vs=[.int j] /\ -(2 ^ 62)<=j/\j<2 ^ 62/\R (Bd 0 j.toNat) H1
theorem rm{a:Expr}{p:Pos}(hg:Gl X "range")(hm:X.mg "range" = none)(ha:PA X [a] ta)(hs:starEach [a] X.env=[(false,eval a X.env)]:=by rfl):PI X tg (.Call (.Name "range" p) [a] [] pos) (QI ta):=by
 intro pins s σ H R I h;refine Call_ (eK I hg hm boot_range (aaw (dg (ha pos pins s σ H _ I h) λus s1 bR=>?_) hs rfl));obtain⟨vs,H1,I1,r1,q1⟩:=bR;obtain⟨j,e,q1,q2,q⟩:=q1;subst e;cases r1 with
 |cons r rr =>
  cases rr;obtain⟨t,rfl⟩:=r;exact call_range_1 (uV I1 (by left) (by left) q1 q2 (by simpa using q))
noncomputable def U4(wi:TI)(g:TG)(tb:TS):TS:=λD σ H=>wi σ H λJ H1=>∃W:Nat->Nat->St->Hp->Prop,(∃m,W 0 m σ H1)/\∀i m σ H,W i m σ H ->
 (J.stop i H/\D.nx σ H)\/(J.go i H/\∃N:St->Hp->Prop,(∀σ' H',N σ' H'->∃m',m'<m/\W (i+1) m' σ' H')/\∀x H',J.wj i H x H'->g x σ H' λσ2 H2=>tb { D with nx:=N,ct:=N,bk:=D.nx } σ2 H2)
noncomputable def jc(fp:aR)(h:Heap):aq:=fp.filterMap λb=>(h.get? b).map λo=>(b,o)
theorem ir{h:Heap}{b:Addr}{o:Obj}(hb:b∈fp)(e:h.get? b=some o):(b,o)∈jc fp h:=List.mem_filterMap.mpr ⟨b,hb,by rw[e];rfl⟩
theorem rA{h:Heap}{p:Addr×Obj}(hp:p∈jc fp h):p.1∈fp/\h.get? p.1=some p.2:=by
 obtain⟨b,hb,e⟩:=List.mem_filterMap.mp hp;cases q:h.get? b with
 |none=>rw[q]at e;cases e
 |some o =>
  rw[q]at e;have e':(b,o)=p:=aar e;subst e';exact⟨hb,q⟩
theorem Inv.pinned{pins:aq}{s:Shared}(I:Inv X pins σ H s)(hf:∀b∈fp,qf X pins H b)(ho:∀b∈fp,∃o,s.heap.get? b=some o/\∀v,o.data≠.cell v):Inv X (pins++jc fp s.heap) σ H s :=
 I.jN λp hp=>(List.mem_append.mp hp).elim (λz=>I.pin p (aap _ z)) λz=>by
  obtain⟨hb,e⟩:=rA z;obtain⟨f0,f1,f2,_⟩:=hf p.1 hb;obtain⟨o,e',d⟩:=ho p.1 hb;rw[e]at e';cases e';exact⟨e,f0,f1,f2,d⟩
theorem Inv.kQ{pins pl:aq}{s:Shared}(I:Inv X (pins++pl) σ H s):Inv X pins σ H s:=I.jN λp hp=>I.pin p (aap _ (aaC _ hp))
theorem lU{iter:Expr}{body:ba}{wi:TI}{g:TG}{tb:TS}(hp:PassesOwn (model X.prog X.w) X.A X.env X.xe)(hc:X.calm=true)(hi:PI X tg iter wi)(hg:PG X tg g)(hb:iY X body tb)
  (hs:∀x,foldedSetIterable iter X.env x=pure x:=by intro _;rfl):PS X (.For tg iter body [] pos) (U4 wi g tb):=by
 intro pins s σ H D I h;refine wpAny_For (dg (hi pins s σ H _ I h) λv s1 h1=>dg h1 λV_ s2 h2=>?_) hs;obtain⟨it,fp,tn,J,H2,e,I2,T,Ph,f2,W,⟨m0,w0⟩,turn⟩:=h2;subst e;have Ki:∀{H':Hp},(∀b∈fp,H' b=none)->∀b∈fp,qf X pins H' b:=λhn b hb=>⟨hn b hb,(f2 b hb).2⟩
 refine codeAny_forLoop_any (λn s'=>∃i σ' H',Inv X pins σ' H' s'/\tn i s'.heap/\(∀b∈fp,H' b=none)/\W i n σ' H') ?_ m0 ⟨0,σ,H2,I2,Ph,λb hb=>(f2 b hb).1,w0⟩;rintro n s3 ⟨i,σ3,H3,I3,st3,fr3,w3⟩;rcases turn i n σ3 H3 w3 with ⟨stop,qn⟩|⟨go,N,hN,step⟩
 ·refine aa2 hp (dg (T.done X rfl rfl rfl hc i pins s3 σ3 H3 X.xe I3 (Ki fr3) st3 stop) λr s4 bR=>?_);obtain⟨hr,I4⟩:=bR;subst hr;exact abp ⟨σ3,H3,I4,qn⟩
 ·refine aa2 hp (dg (T.item X rfl rfl rfl hc i pins s3 σ3 H3 X.xe I3 (Ki fr3) st3 go) λr s4 bR=>?_);obtain⟨u,hr,h4⟩:=bR;subst hr;refine aa2 hp (dg h4 λ_ s5 bR=>?_);obtain⟨x,H5,I5,r5,y5,Kk,Xr⟩:=bR;have Yf:=I5.pinned (Ki Xr) (T.obj _ _ Kk);refine aa2 hp (dg (hg _ s5 σ3 H5 x u _ Yf r5 (step x H5 y5)) λ_ s6 bR=>?_);obtain⟨σ6,H6,I6,q6⟩:=bR;refine aa2 hp (dg (hb _ s6 σ6 H6 _ I6 q6) λf s7 q7=>?_);have again:∀{σ7:St} {H7:Hp},Inv X (pins++jc fp s5.heap) σ7 H7 s7->N σ7 H7->∃m,m<n/\∃i σ' H',Inv X pins σ' H' s7/\tn i s7.heap/\(∀b∈fp,H' b=none)/\W i m σ' H':=λ{σ7 H7} I7 n7=>by
   obtain⟨m',hm,w7⟩:=hN σ7 H7 n7;refine⟨m',hm,i+1,σ7,H7,I7.kQ,T.keep _ _ _ Kk λb hb o e=>(I7.pin (b,o) (aap _ (aap _ (ir hb e)))).1,λb hb=>?_,w7⟩;obtain⟨o,e,d⟩:=T.obj _ _ Kk b hb;exact(I7.pin (b,o) (aap _ (aap _ (ir hb e)))).2.1
  cases f with
  |next=>obtain⟨σ7,H7,I7,n7⟩:=q7;exact again I7 n7
  |cont=>obtain⟨σ7,H7,I7,n7⟩:=q7;exact again I7 n7
  |brk=>obtain⟨σ7,H7,I7,q7⟩:=q7;exact⟨σ7,H7,I7.kQ,q7⟩
  |ret v=>obtain⟨x7,σ7,H7,I7,r7,q7⟩:=q7;exact⟨x7,σ7,H7,I7.kQ,r7,q7⟩
end
variable {K:au}{xs:af}
theorem vH{a:Addr}{g:TG}{tb:TS}{D:Ends}(Pv:Nat->St->Hp->Prop)(h0:Pv 0 σ H)(hl:∀i σ H,i<=xs.length->Pv i σ H->dH K H a xs)
  (hs:∀i x σ H,xs[i]?=some x->Pv i σ H->g x σ H λσ2 H2=>tb { D with nx:=Pv (i+1),ct:=Pv (i+1),bk:=D.nx } σ2 H2) (hd:∀σ H,Pv xs.length σ H->D.nx σ H) :
  ∃W:Nat->Nat->St->Hp->Prop,(∃m,W 0 m σ H)/\∀i m σ H,W i m σ H ->
   ((OK K a).stop i H/\D.nx σ H)\/((OK K a).go i H/\∃N:St->Hp->Prop,(∀σ' H',N σ' H'->∃m',m'<m/\W (i+1) m' σ' H')/\∀x H',(OK K a).wj i H x H'->g x σ H' λσ2 H2=>tb { D with nx:=N,ct:=N,bk:=D.nx } σ2 H2):=by
 refine⟨λi m σ H=>m=xs.length - i/\i<=xs.length/\Pv i σ H,⟨xs.length,by simp,aaS _,h0⟩,?_⟩;rintro i m σ H ⟨rfl,hi,p⟩;have q:=hl i σ H hi p;by_cases iR:i<xs.length
 ·refine .inr ⟨⟨xs,xs[i],q,by simp[iR]⟩,Pv (i+1),λσ' H' p'=>⟨xs.length - (i+1),by left,rfl,iR,p'⟩,λx H' y=>?_⟩;obtain⟨e,y⟩:=y;subst e;exact hs i x σ _ (y xs q) p
 ·have e:i=xs.length:=by left
  subst e;exact .inl ⟨⟨xs,q,aak _⟩,hd σ H p⟩
theorem zm{a:Addr}{g:TG}{tb:TS}{D:Ends}(Pv:Nat->St->Hp->Prop)(h0:Pv 0 σ H)(hl:∀i σ H,i<=xs.length->Pv i σ H->aY K H a xs)
  (hs:∀i x σ H,xs[i]?=some x->Pv i σ H->g x σ H λσ2 H2=>tb { D with nx:=Pv (i+1),ct:=Pv (i+1),bk:=D.nx } σ2 H2) (hd:∀σ H,Pv xs.length σ H->D.nx σ H) :
  ∃W:Nat->Nat->St->Hp->Prop,(∃m,W 0 m σ H)/\∀i m σ H,W i m σ H ->
   ((OJ K a).stop i H/\D.nx σ H)\/((OJ K a).go i H/\∃N:St->Hp->Prop,(∀σ' H',N σ' H'->∃m',m'<m/\W (i+1) m' σ' H')/\∀x H',(OJ K a).wj i H x H'->g x σ H' λσ2 H2=>tb { D with nx:=N,ct:=N,bk:=D.nx } σ2 H2):=by
 refine⟨λi m σ H=>m=xs.length - i/\i<=xs.length/\Pv i σ H,⟨xs.length,by simp,aaS _,h0⟩,?_⟩;rintro i m σ H ⟨rfl,hi,p⟩;have q:=hl i σ H hi p;by_cases iR:i<xs.length
 ·refine .inr ⟨⟨xs,xs[i],q,by simp[iR]⟩,Pv (i+1),λσ' H' p'=>⟨xs.length - (i+1),by left,rfl,iR,p'⟩,λx H' y=>?_⟩;obtain⟨e,y⟩:=y;subst e;exact hs i x σ _ (y xs q) p
 ·have e:i=xs.length:=by left
  subst e;exact .inl ⟨⟨xs,q,aak _⟩,hd σ H p⟩
theorem AW{n:Nat}{g:TG}{tb:TS}{D:Ends}(Pv:Nat->St->Hp->Prop)(h0:Pv 0 σ H)
  (hs:∀i σ H,i<n->Pv i σ H->g (.int (lo+i)) σ H λσ2 H2=>tb { D with nx:=Pv (i+1),ct:=Pv (i+1),bk:=D.nx } σ2 H2) (hd:∀σ H,Pv n σ H->D.nx σ H) :
  ∃W:Nat->Nat->St->Hp->Prop,(∃m,W 0 m σ H)/\∀i m σ H,W i m σ H ->
   ((Bd lo n).stop i H/\D.nx σ H)\/((Bd lo n).go i H/\∃N:St->Hp->Prop,(∀σ' H',N σ' H'->∃m',m'<m/\W (i+1) m' σ' H')/\∀x H',(Bd lo n).wj i H x H'->g x σ H' λσ2 H2=>tb { D with nx:=N,ct:=N,bk:=D.nx } σ2 H2):=by
 refine⟨λi m σ H=>m=n - i/\i<=n/\Pv i σ H,⟨n,by simp,aaS _,h0⟩,?_⟩;rintro i m σ H ⟨rfl,hi,p⟩;by_cases iR:i<n
 ·refine .inr ⟨iR,Pv (i+1),λσ' H' p'=>⟨n - (i+1),by left,rfl,iR,p'⟩,λx H' y=>?_⟩;obtain⟨e,y⟩:=y;subst e y;exact hs i σ _ iR p
 ·have e:i=n:=by left
  subst e;exact .inl ⟨aak _,hd σ H p⟩
end L2
namespace L2
open PySem PySem.Spec PyProof.Rows
noncomputable abbrev R2:=V->V->Hp->VK->Prop
def kC(X:Cx)(f:Value->Value->Sem Value)(r:R2):Prop :=
 ∀(pins:aq) (s:Shared) (σ:St) (H:Hp) (x y:V) (v u:Value) (Q:VK),Inv X pins σ H s->RelV x v->RelV y u->r x y H Q ->
  wpAny (model X.prog X.w) X.A (f v u) (EP X pins σ Q) X.xe s
def Yb(X:Cx)(f:Value->Sem Value)(r:V->Hp->VK->Prop):Prop :=
 ∀(pins:aq) (s:Shared) (σ:St) (H:Hp) (x:V) (v:Value) (Q:VK),Inv X pins σ H s->RelV x v->r x H Q ->
  wpAny (model X.prog X.w) X.A (f v) (EP X pins σ Q) X.xe s
def fD(X:Cx)(f:Value)(r:af->Hp->VK->Prop):Prop :=
 ∀(pins:aq) (s:Shared) (σ:St) (H:Hp) (xs:af) (us:av) (Q:VK),Inv X pins σ H s->Vals xs us->r xs H Q ->
  wpAny (model X.prog X.w) X.A (call f us) (EP X pins σ Q) X.xe s
noncomputable def F0(r:R2)(ta tb:TE):TE:=λσ H Q=>ta σ H λx H1=>tb σ H1 λy H2=>r x y H2 Q
noncomputable def tUn(r:V->Hp->VK->Prop)(ta:TE):TE:=λσ H Q=>ta σ H λx H1=>r x H1 Q
noncomputable def rI(C:Int->Int->Prop)(g:Int->Int->V):R2:=λx y H Q=>∃i j,x=.int i/\y=.int j/\C i j/\Q (g i j) H
noncomputable def Cj(g:Int->Int->V):R2:=λx y H Q=>∃i j,x=.int i/\y=.int j/\Q (g i j) H
noncomputable def rU(g:Int->V):V->Hp->VK->Prop:=λx H Q=>∃i,x=.int i/\Q (g i) H
variable {H:Hp}{σ:L2.St}
section
variable {X:Cx}{a b c:Expr}{ta tb tc:TE}{pos:Pos}
theorem NJ(ha:PE X a ta)(hb:PE X b tb){pins:aq}{s:Shared}{R:V->V->Hp->Prop}(I:Inv X pins σ H s)
  (h:ta σ H λx H1=>tb σ H1 λy H2=>R x y H2) {Q:aB} {f:Value->Value->Sem Value}
  (hf:∀v u s2 x y H2,Inv X pins σ H2 s2->RelV x v->RelV y u->R x y H2->wpAny (model X.prog X.w) X.A (f v u) Q X.xe s2) :
  wpAny (model X.prog X.w) X.A (eval a X.env) (λv s₁=>wpAny (model X.prog X.w) X.A (eval b X.env) (λu s₂=>wpAny (model X.prog X.w) X.A (f v u) Q X.xe s₂) X.xe s₁) X.xe s:=by
 refine dg (ha pins s σ H _ I h) λv s1 bR=>?_;obtain⟨x,H1,I1,r1,q1⟩:=bR;refine dg (hb pins s1 σ H1 _ I1 q1) λu s2 bR=>?_;obtain⟨y,H2,I2,r2,q2⟩:=bR;exact hf v u s2 x y H2 I2 r1 r2 q2
theorem Jf{op:Operator}{r:R2}(ho:kC X (binaryOp op) r)(ha:PE X a ta)(hb:PE X b tb):PE X (.BinOp a op b pos) (F0 r ta tb):=by
 intro pins s σ H Q I h;exact wpAny_BinOp (NJ ha hb I h λv u s2 x y H2 I2 rx ry q=>ho pins s2 σ H2 x y v u Q I2 rx ry q)
theorem PR{op:UnaryOp}{r:V->Hp->VK->Prop}(ho:Yb X (unaryOp op) r)(ha:PE X a ta):PE X (.UnaryOp op a pos) (tUn r ta):=by
 intro pins s σ H Q I h;exact UnaryOp_ (dg (ha pins s σ H _ I h) λv s1 ⟨x,H1,I1,r1,q1⟩=>ho pins s1 σ H1 x v Q I1 r1 q1)
theorem Jj{f:Value->Value->Sem Value}{C:Int->Int->Prop}{g:Int->Int->Int}
  (rule:∀(i j:Int) (t u:Tok) (s:Shared) (Q:aB) (E:aB),C i j->Q (.int (g i j) s.toks) { s with toks:=s.toks+1 }->wpAny (model X.prog X.w) X.A (f (.int i t) (.int j u)) Q E s) :
  kC X f (rI C λi j=>.int (g i j)):=by
 intro pins s σ H x y v u Q I rx ry h;obtain⟨i,j,rfl,rfl,hc,q⟩:=h;obtain⟨t,rfl⟩:=rx;obtain⟨t',rfl⟩:=ry;exact rule i j t t' s _ _ hc ⟨.int (g i j),H,I.tok _,⟨_,rfl⟩,q⟩
theorem VQ{f:Value->Value->Sem Value}{g:Int->Int->Int}
  (rule:∀(i j:Int) (t u:Tok) (s:Shared) (Q:aB) (E:aB),Q (.int (g i j) s.toks) { s with toks:=s.toks+1 }->wpAny (model X.prog X.w) X.A (f (.int i t) (.int j u)) Q E s) :
  kC X f (Cj λi j=>.int (g i j)):=by
 intro pins s σ H x y v u Q I rx ry h;obtain⟨i,j,rfl,rfl,q⟩:=h;obtain⟨t,rfl⟩:=rx;obtain⟨t',rfl⟩:=ry;exact rule i j t t' s _ _ ⟨.int (g i j),H,I.tok _,⟨_,rfl⟩,q⟩
theorem GU{f:Value->Value->Sem Value}{g:Int->Int->Bool}
  (rule:∀(i j:Int) (t u:Tok) (s:Shared) (Q:aB) (E:aB),Q (.bool (g i j)) s->wpAny (model X.prog X.w) X.A (f (.int i t) (.int j u)) Q E s) :
  kC X f (Cj λi j=>.bl (g i j)):=by
 intro pins s σ H x y v u Q I rx ry h;obtain⟨i,j,rfl,rfl,q⟩:=h;obtain⟨t,rfl⟩:=rx;obtain⟨t',rfl⟩:=ry;exact rule i j t t' s _ _ ⟨.bl (g i j),H,I,rfl,q⟩
theorem wF(k:Nat):(0:Int)<=2 ^ k:=by
 rw[two_pow_cast];exact Int.natCast_nonneg _
theorem Ll:kC X (binaryOp .Add) (Cj λi j=>.int (i+j)):=VQ λ_ _ _ _ _ _ _ q=>add_int q
theorem GS:kC X (binaryOp .Mod) (rI (λ_ j=>j≠0) λi j=>.int (i.fmod j)):=Jj λ_ _ _ _ _ _ _ hc q=>mod_int' hc q
theorem Lh:kC X (binaryOp .RShift) (rI (λ_ j=>0<=j) λi j=>.int (i / 2 ^ j.toNat)):=Jj λi j _ _ _ _ _ hc q =>
 rshift_int hc (by rw[Int.fdiv_eq_ediv_of_nonneg i (wF _)];exact q)
theorem unI{f:Value->Sem Value}{g:Int->Int}
  (rule:∀(i:Int) (t:Tok) (s:Shared) (Q:aB) (E:aB),Q (.int (g i) s.toks) { s with toks:=s.toks+1 }->wpAny (model X.prog X.w) X.A (f (.int i t)) Q E s) :
  Yb X f (rU λi=>.int (g i)):=by
 intro pins s σ H x v Q I rx h;obtain⟨i,rfl,q⟩:=h;obtain⟨t,rfl⟩:=rx;exact rule i t s _ _ ⟨.int (g i),H,I.tok _,⟨_,rfl⟩,q⟩
theorem J9:Yb X (unaryOp .USub) (rU λi=>.int (-i)):=unI λ_ _ _ _ _ q=>neg_int q
end
variable {us:av}
section
variable {X:Cx}{a b c:Expr}{ta tb tc:TE}{pos:Pos}
theorem P5:kC X (compareOp .Lt) (Cj λi j=>.bl (decide (i<j))):=GU λ_ _ _ _ _ _ _ q=>lt_int q
theorem P6:kC X (compareOp .LtE) (Cj λi j=>.bl (decide (i<=j))):=GU λ_ _ _ _ _ _ _ q=>le_int q
theorem P7:kC X (compareOp .Gt) (Cj λi j=>.bl (decide (j<i))):=GU λ_ _ _ _ _ _ _ q=>gt_int q
theorem P8:kC X (compareOp .GtE) (Cj λi j=>.bl (decide (j<=i))):=GU λ_ _ _ _ _ _ _ q=>ge_int q
theorem CW(b:Expr){op:CmpOp}(h:op≠.In:=by decide)(h2:op≠.NotIn:=by decide):behindInMarks op b=false:=by
 have e1:(op==CmpOp.In)=false:=by cases op<;>first|rfl|exact absurd rfl h
 have e2:(op==CmpOp.NotIn)=false:=by cases op<;>first|rfl|exact absurd rfl h2
 cases b<;>simp[behindInMarks,e1,e2]
theorem sS{op:CmpOp}{r:R2}(ho:kC X (compareOp op) r)(ha:PE X a ta)(hb:PE X b tb)(hm:behindInMarks op b=false):PE X (.Compare a [op] [b] pos) (F0 r ta tb):=by
 intro pins s σ H Q I h;exact wpAny_Compare1 (NJ ha hb I h λv u s2 x y H2 I2 rx ry q=>ho pins s2 σ H2 x y v u Q I2 rx ry q) hm
noncomputable def IJ(t:TE):TT:=λσ H Q=>t σ H λx H'=>∃k,x=.bl k/\Q k H'
theorem sM{op:CmpOp}{r:R2}(ho:kC X (compareOp op) r)(ha:PE X a ta)(hb:PE X b tb)(hm:behindInMarks op b=false):PT X (.Compare a [op] [b] pos) (IJ (F0 r ta tb)):=by
 intro pins s σ H Q I h;refine wpAny_isTrue_Compare1 (dg (ha pins s σ H _ I h) λv s1 ⟨x,H1,I1,r1,q1⟩=>dg (hb pins s1 σ H1 _ I1 q1) λu s2 ⟨y,H2,I2,r2,q2⟩ =>
  dg (ho pins s2 σ H2 x y v u _ I2 r1 r2 q2) λc s3 ⟨z,H3,I3,r3,k,e,q3⟩=>?_) hm
 subst e;cases r3;exact aaY ⟨H3,I3,q3⟩
theorem tf:(sizeLine:Nat)<2 ^ 63:=by rw[sizeLine_eq];decide
theorem vals1{x:V}(r:Vals [x] us):∃u,us=[u]/\RelV x u:=by
 cases r with
 |cons r1 r2=>cases r2;exact⟨_,rfl,r1⟩
theorem vals2{x y:V}(r:Vals [x,y] us):∃u w',us=[u,w']/\RelV x u/\RelV y w':=by
 cases r with
 |cons r1 r2 =>
  cases r2 with
  |cons r3 r4=>cases r4;exact⟨_,_,rfl,r1,r3⟩
theorem EF:fD X (.builtin "abs") (λxs H Q=>∃i,xs=[.int i]/\Q (.int (if i<0 then -i else i)) H):=by
 intro pins s σ H xs us Q I r h;obtain⟨i,rfl,q⟩:=h;obtain⟨u,rfl,t,rfl⟩:=vals1 r;exact call_abs_int λu tk=>⟨.int (if i<0 then -i else i),H,I.tok _,⟨_,rfl⟩,q⟩
theorem A7:fD X (.type "int") (λxs H Q=>(∃i,xs=[.int i]/\Q (.int i) H)\/∃k,xs=[.bl k]/\Q (.int (if k then 1 else 0)) H):=by
 intro pins s σ H xs us Q I r h;rcases h with ⟨i,rfl,q⟩|⟨k,rfl,q⟩
 ·obtain⟨u,rfl,t,rfl⟩:=vals1 r;exact call_int_int ⟨.int i,H,I,⟨_,rfl⟩,q⟩
 ·obtain⟨u,rfl,r1⟩:=vals1 r;cases r1;exact call_int_bool ⟨.int (if k then 1 else 0),H,I.tok _,⟨_,rfl⟩,q⟩
end
end L2
namespace L2
open PySem PySem.Spec PyProof.Rows
structure adD(h:Heap)(x dx C:Addr)(mA:aU):Prop where
 obj:h.get? x=some (PySem.W.instObj C dx)
 ns:h.Ns1 dx mA
 ne:dx≠x
section
variable {prog:aE}{w:World}{A:aJ}{E:aB}{s:Shared}{K:au}{x dx C f:Addr}{mA:aU}{name:Str}{v:Value}
end
theorem qb.some_of{v:V}{o:Option Value}(r:qb (some v) o):∃u,o=some u/\RelV v u:=by
 cases o with
 |none=>exact(show False from r).elim
 |some u=>exact⟨u,rfl,r⟩
theorem qb.none_of{o:Option Value}(r:qb none o):o=none:=by
 cases o with
 |none=>rfl
 |some u=>exact(show False from r).elim
section
variable {P:aE}{w:World}{H H':Hp}{h h':Heap}{a C dx:Addr}{fs fs':List (Str×V)}
end
structure SO(K:au)(C:Addr):Prop where
 pg:PySem.W.plainGet K C Str.empty=true
 hd:PySem.W.hasDictIn K C=true
 po:PySem.W.plainOver K C=true
 sa:PySem.W.findIn K (.ref C) "__setattr__" = some (some (.builtin "object.__setattr__"))
structure Con(K:au)(C:Addr)(f:Str)(v:V)(u:Value):Prop where
 at_:PySem.W.findIn K (.ref C) f=some (some u)
 rel:RelV v u
 get:PySem.W.specialIn K u "__get__" = some none
 cp:PySem.W.copiedNames.contains f=false
structure Meth(K:au)(C:Addr)(m:Str)(f:Addr):Prop where
 at_:PySem.W.findIn K (.ref C) m=some (some (.ref f))
 fn:PySem.W.isFn K (.ref f)=true
 kp:PySem.W.keepIn K (.ref f)=true
section
variable {X:Cx}{pins:aq}{σ:St}{H:Hp}{s:Shared}{a C dx:Addr}{fs:List (Str×V)}{f:Str}{v:V}{A:aJ}{E:aB}
end
section
variable {X:Cx}{o e value:Expr}{f:Str}{pos pos' aaJ:Pos}{ta tv:TE}
end
section
variable {X:Cx}{pins:aq}{σ:St}{H:Hp}{s:Shared}{A:aJ}{E:aB}{Q:aB}{c:Value}{b:Bool}
inductive p5(K:au)(H:Hp):V->Value->Prop where
 |bV:p5 K H .bV (.type "NoneType")
 |bl (x:Bool):p5 K H (.bl x) (.type "bool")
 |int (i:Int):p5 K H (.int i) (.type "int")
 |str (x:Str):p5 K H (.str x) (.type "str")
 |R5 (x:UInt64):p5 K H (.R5 x) (.type "float")
 |lst {a:Addr} {xs:af} (e:H a=some (.lst xs)):p5 K H (.ref a) (.type "list")
 |i4 {a:Addr} {o:Obj} {xs:af} (e:H a=some (.i4 o (.lst xs))):p5 K H (.ref a) (.type "list")
 |tup {a:Addr} {xs:af} (e:H a=some (.tup xs)):p5 K H (.ref a) (.type "tuple")
 |dK {a:Addr} {nq:List (Key×V)} (e:H a=some (.dK nq)):p5 K H (.ref a) (.type "dict")
 |dT {a:Addr} {nq:List (List Key×V)} (e:H a=some (.dT nq)):p5 K H (.ref a) (.type "dict")
 |ins {a C dx:Addr} {fs:List (Str×V)} (e:H a=some (.ins C dx fs)) (cl:SO K C) (ha:PySem.W.findIn K (.ref C) "__class__" = some (some (.builtin "object.__class__")))
   (hn:PySem.W.specialIn K (.builtin "object.__class__") "__get__" = some (some (.builtin "getset_descriptor.__get__"))) (htk:PySem.W.takesIn K (.builtin "object.__class__")=some true)
   (hm:PySem.W.mroIn K C (.type "object")=some true):p5 K H (.ref a) (.ref C)
end
end L2
namespace L2
open PySem PySem.Spec PyProof.Rows
structure gK(k:Nat)(A:aJ):Prop where
 hd:A.handled=none
 dp:A.depth+3*k+5<recursionLimit
 un:A.units+16*k+200<cLine
variable {A:aJ}
theorem gK.mono{j k:Nat}(r:gK k A)(h:j<=k):gK j A:=⟨r.hd,by have:=r.dp;left,by have:=r.un;left⟩
theorem gK.deeper{k:Nat}{A:aJ}(r:gK (k+1) A)(env:Env):gK k (A.deeper env) :=
 ⟨r.hd,by have:=r.dp;show A.depth+1+3*k+5<_;left,by have:=r.un;show A.units+3+16*k+200<_;left⟩
theorem gK.depth{k:Nat}{A:aJ}(r:gK k A):A.depth<recursionLimit:=by have:=r.dp;left
theorem gK.units{k:Nat}{A:aJ}(r:gK k A):A.units+64<cLine:=by have:=r.un;left
noncomputable def O9:TA:=λ_ H Q=>Q [] H
noncomputable def IM(ta:TE)(tr:TA):TA:=λσ H Q=>ta σ H λx H1=>tr σ H1 λxs H2=>Q (x::xs) H2
section
variable {X:Cx}{e:Expr}{es:aC}{te:TE}{t:TA}{pos:Pos}
theorem eJ:PA X [] O9:=λ_ _ _ _ H Q I h=>abF ⟨[],H,I,.nil,h⟩
theorem cJ(ha:PE X e te)(hr:PA X es t)(hs:starEach (e::es) X.env=(false,eval e X.env)::starEach es X.env:=by rfl):PA X (e::es) (IM te t):=by
 intro pos pins s σ H Q I h;rw[hs];show wpAny _ _ (spliced ((false,eval e X.env)::backTo pos (starEach es X.env))) _ _ s;refine abt (dg (ha pins s σ H _ I h) λu s1 bR=>?_);obtain⟨x,H1,I1,r1,q1⟩:=bR;exact dg (hr pos pins s1 σ H1 _ I1 q1) λus s2 ⟨xs,H2,I2,r2,q2⟩=>⟨x::xs,H2,I2,.cons r1 r2,q2⟩
def UW(t:TA):TE:=λσ H Q=>t σ H λxs H1=>xs.length<=sizeLine/\∀p,H1 p=none->Q (.ref p) (upd H1 p (.tup xs))
def U1(t:TA):TE:=λσ H Q=>t σ H λxs H1=>xs.length<=sizeLine/\∀p,H1 p=none->Q (.ref p) (upd H1 p (.lst xs))
theorem K4{x1}(h:PA X es t):PE X (.Tuple es x1 pos) (UW t):=by
 intro pins s σ H Q I hq;refine wpAny_Tuple_spliced (dg (h pos pins s σ H _ I hq) λus s1 ⟨xs,H1,I1,r,z,q⟩=>⟨by rw[<- r.length];exact z,?_⟩);have hf:H1 s1.heap.objs.size=none:=I1.cA.fresh (aak _);refine⟨.ref s1.heap.objs.size,upd H1 s1.heap.objs.size (.tup xs),I1.laid (t':=s1.toks) (λb u e=>aag _ e) (aak _) ?_,rfl,q _ hf⟩;exact⟨z,us,r,⟨_,aao _ rfl,rfl,_,rfl⟩⟩
theorem K7(h:PA X es t):PE X (.List es pos) (U1 t):=by
 intro pins s σ H Q I hq;refine wpAny_List_spliced (dg (h pos pins s σ H _ I hq) λus s1 ⟨xs,H1,I1,r,z,q⟩=>⟨by rw[<- r.length];exact z,?_⟩);have hf:H1 s1.heap.objs.size=none:=I1.cA.fresh (aak _);refine⟨.ref s1.heap.objs.size,upd H1 s1.heap.objs.size (.lst xs),I1.laid (t':=s1.toks) (λb u e=>aag _ e) (aak _) ?_,rfl,q _ hf⟩;exact⟨z,us,0,r,aao _ rfl⟩
end
noncomputable abbrev Sp:=af->Hp->VK->XK->Prop
noncomputable abbrev z4:=List Env->Hp->Shared->XK->aB
structure IB(P:aE)(w:World)(K:au)(mg:aU)(base:Heap)(A:aJ)(outer:List Env)(s:Shared)(H:Hp):Prop where
 frames:A.frames=some outer
 mod:Mod K mg base
 bs:∀b o,base.get? b=some o->s.heap.get? b=some o/\H b=none
 EK:base.objs.size<=s.heap.objs.size
 kn:s.heap.FunFrames base outer
 Bq:∀b∈l_ outer,H b=none
 cA:jZ P w H s.heap
 bare:AllBare s.gens
def CE(outer:List Env)(P:aE)(w:World)(H:Hp)(s:Shared)(Q:VK)(u:Value)(s':Shared):Prop :=
 ∃v H',s'.os=s.os/\AllBare s'.gens/\Un (l_ outer) [] H H' s.heap s'.heap/\jZ P w H' s'.heap/\RelV v u/\Q v H'
noncomputable def CR(CX:z4)(outer:List Env)(P:aE)(w:World)(H:Hp)(s:Shared)(Q:VK)(E:XK)(r:Result)(s':Shared):Prop :=
 match r with
 |.ok (.ret u)=>CE outer P w H s Q u s'
 |.ok _=>False
 |.error e=>CX outer H s E e s'
structure gL(P:aE)(w:World)(K:au)(mg:aU)(base:Heap)(CX:z4)(k:Nat)(f:Addr)(fd:FuncData)(ps:ao)(sp:Sp):Prop where
 len:∀vs H Q E,sp vs H Q E->vs.length=ps.length
 run:∀(A:aJ) (outer:List Env) (s:Shared) (H:Hp) (args:Args) (us:av) (vs:af) (Q:VK) (E:XK),gK k A->IB P w K mg base A outer s H->BindsTo s fd args (ps.zip us)->Vals vs us->sp vs H Q E ->
  codeAny (model P w) A (.call (.ref f) args) (CR CX outer P w H s Q E) s
theorem gL.mono{P:aE}{w:World}{K:au}{mg:aU}{base:Heap}{CX:z4}{j k:Nat}{f:Addr}{fd:FuncData}{ps:ao}{sp:Sp}(F:gL P w K mg base CX j f fd ps sp)(h:j<=k):
  gL P w K mg base CX k f fd ps sp:=⟨F.len,λA outer s H args us vs Q E hr=>F.run A outer s H args us vs Q E (hr.mono h)⟩
variable {Q:VK}
section
variable {X:Cx}{pins:aq}{σ:St}{H:Hp}{s s':Shared}
theorem Inv.XF(I:Inv X pins σ H s):IB X.prog X.w X.K X.mg X.base X.A X.stack s H :=
 ⟨I.ok.frames,I.ok.mod,I.bs,aaD I.ok.EK I.sz,I.stack,I.kU,I.cA,I.bare⟩
theorem Inv.after{u:Value}(I:Inv X pins σ H s)(h:CE X.stack X.prog X.w H s Q u s'):EP X pins σ Q u s':=by
 obtain⟨v,H',os,bare,un,cA,r,q⟩:=h;obtain⟨hh,g,d,t,VM⟩:=s';obtain rfl:VM=s.os:=os;exact⟨v,H',I.call (h':=hh) (g':=g) (d':=d) (t':=t) (ch:=[]) un cA bare (λb z=>absurd z (by simp)),r,q⟩
end
noncomputable def Pb(sp:Sp)(fY:af)(E:XK)(t:TA):TE:=λσ H Q=>t σ H λvs H1=>sp (vs++fY) H1 Q E
noncomputable def Binds(K:au)(fd:FuncData)(ps:ao)(ds:av):Prop :=
 ∀(s:Shared) (us:av),K.In s.heap->(us++ds).length=ps.length->BindsTo s fd ⟨us,[]⟩ (ps.zip (us++ds))
variable {K:au}{ps:ao}
theorem Binds.all{fd:FuncData}(h:∀us:av,us.length=ps.length->bindArgs fd ⟨us,[]⟩=pure (ps.zip us)):Binds K fd ps []:=λs us _ hl=>by
 rw[List.append_nil]at hl ⊢;exact .of_eq (h us hl)
def Passes(CX:z4)(X:Cx)(E:XK):Prop:=∀(pins:aq) (σ:St) (H:Hp) (s:Shared) (e:Value) (s':Shared),Inv X pins σ H s->CX X.stack H s E e s'->X.xe e s'
variable {H:Hp}{us:av}{vs:af}
section
variable {X:Cx}{CX:z4}{k:Nat}{f C:Addr}{fd:FuncData}{ps:ao}{sp:Sp}{fY:af}{ds:av}{E:XK}{x m:Str}{p pos apos:Pos}{e o:Expr}{es:aC}{ta:TE}{t:TA}
theorem KJ{pins:aq}{σ:St}{s:Shared}(F:gL X.prog X.w X.K X.mg X.base CX k f fd ps sp)(hr:gK k X.A)(hb:Binds X.K fd ps ds)(hd:Vals fY ds)(hx:Passes CX X E)
  (I:Inv X pins σ H s) (r:Vals vs us) (h:sp (vs++fY) H Q E):wpAny (model X.prog X.w) X.A (call (.ref f) us) (EP X pins σ Q) X.xe s:=by
 have r2:Vals (vs++fY) (us++ds):=r.append hd;have hl:(us++ds).length=ps.length:=by rw[<- r2.length];exact F.len _ _ _ _ h
 refine wpAny_call (abT (F.run X.A X.stack s H ⟨us,[]⟩ (us++ds) (vs++fY) Q E hr I.XF (hb s us I.AD hl) r2 h) λr s' hq=>?_);cases r with
 |error e=>exact hx pins σ H s e s' I hq
 |ok fl =>
  cases fl with
  |ret u=>exact I.after hq
  |next=>exact False.elim hq
  |brk=>exact False.elim hq
  |cont=>exact False.elim hq
theorem yO(F:gL X.prog X.w X.K X.mg X.base CX k f fd ps sp)(hr:gK k X.A)(hg:Gl X x)(hm:X.mg x=some (.ref f))(hk:PySem.W.keepIn X.K (.ref f)=true)(hb:Binds X.K fd ps ds)(hd:Vals fY ds)(hx:Passes CX X E)
  (ha:PA X (e::es) t) (Rk:(x==("__debug__" : Str))=false:=by decide) (he:starEach (e::es) X.env=(false,eval e X.env)::starEach es X.env:=by rfl) (hpl:(backTo pos (starEach es X.env)).any (·.1)=false:=by rfl) :
  PE X (.Call (.Name x p) (e::es) [] pos) (Pb sp fY E t):=by
 intro pins s σ H Q I h;refine aaR (tm I hg hm ?_ Rk);refine PySem.W.callWith_K (h₀:=X.base) I.ok.mod.V1 hk (dg (ha pos pins s σ H _ I h) λus s1 ⟨vs,H1,I1,r,q⟩=>⟨I1.AD,?_⟩) he hpl;exact KJ F hr hb hd hx I1 r q
structure Mk(K:au)(C f:Addr):Prop where
 makes:PySem.W.makesIn K C=true
 init:PySem.W.findIn K (.ref C) "__init__" = some (some (.ref f))
 fn:PySem.W.isFn K (.ref f)=true
 kp:PySem.W.keepIn K (.ref C)=true
end
section
variable {X:Cx}{CX:z4}{k:Nat}{f C:Addr}{fd:FuncData}{ps ks:ao}{sp:Sp}{E:XK}{x m:Str}{p pos apos aby:Pos}{e o:Expr}{es:aC}{kws:List Keyword}{te ta:TE}{t tk:TA}{nm:Option Str}
structure Yd(K:au)(fd:FuncData)(ps ks:ao)(g:av->av->av)(gV:af->af->af):Prop where
 to:∀(s:Shared) (us ws:av),K.In s.heap->(g us ws).length=ps.length->BindsTo s fd ⟨us,ks.zip ws⟩ (ps.zip (g us ws))
 rel:∀{vs:af} {us:av} {zs:af} {ws:av},Vals vs us->Vals zs ws->Vals (gV vs zs) (g us ws)
variable {g:av->av->av}{gV:af->af->af}
end
structure fK(N P:ao)(sc:Scope):Prop where
 kind:sc.kind=.function
 co:sc.isCoroutine=false
 gen:sc.isGenerator=false
 nd:N.Nodup
 pre:N.take P.length=P
 par:∀x∈P,sc.names.lookup x=some .local\/sc.names.lookup x=some .cell
 Lq:∀y∈sc.names,y.2≠.free
theorem rX{kindOf:Str->Option NameKind}{x:Str}:∀{binds:List (Str×Value)} {m:aU},(∀v,(x,v)∉binds)->bindL kindOf binds m x=m x
 |[],_,_=>rfl
 | (n,v)::r,m,h=>by
  unfold bindL;rw[rX λw hw=>h w (List.mem_cons_of_mem _ hw)];split
  ·have:x≠n:=by rintro rfl;exact h v aai
   simp[this]
  ·rfl
theorem rZ{kindOf:Str->Option NameKind}{x:Str}:∀{binds:List (Str×Value)} {m:aU},(∀v,(x,v)∉binds)->bindC kindOf binds m x=m x
 |[],_,_=>rfl
 | (n,v)::r,m,h=>by
  unfold bindC;rw[rZ λw hw=>h w (List.mem_cons_of_mem _ hw)];split
  ·rfl
  ·have:x≠n:=by rintro rfl;exact h v aai
   simp[this]
theorem rY{kindOf:Str->Option NameKind}{x:Str}{v:Value}:∀{P:ao} {vs:av} {i:Nat} {m:aU},P.Nodup->P[i]?=some x->vs[i]?=some v->kindOf x=some .local ->
  bindL kindOf (P.zip vs) m x=some v
 |[],_,_,_,_,h,_,_=>by simp at h
 |_::_,[],_,_,_,_,h,_=>by simp at h
 |p::P,w::vs,0,m,nd,h1,h2,hk=>by
  simp at h1 h2;subst h1;subst h2;show bindL kindOf ((p,w)::P.zip vs) m p=_;unfold bindL;rw[rX λv hv=>(List.nodup_cons.mp nd).1 (List.of_mem_zip hv).1,if_pos hk];simp
 |p::P,w::vs,i+1,m,nd,h1,h2,hk=>by
  show bindL kindOf ((p,w)::P.zip vs) m x=_;unfold bindL;exact rY (i:=i) (List.nodup_cons.mp nd).2 (by simpa using h1) (by simpa using h2) hk
theorem r6{kindOf:Str->Option NameKind}{x:Str}{v:Value}:∀{P:ao} {vs:av} {i:Nat} {m:aU},P.Nodup->P[i]?=some x->vs[i]?=some v->kindOf x≠some .local ->
  bindC kindOf (P.zip vs) m x=some v
 |[],_,_,_,_,h,_,_=>by simp at h
 |_::_,[],_,_,_,_,h,_=>by simp at h
 |p::P,w::vs,0,m,nd,h1,h2,hk=>by
  simp at h1 h2;subst h1;subst h2;show bindC kindOf ((p,w)::P.zip vs) m p=_;unfold bindC;rw[rZ λv hv=>(List.nodup_cons.mp nd).1 (List.of_mem_zip hv).1,if_neg hk];simp
 |p::P,w::vs,i+1,m,nd,h1,h2,hk=>by
  show bindC kindOf ((p,w)::P.zip vs) m x=_;unfold bindC;exact r6 (i:=i) (List.nodup_cons.mp nd).2 (by simpa using h1) (by simpa using h2) hk
noncomputable def start(N:ao)(vs:af):St:=vs.map some++List.replicate (N.length - vs.length) none
noncomputable def jq(CX:z4)(P:aE)(w:World)(K:au)(mg:aU)(base:Heap)(N:ao)(qual:Str)(scope:Scope)(f:Addr)(cd:Value)(A:aJ)(outer:List Env)(s:Shared)(H:Hp)(E:XK):Cx where
 prog:=P
 w:=w
 K:=K
 mg:=mg
 base:=base
 A:=A.deeper (envOfC qual scope s.heap.objs.size f cd)
 N:=N
 s₀:=s
 H₀:=H
 env:=envOfC qual scope s.heap.objs.size f cd
 outer:=outer
 stack:=envOfC qual scope s.heap.objs.size f cd::outer
 ex:=[]
 calm:=true
 fn:=λ_=>true
 pn:=[]
 xe:=λe s'=>wpAny (model P w) (A.deeper (envOfC qual scope s.heap.objs.size f cd)) (leaving (envOfC qual scope s.heap.objs.size f cd) e) (λ_ Vo=>CX outer H s E e Vo) (λe' Vo=>CX outer H s E e' Vo) s'
theorem vY{sc:Scope}{n:Nat}{x:Str}(h:sc.names.lookup x=some .cell):∃c,(cellsFrom n sc.names []).lookup x=some c:=by
 have q:=PySem.W.cellsFrom_some sc.names n [] (.inl h);exact Option.isSome_iff_exists.mp q
variable {P:aE}{base:Heap}{mg:Str->Option Value}{qual:Str}{scope:Scope}{w:World}
theorem AJ{CX:z4}{N:ao}{f:Addr}{cd:Value}{outer:List Env}{s s1:Shared}{E:XK}  
  (S:fK N ps scope) (hd:A.handled=none) (e0:IB P w K mg base A outer s H) (hl:vs.length=ps.length) (r:Vals vs us)
  (x:InCallC s s.heap.objs.size (bindL (envOfC qual scope s.heap.objs.size f cd).kindOf (ps.zip us) λ_=>none) (cellsFrom (s.heap.objs.size+1) scope.names []) (bindC (envOfC qual scope s.heap.objs.size f cd).kindOf (ps.zip us) λ_=>none) s1) :
  Inv (jq CX P w K mg base N qual scope f cd A outer s H E) [] (start N vs) H s1:=by
 have hpl:ps.length<=N.length:=by have:=aaX List.length S.pre;rw[List.length_take]at this;left
 obtain⟨h1,tk,rfl,hk⟩:=x.done;have Qc:∀b:Addr,b∉(jq CX P w K mg base N qual scope f cd A outer s H E).ex:=λb z=>absurd (show b∈([]:aR) from z) (by simp);refine⟨⟨e0.mod,S.kind,rfl,rfl,aak _,λy z c h1 h2=>?_,λy hy=>?_,λy c _ h=>?_,λ_=>hd,Around.frames_deeper e0.frames,.inr ⟨rfl,rfl⟩,λb z=>absurd z (Qc b),e0.bs,e0.EK,λb _ _=>Qc b,λb z=>absurd z (Qc b),e0.kn,e0.Bq⟩,
  rfl,e0.bare,Un.kept hk,⟨_,x.toInCall.ns,λi y v h1 h2 h3=>?_⟩,λy c h=>⟨_,x.cell y c h⟩,e0.cA.fresh (aak _),λy c h=>?_,λp hp=>absurd (show p∈([]:aq) from hp) (by simp),e0.cA.kept hk,?_⟩
 ·exact name_of_addr x.apart (aa1 h1) (aa1 h2)
 ·have hy:scope.names.lookup y=some .cell\/scope.names.lookup y=some .free:=hy;rcases hy with hy|hy
  ·exact vY hy
  ·exact absurd rfl (S.Lq _ (aa1 hy))
 ·exact Nat.le_of_lt (x.above y c (aa1 h))
 ·have hi:i<vs.length:=by
   unfold start at h2;by_cases hi:i<vs.length
   ·exact hi
   ·rw[List.getElem?_append_right (by simpa using hi)]at h2;rw[List.getElem?_replicate]at h2;split at h2<;>cases h2
  have ha:vs[i]?=some v:=by
   unfold start at h2;rw[List.getElem?_append_left (by simpa using hi),List.getElem?_map]at h2;cases e:vs[i]? with
   |none=>rw[e]at h2;cases h2
   |some a=>rw[e]at h2;cases h2;rfl
  obtain⟨u,hu,rv⟩:=r.get ha;have hp:ps[i]?=some y:=by
   rw[<- S.pre,List.getElem?_take_of_lt (by left)];exact h1
  have YY:ps.Nodup:=by rw[<- S.pre];exact S.nd.sublist (List.take_sublist _ _)
  refine⟨u,rv,?_⟩;rcases S.par y (aas hp)with k|k
  ·exact .inl ⟨k,rY YY hp hu k⟩
  ·obtain⟨c,e⟩:=vY (n:=s.heap.objs.size+1) k;refine .inr ⟨.inl k,c,e,?_⟩;have q:=x.cell y c e;rw[r6 YY hp hu (by show scope.names.lookup y≠_;rw[k];decide)]at q;exact q
 ·exact e0.cA.fresh (Nat.le_of_lt (x.above y c (aa1 h)))
 ·unfold start;show _=N.length;rw[List.length_append,List.length_map,List.length_replicate];left
theorem JD{CX:z4}{k:Nat}{f:Addr}{name:Str}{params:Arguments}{body:ba}{dV kV doc pm gi ct oc:Value}{an od:Option Addr}
  {CN:Array (Option Value)} {N:ao} {sp:Sp} (lk:K.lookup f=some ⟨oc,od,.func (PySem.W.fnOf name qual params body scope dV kV doc pm an gi ct),CN⟩) (xE:PySem.W.codeIn K gi qual=true) (S:fK N ps scope)
  (len:∀vs H Q E,sp vs H Q E->vs.length=ps.length)
  (vA:∀(A:aJ) (outer:List Env) (s:Shared) (H:Hp) (vs:af) (Q:VK) (E:XK),gK k (A.deeper (envOfC qual scope s.heap.objs.size f gi))->sp vs H Q E ->
   ∃t,iY (jq CX P w K mg base N qual scope f gi A outer s H E) body t/\t { nx:=λ_ H'=>Q .bV H',rt:=Q } (start N vs) H) :
  gL P w K mg base CX (k+1) f (PySem.W.fnOf name qual params body scope dV kV doc pm an gi ct) ps sp:=by
 refine⟨len,λA outer s H args us vs Q E hr e0 hb r wm=>?_⟩;have hl:=len _ _ _ _ wm;have KX:K.In s.heap:=e0.mod.V1.keeps λb o e=>(e0.bs b o e).1;have lim:s.heap.NoLimit:=e0.mod.nolimit.keeps λb o e=>(e0.bs b o e).1;have Q9:∀y∈ps.zip us,scope.names.lookup y.1=some .local\/(scope.names.lookup y.1=some .cell/\((cellsFrom (s.heap.objs.size+1) scope.names []).lookup y.1).isSome=true):=λ⟨n,v⟩ hy=>by
  rcases S.par n (List.of_mem_zip hy).1 with q|q
  ·exact .inl q
  ·exact .inr ⟨q,PySem.W.cellsFrom_some _ _ _ (.inl q)⟩
 refine codeAny_call_function hr.depth (KX _ _ lk) rfl S.co S.gen rfl (PySem.W.codeRec_of KX xE) (hb _ _ _ _ ?_);refine wpAny_newFunctionEnv_cells S.kind Q9 λenv he s1 x=>?_;subst he;refine⟨lim.keeps x.toInCall.keep,codeAny_func ?_⟩;obtain⟨t,ht,hq⟩:=vA A outer s H vs Q E (hr.deeper _) wm;have I:Inv (jq CX P w K mg base N qual scope f gi A outer s H E) [] (start N vs) H s1:=AJ S hr.hd e0 hl r x;refine aav (ht [] s1 (start N vs) H _ I hq) (λfl s' hs=>?_) λe s' hs=>hs;have fin:∀{σ':St} {H':Hp} {v:V} {u:Value},Inv (jq CX P w K mg base N qual scope f gi A outer s H E) [] σ' H' s'->RelV v u->Q v H'->CE outer P w H s Q u s' :=
  λ{σ' H' v u} J rv q=>⟨v,H',J.os,J.bare,J.base,J.cA,rv,q⟩
 cases fl with
 |ret u =>
  obtain⟨v,σ',H',J,rv,q⟩:=hs;exact fin J rv q
 |next =>
  obtain⟨σ',H',J,q⟩:=hs;exact fin (v:=V.bV) (u:=Value.none) J rfl q
 |brk =>
  obtain⟨_,_,_,q⟩:=hs;exact False.elim q
 |cont =>
  obtain⟨_,_,_,q⟩:=hs;exact False.elim q
end L2
namespace L2
open PySem PySem.Spec PyProof.Rows
section
variable {X:Cx}{x:Str}{p pos:Pos}{e:Expr}{es:aC}{t:TA}{id T:String}{r:af->Hp->VK->Prop}
noncomputable def NV(r:af->Hp->VK->Prop)(t:TA):TE:=λσ H Q=>t σ H λvs H1=>r vs H1 Q
theorem d9(hc:fD X (.builtin id) r)(hg:Gl X x)(hm:X.mg x=none)(hv:bootBuiltins x=some (.builtin id))(ha:PA X (e::es) t)(hn:x ≠ "__name__":=by decide)(Rk:(x==("__debug__" : Str))=false:=by decide)
  (he:starEach (e::es) X.env=(false,eval e X.env)::starEach es X.env:=by rfl) (hpl:(backTo pos (starEach es X.env)).any (·.1)=false:=by rfl):PE X (.Call (.Name x p) (e::es) [] pos) (NV r t):=by
 intro pins s σ H Q I h;refine aaR (eK I hg hm hv ?_ hn Rk);exact aba (dg (ha pos pins s σ H _ I h) λus s1 ⟨vs,H1,I1,r1,q1⟩=>hc pins s1 σ H1 vs us Q I1 r1 q1) he hpl
theorem lW(hc:fD X (.type T) r)(hg:Gl X x)(hm:X.mg x=none)(hv:bootBuiltins x=some (.type T))(ha:PA X (e::es) t)(hn:x ≠ "__name__":=by decide)(Rk:(x==("__debug__" : Str))=false:=by decide)
  (he:starEach (e::es) X.env=(false,eval e X.env)::starEach es X.env:=by rfl) (hpl:(backTo pos (starEach es X.env)).any (·.1)=false:=by rfl):PE X (.Call (.Name x p) (e::es) [] pos) (NV r t):=by
 intro pins s σ H Q I h;refine aaR (eK I hg hm hv ?_ hn Rk);exact aaw (dg (ha pos pins s σ H _ I h) λus s1 ⟨vs,H1,I1,r1,q1⟩=>hc pins s1 σ H1 vs us Q I1 r1 q1) he hpl
end
end L2
namespace HT
open PySem PyProof.Rows
noncomputable def lexLt:ae->ae->Bool
 |[],[]=>false
 |[],_::_=>true
 |_::_,[]=>false
 |x::xs,y::ys=>if x=y then lexLt xs ys else decide (x<y)
theorem dP(x y:Int)(xs ys:ae):lexLt (x::xs) (y::ys)=if x=y then lexLt xs ys else decide (x<y):=rfl
theorem j_:lexLt [] []=false:=rfl
theorem o9(y:Int)(ys:ae):lexLt [] (y::ys)=true:=rfl
theorem dj(x:Int)(xs:ae):lexLt (x::xs) []=false:=rfl
theorem vL(A:aJ)(s:Shared)(a:Int)(t:Tok)(c:Int)(u:Tok):∃e,SeqAt.EqAt A s (.int a t) (.int c u) e/\(e=true ↔ a=c) :=
 ⟨(a==c),abu a t c u,by simp⟩
theorem Cf(A:aJ)(s:Shared)(a:Int)(t:Tok)(c:Int)(u:Tok)(prog:aE)(w:World)(E:aB)(Q:aB)(h:Q (.bool (decide (a<c))) s):
  wpAny (model prog w) A (richCompare .Lt (.int a t) (.int c u)) Q E s :=
 (PyProof.Rows.lt_int h:wpAny (model prog w) A (compareOp .Lt (.int a t) (.int c u)) Q E s)
section
open PySem.SeqAt
open PySem.AutoSeq1 (wpAny_loadPart')
open PySem.MeetsSeq PySem.MeetsSeq2 PySem.MeetsSeq3
theorem j9(l b:Addr)(items dE:aP)(n n2:Nat)(dd A3:Option Addr)(sl yE:Array (Option Value))(ns ms:ae)(hi:IntsAre items.toList ns)(hj:IntsAre dE.toList ms):
  Meets (Builtin.«tuple.__lt__» ⟨[.ref l,.ref b],[]⟩)
   (λ_ R s=>s.heap.get? l=some { cls:=.type "tuple",dict:=dd,data:=.seq items n,slots:=sl }/\s.heap.get? b=some { cls:=.type "tuple",dict:=A3,data:=.seq dE n2,slots:=yE } /\
    R (.ok (.ret (.bool (lexLt ns ms)))) s) :=
 .of_wp λprog w A R s h=>by
  obtain⟨hp,g,d,tk,os⟩:=s;obtain⟨hl,hb,h⟩:=h;have f2:=AutoSeq1.sub_tuple_tuple;have z1:items.size=ns.length:=by rw[<- hi.length];simp
  have z2:dE.size=ms.length:=by rw[<- hj.length];simp
  wp_walk using wpAny_loadPart' hl,wpAny_loadPart' hb,wpAny_forIn_list _ (λrest b s'=>b.1=none/\s'=⟨hp,g,d,tk,os⟩/\∃(vs ws:av) (lJ Bk:ae),rest=vs.zip ws /\
   IntsAre vs lJ/\IntsAre ws Bk/\lJ.length+dE.size=Bk.length+items.size/\R (.ok (.ret (.bool (lexLt lJ Bk)))) ⟨hp,g,d,tk,os⟩) _
  case turn =>
   rintro ⟨y,x⟩ rest b s' ⟨jQ,rfl,vs,ws,lJ,Bk,hz,L8,Jv,hlen,hR⟩;cases L8 with
   |nil=>rw[List.zip_nil_left]at hz;cases hz
   |cons a t hvi' =>
    cases Jv with
    |nil=>rw[List.zip_nil_right]at hz;cases hz
    |cons c u hwi' =>
     rw[List.zip_cons_cons]at hz;injection hz with Wk DA
     injection Wk with hy hx
     subst hy hx;rw[dP]at hR;simp only[List.length_cons]at hlen;obtain⟨e,he,DJ⟩:=vL A.in1 ⟨hp,g,d,tk,os⟩ a t c u;refine aab (he prog w _ _ ?_);cases e with
     |true =>
      rw[if_pos (DJ.mp rfl)]at hR
      wp_walk
      exact⟨rfl,rfl,_,_,_,_,DA,hvi',hwi',by left,hR⟩
     |false =>
      rw[if_neg (λq=>absurd (DJ.mpr q) Bool.false_ne_true)]at hR;have Wu:=Cf A.in1 ⟨hp,g,d,tk,os⟩ a t c u prog w
      wp_walk using Wu
      exact⟨_,rfl,by simpa using hR⟩
  case fin =>
   rintro ⟨b1,b2⟩ s' ⟨jQ,rfl,vs,ws,lJ,Bk,hz,L8,Jv,hlen,hR⟩;simp only at jQ;subst jQ;have hv:lexLt lJ Bk=decide (items.size<dE.size):=by
    cases L8 with
    |nil =>
     cases Jv with
     |nil =>
      simp only[List.length_nil]at hlen;rw[j_];exact(aaN (by left)).symm
     |cons c u hw =>
      simp only[List.length_nil,List.length_cons]at hlen;rw[o9];exact(aaM (by left)).symm
    |cons a t hv =>
     cases Jv with
     |nil =>
      simp only[List.length_nil,List.length_cons]at hlen;rw[dj];exact(aaN (by left)).symm
     |cons c u hw =>
      rw[List.zip_cons_cons]at hz;cases hz
   rw[hv]at hR
   wp_walk
   exact⟨_,rfl,by simpa [Builtin.Tuple.tupleCompareSizes]using hR⟩
  case h =>
   exact⟨rfl,rfl,items.toList,dE.toList,ns,ms,rfl,hi,hj,by left,h⟩
end
variable {Q:Value->Shared->Prop}{items:aP}{sl:Addr}{vl vu:Value}
section
variable {prog:aE}{w:World}{A:aJ}{E:aB}{s:Shared}
theorem xn{l b:Addr}{dE:aP}{ns ms:ae}(hl:IsTup s.heap l items)(hb:IsTup s.heap b dE)(hi:IntsAre items.toList ns)(hj:IntsAre dE.toList ms)
  (hu:A.units<cLine) (h:Q (.bool (lexLt ns ms)) s):wpAny (model prog w) A (compareOp .Lt (.ref l) (.ref b)) Q E s:=by
 obtain⟨⟨cls,dd,data,sl⟩,ho,hc,n,hd⟩:=id hl;obtain⟨⟨NC,A3,data2,yE⟩,wo,hc2,n2,hd2⟩:=id hb;simp only at hc hd hc2 hd2;subst hc hd hc2 hd2;exact richCompare_meets_room (op:=.Lt) ⟨_,ho,rfl⟩ ⟨_,wo,rfl⟩ abQ PySem.F.entry_tuple_lt (PySem.F.args_tuple_lt_2 _ _) (j9 l b items dE n n2 dd A3 sl yE ns ms hi hj)
  ⟨ho,wo,show Value.bool (lexLt ns ms)≠Value.notImplemented/\Q (.bool (lexLt ns ms)) s from⟨(λx=>nomatch x),h⟩⟩ hu
noncomputable def eF(n d:Nat):Option Int->Nat
 |none=>d
 |some v=>if v<0 then(v+(n:Int)).toNat else min v.toNat n
theorem oP(n d:Nat):eF n d none=d:=rfl
theorem KI(n d:Nat)(hd:d<=n)(o:Option Int):eF n d o<=n:=by
 cases o with
 |none=>exact hd
 |some v =>
  show(if v<0 then(v+(n:Int)).toNat else min v.toNat n)<=n;by_cases hv:v<0
  ·rw[if_pos hv];left
  ·rw[if_neg hv];exact Nat.min_le_right _ _
theorem zD(v:Int)(n d:Nat):(if v<0 then max (v+(n:Int)) 0 else min v (n:Int))=((eF n d (some v):Nat):Int):=by
 show(if v<0 then max (v+(n:Int)) 0 else min v (n:Int))=(((if v<0 then(v+(n:Int)).toNat else min v.toNat n):Nat):Int)
 by_cases hv:v<0
 ·simp only[if_pos hv];left
 ·simp only[if_neg hv];left
theorem yg(lo hi:Option Int)(n:Nat):Builtin.Slice.sliceAdjust lo hi 1 (n:Int)=(((eF n 0 lo:Nat):Int),((eF n n hi:Nat):Int)):=by
 have h1:¬ ((1:Int)<0):=by left
 unfold Builtin.Slice.sliceAdjust;simp only[h1,if_false];refine Prod.ext ?_ ?_
 ·cases lo with
  |none=>rfl
  |some v=>exact zD v n 0
 ·cases hi with
  |none=>rfl
  |some v=>exact zD v n n
theorem w9(i j:Nat):Builtin.Slice.slicePlaces (i:Int) (j:Int) 1=j - i:=by
 unfold Builtin.Slice.slicePlaces;have h1:(1:Int)>0:=by left
 simp only[h1,if_true,Int.ediv_one];split<;>left
theorem oN{v:Value}{o:Option Int}{Q:Option Int->Shared->Prop}(p:IsPart v o)(h:Q o s):wpAny (model prog w) A (Builtin.Slice.slicePartIndex v) Q E s:=by
 cases p with
 |none=>exact slicePart_none h
 |int i t=>exact slicePart_int h
theorem lP{lo hi:Option Int}{n:Nat}{Q:Int×Int×Nat->Shared->Prop}(hs:s.heap.IsSliceOf sl vl vu .none)(pl:IsPart vl lo)(pu:IsPart vu hi)
  (h:Q (((eF n 0 lo:Nat):Int),1,eF n n hi - eF n 0 lo) s):wpAny (model prog w) A (Builtin.Slice.sliceApplied (.ref sl) (pure (n:Int))) Q E s:=by
 obtain⟨os,Me,mT,TU⟩:=id hs;unfold Builtin.Slice.sliceApplied Builtin.Slice.sliceFields;refine aab (aab (aaP Me TU (x:=vl) rfl (aab (aaP Me TU (x:=vu) rfl (aab (aaP Me TU (x:=.none) rfl (aaf ?_)))))));refine aab (slicePart_none ?_);show wpAny _ _ (if ((1:Int)==0)=true then _ else _) _ _ s;rw[if_neg (by decide)];refine aab (oN pl (aab (oN pu (aab (aaf ?_)))));show wpAny _ _ (match Builtin.Slice.sliceAdjust lo hi 1 (n:Int)with | (lo,hi)=>pure (lo,(1:Int),Builtin.Slice.slicePlaces lo hi 1)) _ _ s;rw[yg lo hi n];show wpAny _ _ (pure (((eF n 0 lo:Nat):Int),(1:Int),Builtin.Slice.slicePlaces ((eF n 0 lo:Nat):Int) ((eF n n hi:Nat):Int) 1)) _ _ s;rw[w9];exact aaf h
theorem Cu(xs:aP)(i k:Nat):((List.range k).filterMap λ(m:Nat)=>xs[((i:Int)+(m:Int)*1).toNat]?).toArray=((xs.toList.drop i).take k).toArray:=by
 have e:(λ(m:Nat)=>xs[((i:Int)+(m:Int)*1).toNat]?)=λm=>xs[i+m]?:=by
  funext m;have:((i:Int)+(m:Int)*1).toNat=i+m:=by left
  rw[this]
 rw[e];have:=pick_run xs i k;rw[List.filterMap_map]at this;have e2:((λx=>xs[x]?)∘λx=>i+x)=λm=>xs[i+m]?:=rfl;rw[e2]at this;rw[this]
theorem lb{t:Addr}{lo hi:Option Int}(ht:IsTup s.heap t items)(hs:s.heap.IsSliceOf sl vl vu .none)(pl:IsPart vl lo)(pu:IsPart vu hi)
  (hw:¬ (eF items.size 0 lo=0/\eF items.size items.size hi=items.size))
  (h:Q (.ref s.heap.objs.size) { s with heap:=s.heap.push { cls:=.type "tuple",data:=.seq ((items.toList.drop (eF items.size 0 lo)).take (eF items.size items.size hi - eF items.size 0 lo)).toArray } })
  (hsz:items.size<=sizeLine):wpAny (model prog w) A (getItem (.ref t) (.ref sl)) Q E s:=by
 have y7:sizeOk (.seq ((items.toList.drop (eF items.size 0 lo)).take (eF items.size items.size hi - eF items.size 0 lo)).toArray):=by
  show((items.toList.drop (eF items.size 0 lo)).take (eF items.size items.size hi - eF items.size 0 lo)).toArray.size<=sizeLine;rw[List.size_toArray,List.length_take,List.length_drop,Array.length_toList];left
 have hj:eF items.size items.size hi<=items.size:=KI _ _ (aak _) hi;obtain⟨os,Me,mT,TU⟩:=id hs;have hTs:s.TypeIs (.ref sl) "slice":=⟨os,Me,mT⟩
 unfold getItem
 try with_reducible refine aaF ?_
 first|refine aab (aaf ?_)|skip
 refine aab (wpAny_sequenceKey ht.typeIs (by decide) ?_);refine aab (aaO (name:=Str.ofString "__getitem__") ht.typeIs PyProof.Rows.slot_tuple_getitem
  (aaH PyProof.Rows.slot_tuple_getitem ht.typeIs entry_tuple_getitem ?_ (args_tuple_getitem _ _)))
 show wpAny _ _ (Builtin.Tuple.tupleItemsOf (.ref t) >>= _) _ _ s;refine aab (tupleItemsOf_ ht ?_);refine aab (wpAny_typeOf hTs ?_);rw[if_pos (by decide)];refine aab (lP hs pl pu ?_);have hno:¬ ((((eF items.size 0 lo:Nat):Int)==0&&(1:Int)==1&&(eF items.size items.size hi - eF items.size 0 lo)==items.size)=true):=by
  intro q;rw[Bool.and_eq_true,Bool.and_eq_true]at q;have q1:((eF items.size 0 lo:Nat):Int)=0:=eq_of_beq q.1.1;have q2:eF items.size items.size hi - eF items.size 0 lo=items.size:=eq_of_beq q.2;exact hw ⟨by left,by left⟩
 show wpAny _ _ (if (((eF items.size 0 lo:Nat):Int)==0&&(1:Int)==1&&(eF items.size items.size hi - eF items.size 0 lo)==items.size)=true then _ else _) _ _ s;rw[if_neg hno,Cu]
 first
  |exact aab (m:=Builtin.Tuple.tupleExact _) (aaE (aaf ⟨_,rfl,aaf h⟩) y7)
  |exact aab (m:=Builtin.Tuple.tupleExact _) (aaE (aab (aaf (aaf ⟨_,rfl,aaf h⟩))) y7)
  |exact aab (aab (m:=Builtin.Tuple.tupleExact _) (aaE (aaf (aaf ⟨_,rfl,aaf h⟩)) y7))
  |exact aab (aab (m:=Builtin.Tuple.tupleExact _) (aaE (aaf ⟨_,rfl,aaf h⟩) y7))
end
end HT
namespace L2
open PySem PySem.Spec PyProof.Rows
noncomputable abbrev TO:=St->Hp->(Option Int->Hp->Prop)->Prop
noncomputable def PO(X:Cx)(e:Option Expr)(t:TO):Prop :=
 ∀(pins:aq) (s:Shared) (σ:St) (H:Hp) (Q:Option Int->Hp->Prop),Inv X pins σ H s->t σ H Q ->
  wpAny (model X.prog X.w) X.A (evalPart e X.env) (λu s'=>∃o H',Inv X pins σ H' s'/\IsPart u o/\Q o H') X.xe s
noncomputable def F1:TO:=λ_ H Q=>Q none H
noncomputable def O6(t:TE):TO:=λσ H Q=>t σ H λx H1=>∃i,x=.int i/\Q (some i) H1
theorem intsAre_of{ns:ae}:∀{us:av},Vals (ns.map V.int) us->IntsAre us ns:=by
 induction ns with
 |nil=>intro us r;rw[List.map_nil]at r;cases r;exact .nil
 |cons n ns ih =>
  intro us r;rw[List.map_cons]at r;cases r with
  |cons r1 r2 =>
   obtain⟨t,e⟩:=r1;subst e;exact .cons n t (ih r2)
section
variable {X:Cx}{e:Expr}{te:TE}{lo hi:Option Expr}{tl th:TO}{pos p2:Pos}
theorem sO:PO X none F1:=by
 intro pins s σ H Q I h;rw[evalPart_none];exact aaf ⟨none,H,I,.none,h⟩
theorem sN(h:PE X e te):PO X (some e) (O6 te):=by
 intro pins s σ H Q I hw;rw[evalPart_some];refine dg (h pins s σ H _ I hw) λu s1 bR=>?_;obtain⟨x,H1,I1,r1,q1⟩:=bR;obtain⟨i,rfl,q⟩:=q1;obtain⟨t,rfl⟩:=r1;exact⟨some i,H1,I1,.int i t,q⟩
def Uz(X:Cx)(r:V->Option Int->Option Int->Hp->VK->Prop):Prop :=
 ∀(pins:aq) (s:Shared) (σ:St) (H:Hp) (x:V) (v vl vu:Value) (lo hi:Option Int) (sl:Addr) (Q:VK),Inv X pins σ H s->RelV x v->s.heap.IsSliceOf sl vl vu .none->IsPart vl lo->IsPart vu hi->r x lo hi H Q ->
  ∃T id,typeLookup (.type T) "__getitem__" = pure (some (.builtin id))/\s.TypeIs v T/\wpAny (model X.prog X.w) X.A (getItem v (.ref sl)) (EP X pins σ Q) X.xe s
noncomputable def tSl(r:V->Option Int->Option Int->Hp->VK->Prop)(te:TE)(tl th:TO):TE:=λσ H Q=>te σ H λx H1=>tl σ H1 λl H2=>th σ H2 λu H3=>r x l u H3 Q
theorem uZ{r:V->Option Int->Option Int->Hp->VK->Prop}(hr:Uz X r)(he:PE X e te)(hl:PO X lo tl)(hu:PO X hi th):PE X (.Subscript e (.Slice lo hi none p2) pos) (tSl r te tl th):=by
 intro pins s σ H Q I h;refine Subscript_ (dg (he pins s σ H _ I h) λv s1 bR=>?_);obtain⟨x,H1,I1,r1,q1⟩:=bR;refine wpAny_Slice (dg (hl pins s1 σ H1 _ I1 q1) λvl s2 ⟨l,H2,I2,pl,q2⟩=>dg (hu pins s2 σ H2 _ I2 q2) λvu s3 bR=>?_);obtain⟨u,H3,I3,pu,q3⟩:=bR;rw[evalPart_none];refine aaf ?_;have I4:Inv X pins σ H3 { s3 with heap:=s3.heap.push { cls:=.type "slice",data:=.fields #[vl,vu,.none] } }:=I3.kept (t':=s3.toks) λb ob q=>aag _ q;obtain⟨T,id,hT,ht,hg⟩:=hr pins { s3 with heap:=s3.heap.push { cls:=.type "slice",data:=.fields #[vl,vu,.none] } } σ H3 x v vl vu l u s3.heap.objs.size Q I4 r1 (Heap.IsSliceOf.new ..) pl pu q3;show wpAny (model X.prog X.w) X.A (subscriptTail e (.Slice lo hi none p2) v (.ref s3.heap.objs.size)) (EP X pins σ Q) X.xe { s3 with heap:=s3.heap.push { cls:=.type "slice",data:=.fields #[vl,vu,.none] } };exact tail_any (ops:=[.ref s3.heap.objs.size,v]) ht hT hg (by with_unfolding_all rfl)
def vR(xs:af)(lo hi:Option Int):af:=(xs.drop (HT.eF xs.length 0 lo)).take (HT.eF xs.length xs.length hi - HT.eF xs.length 0 lo)
theorem mU(xs:af)(lo hi:Option Int):(vR xs lo hi).length<=xs.length:=by
 unfold vR;rw[List.length_take,List.length_drop];left
def Vv(K:au):V->Option Int->Option Int->Hp->VK->Prop:=λx lo hi H Q=>∃a xs,x=.ref a/\aY K H a xs /\
 ¬ (HT.eF xs.length 0 lo=0/\HT.eF xs.length xs.length hi=xs.length)/\∀p,H p=none->Q (.ref p) (upd H p (.tup (vR xs lo hi)))
theorem Kq:Uz X (Vv X.K):=by
 intro pins s σ H x v vl vu lo hi sl Q I rx hs pl pu h;obtain⟨a,xs,rfl,hx,hw,q⟩:=h;cases rx;obtain⟨aK,r,ht,hz⟩:=I.tuple hx;have hlen:aK.toArray.size=xs.length:=by rw[List.size_toArray];exact r.length.symm
 refine⟨"tuple",_,PyProof.Rows.slot_tuple_getitem.lookup,ht.typeIs,?_⟩;refine HT.lb ht hs pl pu (by rw[hlen];exact hw) ?_ (by rw[hlen];exact hz);rw[hlen];refine⟨.ref s.heap.objs.size,_,I.laid (t':=s.toks) (o:=.tup (vR xs lo hi)) (λb ob q=>aag _ q) (aak _) ?_,rfl,q _ (I.cA.fresh (aak _))⟩;exact⟨aaD (mU xs lo hi) hz,_,(r.drop (HT.eF xs.length 0 lo)).take (HT.eF xs.length xs.length hi - HT.eF xs.length 0 lo),IsTup.new _ _⟩
end
end L2
namespace L2
open PySem PySem.Spec PyProof.Rows
noncomputable def Bl(n:Nat)(i:Int):Option Nat:=if 0<=i then(if i<n then some i.toNat else none)else if -(n:Int)<=i then some (i+n).toNat else none
def OG{α:Type}(xs:List α)(i:Int):Option α:=(Bl xs.length i).bind λj=>xs[j]?
theorem y2{n:Nat}{i:Int}{j:Nat}(h:Bl n i=some j):seqIndex? i n=some j/\j<n /\ -(n:Int)<=i/\i<n:=by
 unfold Bl at h;by_cases h0:0<=i
 ·rw[if_pos h0]at h;by_cases h1:i<n
  ·rw[if_pos h1]at h;have e:i.toNat=j:=aar h;exact⟨by rw[seqIndex_of h0 h1,e],by left,by left,h1⟩
  ·rw[if_neg h1]at h;cases h
 ·rw[if_neg h0]at h;by_cases h1:-(n:Int)<=i
  ·rw[if_pos h1]at h;have e:(i+n).toNat=j:=aar h;exact⟨by rw[seqIndex_neg (by left) h1,e],by left,h1,by left⟩
  ·rw[if_neg h1]at h;cases h
theorem zP{α:Type}{xs:List α}{i:Int}{v:α}(h:OG xs i=some v):∃j,seqIndex? i xs.length=some j/\xs[j]?=some v/\j<xs.length /\ -(xs.length:Int)<=i/\i<xs.length:=by
 unfold OG at h;cases e:Bl xs.length i with
 |none=>rw[e]at h;cases h
 |some j =>
  rw[e]at h;obtain⟨h1,h2,h3,h4⟩:=y2 e;exact⟨j,h1,h,h2,h3,h4⟩
def oq(b:Expr):Prop:=∀o i,subscripted b false o i=operate [o,i] (getItem o i)
def JW(X:Cx)(r:R2):Prop :=
 ∀(value slice:Expr) (pins:aq) (s:Shared) (σ:St) (H:Hp) (x y:V) (v u:Value) (Q:VK),Inv X pins σ H s->RelV x v->RelV y u->r x y H Q ->
  subscripted slice false v u=operate [v,u] (getItem v u)->wpAny (model X.prog X.w) X.A (subscriptTail value slice v u) (EP X pins σ Q) X.xe s
def UB(X:Cx)(id:String)(r:V->af->Hp->VK->Prop):Prop :=
 ∀(pins:aq) (s:Shared) (σ:St) (H:Hp) (x:V) (xs:af) (v:Value) (us:av) (Q:VK),Inv X pins σ H s->RelV x v->Vals xs us->r x xs H Q ->
  wpAny (model X.prog X.w) X.A (call (.builtin id) (v::us)) (EP X pins σ Q) X.xe s
variable {H:Hp}{σ:L2.St}
section
variable {X:Cx}{a b:Expr}{ta tb:TE}{pos:Pos}
theorem JW.or{r r':R2}(h:JW X r)(h':JW X r'):JW X (λx y H Q=>r x y H Q\/r' x y H Q):=by
 intro value slice pins s σ H x y v u Q I rx ry q hs;rcases q with q|q
 ·exact h value slice pins s σ H x y v u Q I rx ry q hs
 ·exact h' value slice pins s σ H x y v u Q I rx ry q hs
theorem Jg{r:R2}(hr:JW X r)(ha:PE X a ta)(hb:PE X b tb)(hs:oq b):PE X (.Subscript a b pos) (F0 r ta tb):=by
 intro pins s σ H Q I h;exact Subscript_ (NJ ha hb I h λv u s2 x y H2 I2 rx ry q=>hr a b pins s2 σ H2 x y v u Q I2 rx ry q (hs _ _))
def VA(K:au):R2:=λx y H Q=>∃p xs i v,x=.ref p/\y=.int i/\dH K H p xs/\OG xs i=some v/\Q v H
def Vz(K:au):R2:=λx y H Q=>∃p xs i v,x=.ref p/\y=.int i/\aY K H p xs/\OG xs i=some v/\Q v H
theorem Hb:JW X (VA X.K):=by
 intro value slice pins s σ H x y v u Q I rx ry h hs;obtain⟨p,xs,i,z,rfl,rfl,hq,he,q⟩:=h;cases rx;obtain⟨t,rfl⟩:=ry;obtain⟨aK,r,pl,hz⟩:=I.list hq;obtain⟨j,h1,h2,h3,h4,h5⟩:=zP he;obtain⟨w,ew,lI⟩:=r.get h2;have hl:=r.length;have hn:=tf;have fin:EP X pins σ Q w s:=⟨z,H,I,lI,q⟩
 by_cases h0:0<=i
 ·have hj:i.toNat=j:=by
   rw[seqIndex_of h0 h5]at h1;exact aar h1
  exact item_listR pl.isList h0 (by left) (by rw[hj];simpa using ew) fin hs
 ·have hj:(i+(aK.toArray.size:Int)).toNat=j:=by
   rw[seqIndex_neg (by left) h4]at h1;rw[List.size_toArray,<- hl];exact aar h1
  exact abG (x:=w) pl.isList.typeIs slot_list_getitem.lookup
   (wpAny_getItem_list_neg (Q:=λr s'=>r=w/\EP X pins σ Q r s') pl.isList (by left) (by rw[List.size_toArray]<;>omega) (by left) (by rw[hj];simpa using ew) ⟨rfl,fin⟩) hs
theorem LN:JW X (Vz X.K):=by
 intro value slice pins s σ H x y v u Q I rx ry h hs;obtain⟨p,xs,i,z,rfl,rfl,hq,he,q⟩:=h;cases rx;obtain⟨t,rfl⟩:=ry;obtain⟨aK,r,pl,hz⟩:=I.tuple hq;obtain⟨j,h1,h2,h3,h4,h5⟩:=zP he;obtain⟨w,ew,lI⟩:=r.get h2;have hl:=r.length;have hn:=tf;have fin:EP X pins σ Q w s:=⟨z,H,I,lI,q⟩
 exact abG (x:=w) pl.typeIs slot_tuple_getitem.lookup
  (getItem_tuple (j:=j) (Q:=λr s'=>r=w/\EP X pins σ Q r s') pl (by left) (by left) (by rw[List.size_toArray,<- hl];exact h1) (by simpa using ew) ⟨rfl,fin⟩) hs
theorem sD(lo hi:Option Int)(n:Nat):(sliceBounds lo hi none n).1=((HT.eF n 0 lo:Nat):Int)/\(sliceBounds lo hi none n).2.1=((HT.eF n n hi:Nat):Int)/\(sliceBounds lo hi none n).2.2=1:=by
 refine⟨?_,?_,rfl⟩
 ·cases lo with
  |none=>simp[sliceBounds,HT.eF]
  |some i =>
   simp only[sliceBounds,HT.eF,Option.getD_none,show(1:Int)>0 by decide,if_true];by_cases h:i<0
   ·simp only[h,if_true]<;>left
   ·simp only[h,if_false]<;>left
 ·cases hi with
  |none=>simp[sliceBounds,HT.eF]
  |some i =>
   simp only[sliceBounds,HT.eF,Option.getD_none,show(1:Int)>0 by decide,if_true];by_cases h:i<0
   ·simp only[h,if_true]<;>left
   ·simp only[h,if_false]<;>left
theorem qu(aK:av)(lo hi:Option Int):slicePick aK.toArray lo hi none=((aK.drop (HT.eF aK.length 0 lo)).take (HT.eF aK.length aK.length hi - HT.eF aK.length 0 lo)).toArray:=by
 obtain⟨h1,h2,h3⟩:=sD lo hi aK.toArray.size;unfold slicePick;rw[h1,h2,h3];simp only[sliceRange_one,pick_run,List.size_toArray]<;>rfl
def Vw(K:au):V->Option Int->Option Int->Hp->VK->Prop:=λx lo hi H Q=>∃a xs,x=.ref a/\dH K H a xs/\∀p,H p=none->Q (.ref p) (upd H p (.lst (vR xs lo hi)))
theorem yD:Uz X (Vw X.K):=by
 intro pins s σ H x v vl vu lo hi sl Q I rx hs pl pu h;obtain⟨a,xs,rfl,hx,q⟩:=h;cases rx;obtain⟨aK,r,ht,hz⟩:=I.list hx;have hlen:=r.length;refine⟨"list",_,slot_list_getitem.lookup,ht.isList.typeIs,?_⟩;refine wpAny_getItem_list_slice ht.isList hs pl pu .none (by simp) ?_ (by rw[List.size_toArray]<;>omega);rw[qu,<- hlen];refine⟨.ref s.heap.objs.size,_,I.laid (t':=s.toks) (o:=.lst (vR xs lo hi)) (λb ob q=>aag _ q) (aak _) ?_,rfl,q _ (I.cA.fresh (aak _))⟩;exact⟨aaD (mU xs lo hi) hz,_,0,(r.drop (HT.eF xs.length 0 lo)).take (HT.eF xs.length xs.length hi - HT.eF xs.length 0 lo),aao _ rfl⟩
noncomputable def jn:V->Bool
 |.bV=>true
 |.bl _=>true
 |.int _=>true
 |.str _=>true
 |_=>false
noncomputable def Fp:V->V->Bool
 |.bV,.bV=>true
 |.bl a,.bl b=>a==b
 |.bl a,.int b=>(if a then 1 else 0)==b
 |.int a,.bl b=>a==(if b then 1 else 0)
 |.int a,.int b=>a==b
 |.str a,.str b=>a==b
 |_,_=>false
theorem Nh{A:aJ}{s:Shared}{y x:V}{u v:Value}(ry:RelV y u)(rx:RelV x v)(fy:jn y=true)(fx:jn x=true):SeqAt.EqAt A s u v (Fp y x):=by
 cases y with
 |bV =>
  cases ry;cases x with
  |bV=>cases rx;exact abq _
  |bl b=>cases rx;exact abU b
  |int b=>obtain⟨t,rfl⟩:=rx;exact ab1 b t
  |str b=>obtain⟨t,rfl⟩:=rx;exact SeqAt.EqAt.none_str b t
  |_=>exact absurd (show false=true from fx) aac
 |bl a =>
  cases ry;cases x with
  |bV=>cases rx;exact abV a
  |bl b=>cases rx;exact abW a b
  |int b=>obtain⟨t,rfl⟩:=rx;exact ab3 a b t
  |str b=>obtain⟨t,rfl⟩:=rx;exact SeqAt.EqAt.bool_str a b t
  |_=>exact absurd (show false=true from fx) aac
 |int a =>
  obtain⟨t',rfl⟩:=ry;cases x with
  |bV=>cases rx;exact ab4 a t'
  |bl b=>cases rx;exact ab5 a t' b
  |int b=>obtain⟨t,rfl⟩:=rx;exact abu a t' b t
  |str b=>obtain⟨t,rfl⟩:=rx;exact SeqAt.EqAt.int_str a t' b t
  |_=>exact absurd (show false=true from fx) aac
 |str a =>
  obtain⟨t',rfl⟩:=ry;cases x with
  |bV=>cases rx;exact SeqAt.EqAt.str_none a t'
  |bl b=>cases rx;exact SeqAt.EqAt.str_bool a t' b
  |int b=>obtain⟨t,rfl⟩:=rx;exact SeqAt.EqAt.str_int a t' b t
  |str b=>obtain⟨t,rfl⟩:=rx;exact SeqAt.EqAt.str_str a t' b t
  |_=>exact absurd (show false=true from fx) aac
 |_=>exact absurd (show false=true from fy) aac
def xO(x:V)(u:Value):Bool:=match u with
 |.none=>Fp .bV x
 |.bool b=>Fp (.bl b) x
 |.int i _=>Fp (.int i) x
 |.str z _=>Fp (.str z) x
 |_=>false
theorem D8{x y:V}{u:Value}(r:RelV y u)(f:jn y=true):xO x u=Fp y x:=by
 cases y with
 |bV=>cases r;rfl
 |bl b=>cases r;rfl
 |int i=>obtain⟨t,rfl⟩:=r;rfl
 |str z=>obtain⟨t,rfl⟩:=r;rfl
 |_=>exact absurd (show false=true from f) aac
theorem lF{x:V}:∀{xs:af} {us:av},Vals xs us->xs.all jn=true->us.any (xO x)=xs.any λy=>Fp y x
 |_,_,.nil,_=>rfl
 |y::xs,u::us,.cons r t,f=>by
  rw[List.all_cons,Bool.and_eq_true]at f;rw[List.any_cons,List.any_cons,D8 r f.1,lF t f.2]
theorem jg{A:aJ}{s:Shared}{x:V}{v:Value}(rx:RelV x v)(fx:jn x=true):∀{xs:af} {us:av},Vals xs us->xs.all jn=true->∀u∈us,SeqAt.EqAt A s u v (xO x u)
 |_,_,.nil,_=>λu hu=>by cases hu
 |y::xs,u::us,.cons r t,f=>λu' hu=>by
  rw[List.all_cons,Bool.and_eq_true]at f;rcases List.mem_cons.mp hu with rfl|hu
  ·rw[D8 r f.1];exact Nh r rx f.1 fx
  ·exact jg rx fx t f.2 u' hu
def TJ(x:V)(xs:af):Bool:=xs.any λy=>Fp y x
def VC(K:au)(neg:Bool):R2:=λx y H Q=>∃p xs,y=.ref p/\(dH K H p xs\/aY K H p xs)/\jn x=true/\xs.all jn=true/\Q (.bl (if neg then !TJ x xs else TJ x xs)) H
theorem Au:kC X (compareOp .In) (VC X.K false):=by
 intro pins s σ H x y v u Q I rx ry h;obtain⟨p,xs,rfl,hq,fx,fs,q⟩:=h;cases ry;rcases hq with hq|hq
 ·obtain⟨aK,r,pl,hz⟩:=I.list hq;refine SeqAt.in_listAt (xO x) pl.isList (λw hw=>jg rx fx r fs w (by simpa using hw)) ⟨.bl _,H,I,rfl,?_⟩;rw[show aK.toArray.any (xO x)=aK.any (xO x) by simp,lF r fs];exact q
 ·obtain⟨aK,r,pl,hz⟩:=I.tuple hq;refine SeqAt.in_tupleAt (xO x) pl (λw hw=>jg rx fx r fs w (by simpa using hw)) ⟨.bl _,H,I,rfl,?_⟩;rw[show aK.toArray.any (xO x)=aK.any (xO x) by simp,lF r fs];exact q
theorem tZ:fD X (.builtin "len") (λxs H Q=>∃p ys,xs=[.ref p]/\(dH X.K H p ys\/aY X.K H p ys)/\Q (.int ys.length) H):=by
 intro pins s σ H xs us Q I r h;obtain⟨p,ys,rfl,hq,q⟩:=h;obtain⟨u,rfl,rx⟩:=vals1 r;cases rx;have hn:=tf;rcases hq with hq|hq
 ·obtain⟨aK,r',pl,hz⟩:=I.list hq;have hlen:=r'.length;exact Calls.call_len_list pl.isList (by simp only[List.size_toArray]<;>omega) ⟨.int ys.length,H,I.tok _,⟨s.toks+1,by rw[List.size_toArray,hlen]⟩,q⟩
 ·obtain⟨aK,r',pl,hz⟩:=I.tuple hq;have hlen:=r'.length;exact len_tuple pl (by simp only[List.size_toArray]<;>omega) ⟨.int ys.length,H,I.tok _,⟨s.toks+1,by rw[List.size_toArray,hlen]⟩,q⟩
theorem tY:fD X (.type "list") (λxs H Q=>∃p ys,xs=[.ref p]/\(dH X.K H p ys\/aY X.K H p ys)/\∀l,H l=none->Q (.ref l) (upd H l (.lst ys))):=by
 intro pins s σ H xs us Q I r h;obtain⟨p,ys,rfl,hq,q⟩:=h;obtain⟨u,rfl,rx⟩:=vals1 r;cases rx;have fin:∀(aK:av),Vals ys aK->ys.length<=sizeLine->∀(h':Heap) (c':Nat),(∀b o',s.heap.get? b=some o'->h'.get? b=some o') ->
   h'.get? s.heap.objs.size=some { cls:=.type "list",dict:=none,data:=.seq aK.toArray c',slots:=#[] }->EP X pins σ Q (.ref s.heap.objs.size) { s with heap:=h' }:=λaK r' hz h' c' kp e =>
  ⟨.ref s.heap.objs.size,_,I.laid (t':=s.toks) kp (aak _) (show cS X.prog X.w _ h' _ (.lst ys) from⟨hz,aK,c',r',e⟩),rfl,q _ (I.cA.fresh (aak _))⟩
 rcases hq with hq|hq
 ·obtain⟨aK,r',pl,hz⟩:=I.list hq;have hlen:=r'.length;obtain⟨o,ho,hc,n,hd⟩:=pl.isList;exact call_list_seq p (.inl rfl) ho hc hd (λh' c' kp e=>fin aK r' hz h' c' kp e) (by simp only[List.size_toArray]<;>omega)
 ·obtain⟨aK,r',pl,hz⟩:=I.tuple hq;have hlen:=r'.length;obtain⟨o,ho,hc,n,hd⟩:=pl;exact call_list_seq p (.inr rfl) ho hc hd (λh' c' kp e=>fin aK r' hz h' c' kp e) (by simp only[List.size_toArray]<;>omega)
theorem qK:fD X (.type "tuple") (λxs H Q=>∃p ys,xs=[.ref p]/\((dH X.K H p ys/\∀l,H l=none->Q (.ref l) (upd H l (.tup ys)))\/(aY X.K H p ys/\Q (.ref p) H))):=by
 intro pins s σ H xs us Q I r h;obtain⟨p,ys,rfl,h⟩:=h;obtain⟨u,rfl,rx⟩:=vals1 r;cases rx;rcases h with ⟨hq,q⟩|⟨hq,q⟩
 ·obtain⟨aK,r',pl,hz⟩:=I.list hq;have hlen:=r'.length;refine call_tuple_list pl.isList (λh' kp=>?_) (by simp only[List.size_toArray]<;>omega);have I1:Inv X pins σ H { s with heap:=h' }:=I.kept (t':=s.toks) kp;have I2:Inv X pins σ (upd H h'.objs.size (.tup ys)) { s with heap:=h'.push { cls:=.type "tuple",data:=.seq aK.toArray } } :=
   I1.laid (t':=s.toks) (λb o e=>aag _ e) (aak _) (show cS X.prog X.w _ _ _ (.tup ys) from⟨hz,aK,r',IsTup.new _ _⟩)
  exact⟨.ref h'.objs.size,_,I2,rfl,q _ (I1.cA.fresh (aak _))⟩
 ·obtain⟨aK,r',pl,hz⟩:=I.tuple hq;exact call_tuple_same pl ⟨.ref p,H,I,rfl,q⟩
def US(K:au)(T:String)(x:V)(H:Hp):Prop:=match x with
 |.str _=>T = "str"
 |.int _=>T = "int"
 |.ref p=>(T = "list" /\ ∃xs,dH K H p xs)\/(T = "tuple" /\ ∃o,K.lookup p=some o/\o.cls=.type "tuple" /\ o.dict=none) \/
   (T = "dict" /\ ((∃nq,H p=some (.dK nq))\/∃nq,H p=some (.dT nq)))\/(T = "set" /\ ∃S n,H p=some (.set S n))
 |_=>False
theorem BF{pins:aq}{s:Shared}{T:String}{x:V}{v:Value}(I:Inv X pins σ H s)(r:RelV x v)(ty:US X.K T x H):
  s.TypeIs v T/\∀a,v=.ref a->∃ob,s.heap.get? a=some ob/\ob.dict=none:=by
 cases x with
 |str z =>
  obtain⟨t,rfl⟩:=r;cases (show T = "str" from ty);exact⟨typeIs_str s z t,λ_ e=>nomatch e⟩
 |int i =>
  obtain⟨t,rfl⟩:=r;cases (show T = "int" from ty);exact⟨typeIs_int s i t,λ_ e=>nomatch e⟩
 |ref p =>
  cases r;rcases ty with ⟨rfl,xs,hq⟩|⟨rfl,o,hk,hc,hd⟩|⟨rfl,hk⟩|⟨rfl,S,n,hk⟩
  ·obtain⟨aK,_,pl,_⟩:=I.list hq;refine⟨pl.isList.typeIs,λa e=>?_⟩;cases e;obtain⟨o,n,e,c,hd,_⟩:=pl;exact⟨o,e,hd⟩
  ·refine⟨⟨o,I.AD p o hk,hc⟩,λa e=>?_⟩;cases e;exact⟨o,I.AD _ o hk,hd⟩
  ·have z:∃o,s.heap.get? p=some o/\o.ExactDict:=by
    rcases hk with ⟨nq,hk⟩|⟨nq,hk⟩
    ·obtain⟨_,_,_,_,o,_,_,e,ex,_⟩:=I.cA p _ hk;exact⟨o,e,ex⟩
    ·obtain⟨_,_,_,_,o,_,_,e,ex,_⟩:=I.cA p _ hk;exact⟨o,e,ex⟩
   obtain⟨o,e,ex⟩:=z;refine⟨⟨o,e,ex.1⟩,λa e2=>?_⟩;cases e2;exact⟨o,e,ex.2.1⟩
  ·obtain⟨o,_,_,_,e,ex,_⟩:=I.cA p _ hk;refine⟨⟨o,e,ex.1⟩,λa e2=>?_⟩;cases e2;exact⟨o,e,ex.2.1⟩
 |_=>exact False.elim ty
def tBM(K:au)(T:String)(r:V->af->Hp->VK->Prop)(to:TE)(t:TA):TE:=λσ H Q=>to σ H λx H1=>US K T x H1/\t σ H1 λxs H2=>r x xs H2 Q
variable {o e:Expr}{es:aC}{to:TE}{t:TA}{name:Str}{apos cpos:Pos}{T id:String}{r:V->af->Hp->VK->Prop}
theorem CG(pa:PlainAttrs T)(slot:Slot T name id)(Ws:typeOf (.builtin id)=pure (.type "method_descriptor"))(hm:UB X id r)(ho:PE X o to)(ha:PA X (e::es) t)
  (vD:attributeBase o name X.env (eval o X.env)=eval o X.env:=by rfl)
  (hfew:((backTo cpos (starEach (e::es) X.env)).all (λx=>!x.1)&&(backToKw cpos (keywordEach [] X.env)).all (λx=>x.1.isSome)
   && decide ((e::es).length+([]:List Keyword).length+(if ([]:List Keyword).isEmpty then 0 else 1)<30))=true:=by rfl)
  (hline:(apos.endLine==cpos.line)=true:=by rfl) (hs:starEach (e::es) X.env=(false,eval e X.env)::starEach es X.env:=by rfl) (Mc:(backTo cpos (starEach es X.env)).any (·.1)=false:=by rfl) :
  PE X (.Call (.Attribute o name apos) (e::es) [] cpos) (tBM X.K T r to t):=by
 intro pins s σ H Q I h;refine wpAny_Call_method_late vD hfew hline rfl (dg (ho pins s σ H _ I h) λv s1 bR=>?_);obtain⟨x,H1,I1,r1,ty,q1⟩:=bR;obtain⟨h1,h2⟩:=BF I1 r1 ty;refine⟨T,id,pa,slot,Ws,h1,h2,?_⟩;have hA:=ha cpos pins s1 σ H1 _ I1 q1;rw[hs]at hA ⊢;refine abH (by show(false||(backTo cpos (starEach es X.env)).any (·.1))=false;rw[Mc]<;>rfl) (abX ?_);exact dg hA λus s2 ⟨vs,H2,I2,r2,q2⟩=>hm pins s2 σ H2 x vs v us Q I2 r1 r2 q2
/- xs.append(e),list.index on a module's tuple .. are UB facts of 06m -/
end
end L2
namespace L2
open PySem PySem.Spec PyProof.Rows
def UC(X:Cx)(id:String)(r:V->af->Hp->VK->Prop):Prop :=
 ∀(pins:aq) (s:Shared) (σ:St) (H:Hp) (x:V) (xs:af) (v:Value) (us:av) (Q:VK),Inv X pins σ H s->RelV x v->Vals xs us->r x xs H Q ->
  wpAny (model X.prog X.w) X.A (call (.builtin id) (v::us)) (EP X pins σ Q) X.xe s
theorem Vals.one:∀{x:V} {us:av},Vals [x] us->∃u,us=[u]/\RelV x u
 |_,_,.cons r .nil=>⟨_,rfl,r⟩
variable {aK:av}{t':Nat}
section
variable {X:Cx}{pins:aq}{σ:St}{H:Hp}{s:Shared}{l b:Addr}{xs ys zs:af}
theorem Inv.km{its':av}{n:Nat}{f:aP->aP}(I:Inv X pins σ H s)(hH:H l=some (.lst xs))
  (e:s.heap.get? l=some { cls:=.type "list",data:=.seq aK.toArray n }) (hf:f aK.toArray=its'.toArray) (hv:Vals ys its') (hz:ys.length<=sizeLine) :
  Inv X pins σ (upd H l (.lst ys)) { s with heap:=s.heap.update l (Obj.mapSeq f),toks:=t' }:=by
 have q:=PySem.IsL.update e f;rw[hf]at q;refine I.write (x:=l) (e:=l) (by rw[hH];exact trivial) (.inl rfl) (λb' u hb hu=>(aaQ s.heap (Obj.mapSeq f) (abw hb)).trans hu) ⟨_,q⟩ ?_;exact⟨hz,its',_,hv,q⟩
theorem Inv.LF(I:Inv X pins σ H s)(hv:Vals ys aK)(hz:ys.length<=sizeLine):
  Inv X pins σ (upd H s.heap.objs.size (.lst ys)) { s with heap:=s.heap.push { cls:=.type "list",data:=.seq aK.toArray },toks:=t' } :=
 I.laid (λ_ _ q=>aag _ q) (aak _) ⟨hz,aK,0,hv,aao _ rfl⟩
theorem Inv.fresh(I:Inv X pins σ H s):H s.heap.objs.size=none:=I.cA.fresh (aak _)
theorem Inv.vg(I:Inv X pins σ H s)(hH:H l=some (.lst xs)):xs.length<=sizeLine/\∃(aK:av) (n:Nat),Vals xs aK/\xs.length=aK.length/\s.heap.get? l=some { cls:=.type "list",data:=.seq aK.toArray n }:=by
 obtain⟨z,aK,n,r,e⟩:=I.cA l _ hH;exact⟨z,aK,n,r,r.length,e⟩
theorem vd{n:Nat}(h:n<=sizeLine):Builtin.List.listTooLong n=false:=by
 unfold Builtin.List.listTooLong;exact aaN (by left)
end
section
variable {X:Cx}
def Gy:V->af->Hp->VK->Prop:=λx vs H Q=>∃l xs y,x=.ref l/\vs=[y]/\H l=some (.lst xs)/\xs.length<sizeLine/\Q .bV (upd H l (.lst (xs++[y])))
theorem Ax:UC X "list.append" Gy:=by
 intro pins s σ H x vs v us Q I rx rv h;obtain⟨l,xs,y,rfl,rfl,hH,hz,q⟩:=h;cases rx;obtain⟨u,rfl,ru⟩:=rv.one;obtain⟨z,aK,n,r,hl,e⟩:=I.vg hH;refine abb F.slot_list_append ⟨_,e,rfl⟩ F.entry_list_append (F.args_list_append_2 _ _) (PySem.list_append l aK.toArray n u (by rw[List.size_toArray];left)) ⟨e,?_⟩;refine⟨.bV,_,I.km (its':=aK++[u]) hH e (by simp) (r.append (.cons ru .nil)) ?_,rfl,q⟩;rw[List.length_append,List.length_singleton];left
def Gx:V->af->Hp->VK->Prop:=λx vs H Q=>∃l b xs zs,x=.ref l/\vs=[.ref b]/\H l=some (.lst xs)/\H b=some (.lst zs)/\xs.length+zs.length<=sizeLine/\Q .bV (upd H l (.lst (xs++zs)))
theorem Aw:UC X "list.extend" Gx:=by
 intro pins s σ H x vs v us Q I rx rv h;obtain⟨l,b,xs,zs,rfl,rfl,hH,hB,hz,q⟩:=h;cases rx;obtain⟨u,rfl,ru⟩:=rv.one;cases ru;obtain⟨z,aK,n,r,hl,e⟩:=I.vg hH;obtain⟨z2,qA,n2,r2,DG,e2⟩:=I.vg hB;have hsz:aK.toArray.size+qA.toArray.size<=sizeLine:=by rw[List.size_toArray,List.size_toArray];left
 have DD:¬ (!aK.toArray.isEmpty&&Builtin.List.listTooLong (aK.toArray.size+qA.toArray.size))=true:=by
  rw[vd hsz,Bool.and_false];exact aac
 refine abb F.slot_list_extend ⟨_,e,rfl⟩ F.entry_list_extend (F.args_list_extend_2 _ _)
  (AutoSeq1.list_extend_list_list_0 l aK.toArray n b qA.toArray n2 DD (by rw[List.size_toArray];left) (by left)) ⟨e,e2,?_⟩
 refine⟨.bV,_,I.km (its':=aK++qA) hH e (by simp) (r.append r2) ?_,rfl,q⟩;rw[List.length_append];left
end
section
variable {prog:aE}{w:World}{A:aJ}{E:aB}{s:Shared}
set_option maxRecDepth 100000 in
end
section
variable {X:Cx}
end
end L2
namespace Att
open PySem PySem.W PySem.Calls PyProof.Rows
theorem nr{P:Params}{h:Heap}:∀(ns:ae) (vs:av),WellAll P h vs (ns.map WData.int)->IntsAre vs ns:=by
 intro ns;induction ns with
 |nil =>
  intro vs w;rw[List.map_nil]at w;cases w;exact .nil
 |cons n ns ih =>
  intro vs w;rw[List.map_cons]at w;cases w with
  |cons a b =>
   cases a;exact .cons _ _ (ih _ b)
theorem Al{l:OpenLaw}{n:Nat}(hn:l.most=some n){P:Params}{h:Heap}{args:List WData}{vals:av}
  (Hn:l.row.toRowW.claim.pre args=true) (Ob:WellAll P h vals args) :
  ∃a vs ns,vals=[Value.ref a]/\args=[WData.list (ns.map WData.int)]/\h.get? a=some { cls:=.type "list",data:=.seq vs.toArray }/\IntsAre vs ns/\ns.length<=n:=by
 have Ma:WShape.hasAll [] args [.list .int]=true:=(pre_splitW Hn).1;have hc:l.pre.holds [] { args:=args }=true:=(pre_splitW Hn).2;obtain⟨d,r,rfl,h1,h2⟩:=hasAllW_cons Ma;obtain rfl:=hasAllW_nil h2;obtain⟨xs,rfl,h3⟩:=hasW_list h1;obtain⟨ns,rfl⟩:=items_int h3;have hlen:ns.length<=n:=by
  unfold OpenLaw.pre at hc;have h4:(WTm.not (.lt (.lit (.int (n:Int))) (.len (.arg 0)))).holds [] { args:=[.list (ns.map .int)] }=true:=by
   have h4:=(holds_andW hc).1;rw[hn]at h4;exact h4
  have h5:=condW_of h4 (w_not (w_lt w_lit (w_len_list (w_arg rfl))));rw[List.length_map]at h5;refine Nat.le_of_not_lt λq=>?_;have q':(n:Int)<((ns.length:Nat):Int):=by left
  first
   | (rw[decide_eq_true q']at h5;exact absurd h5 (by decide))
   | (simp at h5;left)
 cases Ob with
 |cons w1 w2 =>
  cases w2;cases w1 with
  |list ho hall=>exact⟨_,_,ns,rfl,rfl,ho,nr ns _ hall,hlen⟩
theorem Aq(l:OpenLaw)(args:List WData):l.row.toRowW.claim.post args (.bool true) args=true :=
 postW_of (r:=l.row.toRowW) (X:=(true==true))
  (show WShape.has [] (.bool true) .bool=true by first|rfl|decide|simp[WShape.has,WShape.arms,WShape.armsAll])
  (show(WTm.eq .res (.lit (.bool true))).value [] { args:=args,res:=some (.bool true),after:=args }=some (.bool (true==true)) from w_eq_bool (w_res rfl) w_lit) rfl
theorem v7{l:OpenLaw}{n:Nat}{q:aE}{loose:ao}{XP:(aU)->Heap->Prop}{YP:World->Heap->Prop}{d:DefRec}
  (hn:l.most=some n) (Rh:d.params.defaults=[])
  (call:∀(w:World) (s₀ s₁:Shared) (mg mb:aU) (fa:Addr) (o:Obj) (pm cd doc:Value) (a:Addr) (vs:av) (ns:ae),
   Ground q loose [] XP w s₀ mg mb s₁.heap->YP w s₁.heap ->
   s₁.heap.get? fa=some o->o.data=.func (docDef d.name d.params d.body d.scope pm cd doc)->s₁.heap.CodeRec cd d.name->mg d.name=some (.ref fa) ->
   s₁.heap.get? a=some { cls:=.type "list",data:=.seq vs.toArray }->IntsAre vs ns->ns.length<=n->s₁.gens = #[] ->
   codeAny (model l.prog w) callerA (.call (.ref fa) ⟨[.ref a],[]⟩) (λr s'=>r=.ok (.ret (.bool true))/\OldK s₁.heap s'.heap/\s'.os=s₁.os/\AllBare s'.gens) s₁) :
  WalkO q loose XP YP l.row.toRowW d [] (λf vs=>PySem.call f vs):=by
 intro w s₀ s₁ mg mb G Y fa o pm cd doc dV kV ho hd xE hD hmg hg args vals as Hn acd hrd Ob hlo;obtain rfl:dV=.none:=Dflts.none hD Rh;obtain rfl:kV=.none:=Dflts.noKw hD;obtain⟨a,vs,ns,rfl,rfl,Mf,hints,hlen⟩:=Al hn Hn Ob;refine enter_call (abT (call w s₀ s₁ mg mb fa o pm cd doc a vs ns G Y ho (fd_plain hd) xE hmg Mf hints hlen hg) λr s' hq=>?_);obtain⟨rfl,h2,h3,h4⟩:=hq;exact⟨.inl ⟨.bool true,.bool true,[],rfl,λ_=>rfl,.bool true,Aq l _,λ_=>⟨List.Pairwise.nil,λ_ hm=>(nomatch hm)⟩⟩,h2,h3,h4⟩
section
variable {prog:aE}{w:World}{A:aJ}{E:aB}{s:Shared}{K:Frag}
end
end Att
namespace L2
open PySem PySem.Spec PyProof.Rows
theorem lM:∀{vs:av} {ns:ae},IntsAre vs ns->Vals (ns.map V.int) vs
 |_,_,.nil=>.nil
 |_,_,.cons n t h=>.cons ⟨t,rfl⟩ (lM h)
def Iz(H:Hp):Prop:=∀b,H b=none\/∃o xs,H b=some (.i4 o (.lst xs))
theorem Dg{P:aE}{w:World}{K:au}{mg mb:aU}{CX:z4}{k:Nat}{fa a:Addr}{fd:FuncData}{x:Str}{sp:Sp}{s₁:Shared}{vs:av}{ns:ae}
  (KX:K.In s₁.heap) (Bn:s₁.heap.Ns mainGlobals mg) (hb:s₁.heap.Ns builtinsNs mb) (hbb:∀x:Str,x ≠ "__name__" -> mb x=bootBuiltins x) (WH:s₁.heap.NoLimit) (hg:s₁.gens = #[])
  (ha:s₁.heap.get? a=some { cls:=.type "list",data:=.seq vs.toArray }) (hi:IntsAre vs ns) (hl:ns.length<=sizeLine) (hr:gK k callerA)
  (F:∀base:Heap,K.In base->base.Ns mainGlobals mg->gL P w K mg base CX k fa fd [x] sp) (Rn:∀(s:Shared) (u:Value),BindsTo s fd ⟨[u],[]⟩ [(x,u)])
  (wm:∀H:Hp,Iz H->dH K H a (ns.map V.int)->sp [.ref a] H (λv _=>v=.bl true) λ_ _ _=>False)
  (W2:∀H e s',CX [] H s₁ (λ_ _ _=>False) e s'->False) :
  codeAny (model P w) callerA (.call (.ref fa) ⟨[.ref a],[]⟩) (λr s'=>r=.ok (.ret (.bool true))/\OldK s₁.heap s'.heap/\s'.os=s₁.os/\AllBare s'.gens) s₁:=by
 have rv:=lM hi;have VZ:=hi.length;have core:∀H:Hp,Iz H->dH K H a (ns.map V.int)->jZ P w H s₁.heap->(∀b,H b≠none->b=a)->(H a≠none->K.lookup a=none) ->
   codeAny (model P w) callerA (.call (.ref fa) ⟨[.ref a],[]⟩) (λr s'=>r=.ok (.ret (.bool true))/\OldK s₁.heap s'.heap/\s'.os=s₁.os/\AllBare s'.gens) s₁:=by
  intro H hO hS cA hA hK;have zL:∀{b:Addr} {o:Obj},s₁.heap.get? b=some o->H b=none->(tx s₁.heap H).get? b=some o:=λe n=>DK e n;have Qc:∀{b:Addr} {o:Obj} {es:Array DictEntry} {ep:Nat},s₁.heap.get? b=some o->o.data=.dict es ep->H b=none:=λ{b o es ep} e d=>by
   cases q:H b with
   |none=>rfl
   |some u =>
    have e':b=a:=hA b (by rw[q];simp);subst e';rw[ha]at e;cases e;have d':Data.seq vs.toArray _=Data.dict es ep:=d;cases d'
  have Tv:∀{b:Addr} {m:aU},s₁.heap.Ns b m->(tx s₁.heap H).Ns b m:=λ{b m} ⟨o,es,ep,e,d,r⟩=>⟨o,es,ep,zL e (Qc e d),d,r⟩
  have ZJ:K.In (tx s₁.heap H):=λb o e=>zL (KX b o e) (by
   cases q:H b with
   |none=>rfl
   |some u =>
    have e':b=a:=hA b (by rw[q];simp);subst e';rw[hK (by rw[q];simp)]at e;cases e)
  have hM:Mod K mg (tx s₁.heap H):=⟨ZJ,Tv Bn,⟨mb,Tv hb,hbb⟩,let ⟨mc,h1,h2⟩:=WH;⟨mc,Tv h1,h2⟩⟩
  have e0:IB P w K mg (tx s₁.heap H) callerA [] s₁ H:=⟨rfl,hM,λb o e=>GW e,Nat.le_of_eq (AM _ _),trivial,λb hb=>absurd (show b∈([]:aR) from hb) (by simp),cA,.of_eq hg⟩
  refine abT ((F _ ZJ (Tv Bn)).run callerA [] s₁ H ⟨[.ref a],[]⟩ [.ref a] [.ref a] _ _ hr e0 (Rn s₁ (.ref a)) (.cons rfl .nil) (wm H hO hS)) λr s' h=>?_;cases r with
  |error e=>exact(W2 H e s' h).elim
  |ok fl =>
   cases fl with
   |next=>exact False.elim h
   |brk=>exact False.elim h
   |cont=>exact False.elim h
   |ret u =>
    obtain⟨v,H',os,bare,un,WC,r',q⟩:=h;have q':v=.bl true:=q;subst q';obtain rfl:u=Value.bool true:=r';refine⟨rfl,OldK.of_keep λb o e=>?_,os,bare⟩;cases q:H b with
    |none=>exact un.keep b o e q (by intro z;exact absurd (show b∈([]:aR) from z) (by simp)) (by simp)
    |some u =>
     rcases hO b with z|⟨ob,xs,z⟩
     ·rw[q]at z;cases z
     ·have z2:=un.l9 b ob _ z;obtain⟨e1,_⟩:=cA b _ z;obtain⟨e2,_⟩:=WC b _ z2;rw[e]at e1;cases e1;exact e2
 cases hk:K.lookup a with
 |some o =>
  have e:=KX a o hk;rw[ha]at e;cases e;refine core (λ_=>none) (λ_=>.inl rfl) (.inr ⟨_,vs.toArray,_,hk,rfl,rfl,rfl,by rw[List.size_toArray,VZ];exact hl,by simpa using rv⟩) (λb u z=>by have z':(none:Option HO)=some u:=z;cases z') (λb z=>absurd rfl z) λz=>absurd rfl z
 |none =>
  refine core (λb=>if b=a then some (.i4 { cls:=.type "list",data:=.seq vs.toArray } (.lst (ns.map V.int)))else none) (λb=>?_) (.inl (.inr ⟨{ cls:=.type "list",data:=.seq vs.toArray },aaV rfl⟩)) (λb u z=>?_) (λb z=>?_) λ_=>hk
  ·by_cases hb:b=a
   ·exact .inr ⟨_,_,aaV hb⟩
   ·exact .inl (ab9 hb)
  ·by_cases hb:b=a
   ·have z':=(aaV hb).symm.trans z;cases z';subst hb;exact⟨ha,by rw[List.length_map];exact hl,vs,_,rv,ha⟩
   ·have z':=(ab9 hb).symm.trans z;cases z'
  ·by_cases hb:b=a
   ·exact hb
   ·exact absurd (ab9 hb) z
end L2
namespace L2
open PySem PySem.Spec PyProof.Rows
theorem FF{l:PySem.W.OpenLaw}{n k:Nat}{q:aE}{loose:ao}{XP:(aU)->Heap->Prop}{YP:World->Heap->Prop}{d:DefRec}{K:Params->au}{CX:World->z4}{sp:World->Sp}{x:Str}
  (hn:l.most=some n) (Oh:n<=sizeLine) (Rh:d.params.defaults=[]) (hr:gK k callerA)
  (hY:∀(w:World) (h:Heap),YP w h->(K w.params).In h)
  (F:∀(w:World) (mg:aU) (fa:Addr) (h:Heap),(K w.params).In h->h.Ns mainGlobals mg->mg d.name=some (.ref fa) ->
   ∃fd:FuncData,(∀(s:Shared) (u:Value),BindsTo s fd ⟨[u],[]⟩ [(x,u)]) /\
    ∀base:Heap,(K w.params).In base->base.Ns mainGlobals mg->gL l.prog w (K w.params) mg base (CX w) k fa fd [x] (sp w))
  (wm:∀(w:World) (H:Hp) (a:Addr) (ns:ae),ns.length<=n->Iz H->dH (K w.params) H a (ns.map V.int)->sp w [.ref a] H (λv _=>v=.bl true) λ_ _ _=>False)
  (W2:∀(w:World) (H:Hp) (s:Shared) (e:Value) (s':Shared),CX w [] H s (λ_ _ _=>False) e s'->False) :
  PySem.W.WalkO q loose XP YP l.row.toRowW d [] (λf vs=>PySem.call f vs):=by
 refine Att.v7 hn Rh λw s₀ s₁ mg mb fa o pm cd doc a vs ns G Y ho hd xE hmg Mf hints hlen hg=>?_;have KX:=hY w _ Y;obtain⟨fd,hb,hF⟩:=F w mg fa _ KX G.T.g hmg;exact Dg KX G.T.g G.T.b G.T.builtins G.T.nolimit hg Mf hints (aaD hlen Oh) hr hF hb (λH hO hS=>wm w H a ns hlen hO hS) λH e s'=>W2 w H s₁ e s'
end L2
namespace L2
open PySem PySem.Spec PyProof.Rows
noncomputable def eU(s:Stmt):Arguments:=match s with
 |.FunctionDef _ a _ _ _ _ _ _ _ _=>a
 |_=>{ posonlyargs:=[],args:=[],vararg:=none,kwonlyargs:=[],kw_defaults:=[],kwarg:=none,defaults:=[] }
noncomputable def bJ(s:Stmt):ba:=match s with
 |.FunctionDef _ _ b _ _ _ _ _ _ _=>b
 |_=>[]
noncomputable def aN(s:Stmt):Scope:=match s with
 |.FunctionDef _ _ _ _ _ _ sc _ _ _=>sc
 |_=>{ kind:=.function,names:=[],isGenerator:=false,isCoroutine:=false }
noncomputable abbrev z5:z4:=λ_ _ _ _ _ _=>False
noncomputable abbrev E0:XK:=λ_ _ _=>False
theorem P0{X:Cx}:Passes z5 X E0:=λ_ _ _ _ _ _ _ h=>h.elim
structure Bv(K:au)(x qual:Str)(st:Stmt)(f:Addr)(fd:FuncData):Prop where
 ex:∃(oc:Value) (od:Option Addr) (kV doc pm:Value) (an:Option Addr) (gi ct:Value) (CN:Array (Option Value)),
  fd=PySem.W.fnOf x qual (eU st) (bJ st) (aN st) .none kV doc pm an gi ct/\K.lookup f=some ⟨oc,od,.func fd,CN⟩/\PySem.W.codeIn K gi qual=true
 kp:PySem.W.keepIn K (.ref f)=true
variable {ps:ao}{qual:Str}{st:Stmt}
section
variable {P:aE}{w:World}{K:au}{mg:aU}{base:Heap}
theorem Bv.ok{x:Str}{f:Addr}{fd:FuncData}{N:ao}{k:Nat}{sp:Sp}(F:Bv K x qual st f fd)(S:fK N ps (aN st))(len:∀vs H Q E,sp vs H Q E->vs.length=ps.length)
  (vA:∀(gi:Value) (A:aJ) (outer:List Env) (s:Shared) (H:Hp) (vs:af) (Q:VK) (E:XK),gK k (A.deeper (envOfC qual (aN st) s.heap.objs.size f gi))->sp vs H Q E ->
   ∃t,iY (jq z5 P w K mg base N qual (aN st) f gi A outer s H E).Fb (bJ st) t/\t { nx:=λ_ H'=>Q .bV H',rt:=Q } (start N vs) H):gL P w K mg base z5 (k+1) f fd ps sp:=by
 obtain⟨oc,od,kV,doc,pm,an,gi,ct,CN,rfl,lk,xE⟩:=F.ex;refine JD lk xE S len λA outer s H vs Q E hr wm=>?_;obtain⟨t,h,q⟩:=vA gi A outer s H vs Q E hr wm;exact⟨t,h.Fb,q⟩
theorem Bv.binds{x:Str}{f:Addr}{fd:FuncData}(F:Bv K x qual st f fd)
  (h:∀(kV doc pm:Value) (an:Option Addr) (gi ct:Value) (us:av),us.length=ps.length->bindArgs (PySem.W.fnOf x qual (eU st) (bJ st) (aN st) .none kV doc pm an gi ct) ⟨us,[]⟩=pure (ps.zip us)):Binds K fd ps []:=by
 obtain⟨oc,od,kV,doc,pm,an,gi,ct,CN,rfl,lk,xE⟩:=F.ex;exact .all (h kV doc pm an gi ct)
theorem MG{x:Str}{f:Addr}{oc:Value}{od an:Option Addr}{CN:Array (Option Value)}{kV doc pm gi ct:Value}(l:K.lookup f=some ⟨oc,od,.func (PySem.W.fnOf x qual (eU st) (bJ st) (aN st) .none kV doc pm an gi ct),CN⟩)
  (c:PySem.W.codeIn K gi qual=true) (k:PySem.W.keepIn K (.ref f)=true):Bv K x qual st f (PySem.W.fnOf x qual (eU st) (bJ st) (aN st) .none kV doc pm an gi ct):=⟨⟨oc,od,kV,doc,pm,an,gi,ct,CN,rfl,l,c⟩,k⟩
end
theorem Dx{A:aJ}{k:Nat}(hr:gK k A):A.units+1<cLine:=aaq (ab6 (by decide:1<=64) _) hr.units
section
variable {X:Cx}
end
theorem QB{A B:Prop}(h:B):if false=true then A else B:=by
 rw[if_neg Bool.false_ne_true];exact h
theorem Qy{A B:Prop}(h:A):if true=true then A else B:=by
 rw[if_pos rfl];exact h
def aM(H H':Hp):Prop:=∀b o,H b=some o->H' b=some o
theorem aM.refl(H:Hp):aM H H:=λ_ _ h=>h
variable {H H':Hp}
theorem aM.trans{H1 H2:Hp}(a:aM H H1)(b:aM H1 H2):aM H H2:=λc o h=>b c o (a c o h)
theorem aM.free(e:aM H H'){l:Addr}(h:H' l=Option.none):H l=Option.none:=by
 cases q:H l with
 |none=>rfl
 |some o =>
  rw[e l o q]at h;cases h
theorem aM.seq{K:au}{a:Addr}{xs:af}(e:aM H H')(h:dH K H a xs):dH K H' a xs:=by
 rcases h with (h|⟨o,h⟩)|h
 ·exact .inl (.inl (e _ _ h))
 ·exact .inl (.inr ⟨o,e _ _ h⟩)
 ·exact .inr h
end L2
set_option autoImplicit false
set_option linter.all false
set_option Elab.async false
set_option maxRecDepth 100000
set_option maxHeartbeats 4000000
section
namespace DI
open PySem (Str Expr Stmt Scope NameKind)
inductive Fl where|ow|fz|al|sc
 deriving DecidableEq
inductive D where
 |bV|bl (b:Bool)|int (i:Int)
 |tup (ds:List D)
 |lst (f:Fl) (ds:List D)
 |cO (f:Fl) (ks:aA) (vs:List D)
abbrev aG:=Option D
abbrev aa:=List D
mutual
noncomputable def aS(g:Fl->Fl):D->D
 |.tup ds=>.tup (aF g ds)
 |.lst f ds=>.lst (g f) (aF g ds)
 |.cO f ks vs=>.cO (g f) ks (aF g vs)
 |.bV=>.bV
 |.bl b=>.bl b
 |.int i=>.int i
noncomputable def aF(g:Fl->Fl):aa->aa
 |[]=>[]
 |d::ds=>aS g d::aF g ds
end
theorem aX(g:Fl->Fl):∀ds:aa,aF g ds=ds.map (aS g)
 |[]=>rfl
 |d::ds=>by rw[aF,aX g ds];rfl
noncomputable def bE:Fl->Fl|.ow=>.al|f=>f
noncomputable def iy:Fl->Fl|.fz=>.al|f=>f
noncomputable def aW:Fl->Fl|.sc=>.sc|_=>.fz
noncomputable def He:Fl->Bool|.sc=>true|_=>false
mutual
noncomputable def bc(p:Fl->Bool):D->Bool
 |.tup ds=>aQ p ds
 |.lst f ds=>p f||aQ p ds
 |.cO f ks vs=>p f||aQ p vs
 |_=>false
noncomputable def aQ(p:Fl->Bool):aa->Bool
 |[]=>false
 |d::ds=>bc p d||aQ p ds
end
noncomputable def bZ:Fl->Bool|.al=>true|_=>false
noncomputable def d_:Fl->Bool|.ow=>true|_=>false
noncomputable def anyF:Fl->Bool:=λ_=>true
mutual
noncomputable def iU:D->D->Bool
 |.bV,.bV=>true
 |.bl a,.bl b=>a==b
 |.bl a,.int b=>(if a then 1 else 0)==b
 |.int a,.bl b=>a==(if b then 1 else 0)
 |.int a,.int b=>a==b
 |.tup a,.tup b=>e_ a b
 |.lst _ a,.lst _ b=>e_ a b
 |_,_=>false
noncomputable def e_:aa->aa->Bool
 |[],[]=>true
 |a::as,b::bs=>iU a b&&e_ as bs
 |_,_=>false
end
noncomputable def dA:Nat->D->Bool
 |_,.bV=>true
 |_,.bl _=>true
 |_,.int _=>true
 |n+1,.tup ds=>ds.all (dA n)
 |n+1,.lst _ ds=>ds.all (dA n)
 |_,_=>false
noncomputable abbrev O(α:Type):=Option (Except Nat α)
abbrev aw:=aa->O D
noncomputable def ok{α:Type}(a:α):O α:=some (.ok a)
noncomputable def bd{α β:Type}(x:O α)(f:α->O β):O β:=match x with
 |some (.ok a)=>f a
 |some (.error c)=>some (.error c)
 |none=>none
@[simp]theorem Tx{α:Type}{a:α}:((none:O α)=ok a)=False:=by simp[ok]
@[simp]theorem VT{α:Type}{a b:α}:(ok a=ok b)=(a=b):=by simp[ok]
@[simp]theorem XA{α:Type}{a:α}{c:Nat}:((some (.error c):O α)=ok a)=False:=by simp[ok]
@[simp]theorem Jt{α:Type}{p:Prop}[Decidable p]{a b:α}:((if p then ok a else none)=ok b)=(p/\a=b):=by
 by_cases h:p<;>simp[h]
@[simp]theorem Wi{α:Type}{p:Prop}[Decidable p]{a b:α}:((if p then none else ok a)=ok b)=(¬ p/\a=b):=by
 by_cases h:p<;>simp[h]
theorem nk{α:Type}{a:α}{P:Prop}(h:(none:Option α)=some a):P:=nomatch h
theorem aH{α β:Type}{x:O α}{f:α->O β}{b:β}(h:bd x f=ok b):∃a,x=ok a/\f a=ok b:=by
 unfold bd at h
 match x,h with
 |some (.ok a),h=>exact⟨a,rfl,h⟩
 |some (.error c),h=>cases h
 |none,h=>cases h
inductive IC where|add|sub|mul|fdiv|mod|pow|shl|shr|band
 deriving DecidableEq
inductive Bw where|eq|ne|lt|le|gt|ge|AK
 deriving DecidableEq
inductive Ty where|int|bool|list|tuple
 deriving DecidableEq
inductive Bf where|len|abs|vq|list1|tuple1|j4|all1|ip
 deriving DecidableEq
inductive Tg where|nm(i:Nat)|tp(is:aO)
 deriving DecidableEq
inductive IK where|jK|seq|cI(p:Nat)
 deriving DecidableEq
inductive GK where|i(z:Int)|t(zs:ae)
 deriving DecidableEq
inductive CE where
 |bV|bl (b:Bool)|int (i:Int)|glo (x:Str) (i:Int)|glt (x:Str) (zs:ae)
 |v (i:Nat)
 |bin (op:IC) (a b:CE)
 |neg (a:CE)|not (a:CE)|and (es:List CE)|or (es:List CE)
 |cmp (op:Bw) (a b:CE)
 |vo (a:CE) (t:Ty)
 |call (f:Nat) (es:List CE)
 |bf (f:Bf) (es:List CE)
 |ix (a b:CE)
 |km (a:CE)
 |tup (es:List CE)|lst (es:List CE)
 |cI (p:Nat) (es:List CE)
 |comp (n:Nat) (t:Tg) (caps:aO) (ik:IK) (es bO:List CE) (elt:CE)
abbrev aD:=List CE
inductive CI where|jK(a:CE)|seq(a:CE)|CA(p:Nat)(es:aD)
inductive CS where
 |asg (t:Tg) (e:CE)|par (i j:Nat) (a b:CE)|ret (e:CE)|rs (c:Nat)|ex (e:CE)
 |mut (p i:Nat) (es:aD)|app (i:Nat) (e:CE)
 |ifs (c:CE) (a b:List CS)
 |IE (c:CE) (b:List CS)
 |fr (t:Tg) (it:CI) (b:List CS)
abbrev ag:=List CS
noncomputable abbrev aZ:=List (aG)
noncomputable abbrev aT:=Nat->aw
noncomputable def big:Nat:=2 ^ 9000
def iQ(i j:Int):Bool:=decide (i.natAbs<2 ^ 64)||decide (j.natAbs<2 ^ 64)||(decide (i.natAbs<big)&&decide (j.natAbs<big))
def rR(j:Int):Bool:=decide (j≠0)&&decide (j.natAbs<big)
noncomputable def kY(i j:Int):Bool:=decide (0<=j)&&decide (j<=1000000)&&decide (i.natAbs<2 ^ 64)
noncomputable def eH:Nat:=1000000
theorem qk{α:Type}{c:Prop}[inst:Decidable c]{v d:α}(h:(if c then ok v else none)=ok d):c/\v=d:=by
 cases inst with
 |isTrue hc=>exact⟨hc,Except.ok.inj (aar h)⟩
 |isFalse hc=>cases h
def cQ:IC->D->D->O D
 |.add,.int i,.int j=>ok (.int (i+j))
 |.sub,.int i,.int j=>ok (.int (i - j))
 |.mul,.int i,.int j=>if iQ i j then ok (.int (i*j))else none
 |.fdiv,.int i,.int j=>if rR j then ok (.int (i.fdiv j))else none
 |.mod,.int i,.int j=>if j≠0 then ok (.int (i.fmod j))else none
 |.pow,.int i,.int j=>if kY i j then ok (.int (i ^ j.toNat))else none
 |.shl,.int i,.int j=>if kY i j then ok (.int (i*2 ^ j.toNat))else none
 |.shr,.int i,.int j=>if 0<=j then ok (.int (i / 2 ^ j.toNat))else none
 |.band,.int i,.int j=>if j=1 then ok (.int (i % 2))else none
 |_,_,_=>none
def inD(x:D):aa->Bool
 |[]=>false
 |y::ys=>iU y x||inD x ys
noncomputable def iS:D->Bool
 |.bV=>true|.bl _=>true|.int _=>true|_=>false
noncomputable def LP:D->Option (aa)
 |.tup ds=>some ds
 |.lst _ ds=>some ds
 |_=>none
def ez:Bw->D->D->O D
 |.eq,a,b=>if dA 40 a&&dA 40 b then ok (.bl (iU a b))else none
 |.ne,a,b=>if dA 40 a&&dA 40 b then ok (.bl (!iU a b))else none
 |.lt,.int i,.int j=>ok (.bl (decide (i<j)))
 |.le,.int i,.int j=>ok (.bl (decide (i<=j)))
 |.gt,.int i,.int j=>ok (.bl (decide (j<i)))
 |.ge,.int i,.int j=>ok (.bl (decide (j<=i)))
 |.AK,a,b=>match LP b with
  |some ds=>if iS a&&ds.all iS then ok (.bl (inD a ds))else none
  |none=>none
 |_,_,_=>none
noncomputable def eD:Ty->D->Bool
 |.int,.int _=>true|.int,.bl _=>true
 |.bool,.bl _=>true
 |.list,.lst _ _=>true
 |.tuple,.tup _=>true
 |_,_=>false
noncomputable def Bl(n:Nat)(i:Int):Option Nat:=if 0<=i then(if i<n then some i.toNat else none)else if -(n:Int)<=i then some (i+n).toNat else none
def v9(ds:aa)(i:Int):O D:=match(Bl ds.length i).bind λj=>ds[j]? with
 |some d=>ok (aS bE d)
 |none=>none
def vm:D->D->O D
 |.tup ds,.int i=>v9 ds i
 |.lst _ ds,.int i=>v9 ds i
 |_,_=>none
noncomputable def intsOf:aa->Option (ae)
 |[]=>some []
 |.int i::ds=>(intsOf ds).map (i :: ·)
 |_::_=>none
noncomputable def jt:aa->Option (List Bool)
 |[]=>some []
 |.bl i::ds=>(jt ds).map (i :: ·)
 |_::_=>none
theorem dS:∀{ds:aa} {ns:ae},intsOf ds=some ns->ds=ns.map D.int
 |[],ns,h=>by simp[intsOf]at h;subst h;rfl
 |d::ds,ns,h=>by
  cases d<;>simp[intsOf]at h;obtain⟨ms,h1,rfl⟩:=h;rw[dS h1];rfl
theorem v5:∀{ds:aa} {bs:List Bool},jt ds=some bs->ds=bs.map D.bl
 |[],bs,h=>by simp[jt]at h;subst h;rfl
 |d::ds,bs,h=>by
  cases d<;>simp[jt]at h;obtain⟨ms,h1,rfl⟩:=h;rw[v5 h1];rfl
theorem bx:∀ns:ae,intsOf (ns.map D.int)=some ns
 |[]=>rfl
 |n::ns=>by simp[intsOf,bx ns]
theorem mm:∀bs:List Bool,jt (bs.map D.bl)=some bs
 |[]=>rfl
 |b::bs=>by simp[jt,mm bs]
noncomputable def sortI(ns:ae):ae:=ns.mergeSort (λa b=>decide (a<=b))
def qV(ds:aa):O D:=match intsOf ds with
 |some ns=>if ns.length<64 then ok (.lst .ow ((sortI ns).map D.int))else none
 |none=>none
def pY:Bf->aw
 |.len,xs=>match xs with
  |[.tup ds]=>ok (.int ds.length)
  |[.lst _ ds]=>ok (.int ds.length)
  |_=>none
 |.abs,xs=>match xs with
  |[.int i]=>ok (.int (if i<0 then -i else i))
  |_=>none
 |.vq,xs=>match xs with
  |[.int i]=>ok (.int i)
  |[.bl b]=>ok (.int (if b then 1 else 0))
  |_=>none
 |.list1,xs=>match xs with
  |[.lst _ ds]=>ok (.lst .ow (aF bE ds))
  |[.tup ds]=>ok (.lst .ow (aF bE ds))
  |_=>none
 |.tuple1,xs=>match xs with
  |[.lst _ ds]=>ok (.tup (aF bE ds))
  |[.tup ds]=>ok (.tup (aF bE ds))
  |_=>none
 |.j4,xs=>match xs with
  |[.lst _ ds]=>(match intsOf ds with
   |some ns=>ok (.int ns.sum)
   |none=>none)
  |_=>none
 |.all1,xs=>match xs with
  |[.lst _ ds]=>(match jt ds with
   |some bs=>ok (.bl (bs.all id))
   |none=>none)
  |_=>none
 |.ip,xs=>match xs with
  |[.lst _ ds]=>qV ds
  |[.tup ds]=>qV ds
  |_=>none
noncomputable def i5(ns:ae):ae:=ns.foldl (λ(m:ae) (k:Int)=>if m.any (· == k)then m else m++[k]) []
def yW:D->O D
 |.tup ds=>(match intsOf ds with
  |some ns=>if ns.length<4000 then ok (.int (i5 ns).length)else none
  |none=>none)
 |_=>none
noncomputable def iZ:D->O Bool
 |.bl b=>ok b
 |_=>none
noncomputable def CL:Option (aG)->Option (aa)
 |some (some (.lst .ow ds))=>some ds
 |_=>none
theorem GO{o:Option (aG)}{ds:aa}(h:CL o=some ds):o=some (some (.lst .ow ds)):=by
 unfold CL at h;split at h<;>cases h;rfl
noncomputable def GZ:D->O D
 |.int i=>ok (.int (-i))
 |_=>none
def iP:aO->aa->aZ->O aZ
 |[],[],ρ=>ok ρ
 |i::is,d::ds,ρ=>if i<ρ.length then iP is ds (ρ.set i (some d))else none
 |_,_,_=>none
def bT:Tg->D->aZ->O aZ
 |.nm i,d,ρ=>if i<ρ.length then ok (ρ.set i (some d))else none
 |.tp is,.tup ds,ρ=>if aQ d_ ds then none else iP is ds ρ
 |_,_,_=>none
def m9:D->O (aa)
 |.lst _ ds=>ok (aF aW ds)
 |_=>none
def eL(Φ:aT):IK->aa->O (aa)
 |.cI p,xs=>bd (Φ p xs) m9
 |.jK,[.int n]=>if n<=eH /\ -eH<=n then ok ((List.range n.toNat).map λ(k:Nat)=>D.int (k:Int))else none
 |.seq,[.tup ds]=>ok (aF aW ds)
 |.seq,[.lst _ ds]=>ok (aF aW ds)
 |_,_=>none
def iV(bind:D->O aZ)(test:aZ->O Bool)(el:aZ->O D):aa->O (aa)
 |[]=>ok []
 |x::xs=>bd (bind x) λρ=>bd (test ρ) λb=>if b then bd (el ρ) λy=>bd (iV bind test el xs) λys=>ok (y::ys)else iV bind test el xs
def bw(n:Nat)(caps:aO)(ρ:aZ):aZ:=List.replicate n none++caps.map λi=>(ρ[i]?.getD none).map (aS aW)
def yC(o:Option (aG)):O D:=match o with
 |some (some d)=>ok (aS bE d)
 |_=>none
theorem B1{o:Option (aG)}{d:D}(h:yC o=ok d):∃d',o=some (some d')/\d=aS bE d':=by
 cases o with
 |none=>cases h
 |some z=>cases z with
  |none=>cases h
  |some z=>cases h;exact⟨z,rfl,rfl⟩
mutual
noncomputable def bz(Φ:aT):CE->aZ->O D
 |.bV,_=>ok .bV
 |.bl b,_=>ok (.bl b)
 |.int i,_=>ok (.int i)
 |.glo _ i,_=>ok (.int i)
 |.glt _ zs,_=>ok (.tup (zs.map D.int))
 |.v i,ρ=>yC ρ[i]?
 |.bin op a b,ρ=>bd (bz Φ a ρ) λx=>bd (bz Φ b ρ) λy=>cQ op x y
 |.neg a,ρ=>bd (bz Φ a ρ) GZ
 |.not a,ρ=>bd (bd (bz Φ a ρ) iZ) λb=>ok (.bl (!b))
 |.and es,ρ=>rP Φ es ρ
 |.or es,ρ=>AX Φ es ρ
 |.cmp op a b,ρ=>bd (bz Φ a ρ) λx=>bd (bz Φ b ρ) λy=>ez op x y
 |.vo a t,ρ=>bd (bz Φ a ρ) λx=>ok (.bl (eD t x))
 |.call f es,ρ=>bd (cf Φ es ρ) λxs=>bd (Φ f (aF aW xs)) λr=>ok (aS iy r)
 |.bf f es,ρ=>bd (cf Φ es ρ) λxs=>pY f xs
 |.ix a b,ρ=>bd (bz Φ a ρ) λx=>bd (bz Φ b ρ) λy=>vm x y
 |.km a,ρ=>bd (bz Φ a ρ) λx=>yW x
 |.cI p es,ρ=>bd (cf Φ es ρ) λxs=>Φ p xs
 |.tup es,ρ=>bd (cf Φ es ρ) λxs=>ok (.tup xs)
 |.lst es,ρ=>bd (cf Φ es ρ) λxs=>ok (.lst .ow xs)
 |.comp n t caps ik es bO elt,ρ=>bd (cf Φ es ρ) λxs=>bd (eL Φ ik xs) λitems =>
   bd (iV (λd=>bT t d (bw n caps ρ)) (λρ'=>iT Φ bO ρ') (λρ'=>bz Φ elt ρ') items) λds=>if ds.length<=eH then ok (.lst .ow (aF iy ds))else none
noncomputable def cf(Φ:aT):aD->aZ->O (aa)
 |[],_=>ok []
 |e::es,ρ=>bd (bz Φ e ρ) λx=>bd (cf Φ es ρ) λxs=>ok (x::xs)
noncomputable def iT(Φ:aT):aD->aZ->O Bool
 |[],_=>ok true
 |e::es,ρ=>bd (bd (bz Φ e ρ) iZ) λb=>if b then iT Φ es ρ else ok false
noncomputable def rP(Φ:aT):aD->aZ->O D
 |[],_=>none
 |e::es,ρ=>bd (bd (bz Φ e ρ) iZ) λc=>match es with
  |[]=>ok (.bl c)
  |_::_=>if c then rP Φ es ρ else ok (.bl false)
noncomputable def AX(Φ:aT):aD->aZ->O D
 |[],_=>none
 |e::es,ρ=>bd (bd (bz Φ e ρ) iZ) λc=>match es with
  |[]=>ok (.bl c)
  |_::_=>if c then ok (.bl true)else AX Φ es ρ
end
def xM(Φ:aT)(e:CE)(ρ:aZ):O Bool:=bd (bz Φ e ρ) iZ
inductive Fo where|nx|rt(d:D)|bk|ct
noncomputable def dq{α β:Type}(n:Nat)(step:α->O (α ⊕ β))(a:α):O β:=match n with
 |0=>none
 |n+1=>bd (step a) λr=>match r with
  |.inl a'=>dq n step a'
  |.inr b=>ok b
open Classical in
noncomputable def fO{α β:Type}(step:α->O (α ⊕ β))(a:α):O β :=
 if h:∃n,dq n step a≠none then dq (Classical.choose h) step a else none
theorem jk{α β:Type}(step:α->O (α ⊕ β)):∀(n m:Nat) (a:α),n<=m->dq n step a≠none->dq m step a=dq n step a
 |0,_,_,_,h=>absurd rfl h
 |n+1,0,_,hl,_=>by left
 |n+1,m+1,a,hl,h=>by
  unfold dq at h ⊢
  match hs:step a with
  |none=>rw[hs]at h;exact absurd rfl h
  |some (.error c)=>rfl
  |some (.ok (.inr b))=>rfl
  |some (.ok (.inl a')) =>
   rw[hs]at h;exact jk step n m a' (by left) h
theorem lL{α β:Type}{step:α->O (α ⊕ β)}{a:α}{n:Nat}{r:Except Nat β}(h:dq n step a=some r):fO step a=some r:=by
 have hx:∃n,dq n step a≠none:=⟨n,by rw[h];simp⟩
 unfold fO;rw[dif_pos hx];have hc:=Classical.choose_spec hx;rcases Nat.le_total n (Classical.choose hx)with hl|hl
 ·rw[jk step _ _ a hl (by rw[h];simp),h]
 ·rw[<- jk step _ _ a hl hc,h]
theorem lY{α β:Type}{step:α->O (α ⊕ β)}{a:α}{r:Except Nat β}(h:fO step a=some r):∃n,dq n step a=some r:=by
 unfold fO at h;split at h
 ·exact⟨_,h⟩
 ·cases h
theorem oz{α β:Type}{step:α->O (α ⊕ β)}{a a':α}(h:step a=ok (.inl a')):fO step a=fO step a':=by
 match hr:fO step a' with
 |some r =>
  obtain⟨n,hn⟩:=lY hr;refine lL (n:=n+1) ?_;unfold dq;rw[h];exact hn
 |none =>
  match hq:fO step a with
  |none=>rfl
  |some r =>
   obtain⟨n,hn⟩:=lY hq
   match n,hn with
   |n+1,hn =>
    unfold dq at hn;rw[h]at hn;rw[lL (n:=n) hn]at hr;cases hr
theorem ic{α β:Type}{step:α->O (α ⊕ β)}{a:α}{b:β}(h:step a=ok (.inr b)):fO step a=ok b :=
 lL (n:=1) (by unfold dq;rw[h];rfl)
mutual
noncomputable def i7:CE->aO
 |.v i=>[i]
 |.bin _ a b=>i7 a++i7 b
 |.neg a=>i7 a
 |.not a=>i7 a
 |.and es=>dF es
 |.or es=>dF es
 |.cmp _ a b=>i7 a++i7 b
 |.vo a _=>i7 a
 |.call _ es=>dF es
 |.bf _ es=>dF es
 |.ix a b=>i7 a++i7 b
 |.km a=>i7 a
 |.tup es=>dF es
 |.lst es=>dF es
 |.cI _ es=>dF es
 |.comp _ _ caps _ es _ _=>caps++dF es
 |_=>[]
noncomputable def dF:aD->aO
 |[]=>[]
 |e::es=>i7 e++dF es
end
def i4(is:aO)(ρ:aZ):aZ:=ρ.mapIdx λi d=>if i∈is then d.map (aS aW)else d
def keep(e:CE)(d:D)(ρ:aZ):D×aZ:=if bc bZ d then(aS aW d,i4 (i7 e) ρ)else(d,ρ)
def kr(Φ:aT)(e:CE)(ρ:aZ):O (D×aZ):=match e with
 |.v i=>match ρ[i]? with
  |some (some d)=>if bc d_ d then ok (d,ρ.set i none)else ok (d,ρ)
  |_=>none
 |_=>bd (bz Φ e ρ) λd=>ok (keep e d ρ)
def cc(Φ:aT)(it:CI)(ρ:aZ):O (aa×aZ):=match it with
 |.CA p es=>bd (cf Φ es ρ) λxs=>bd (Φ p xs) λd=>bd (m9 d) λitems=>ok (items,if aQ bZ xs then i4 (dF es) ρ else ρ)
 |.jK a=>bd (bz Φ a ρ) λx=>match x with
  |.int n=>if n<=eH /\ -eH<=n then ok ((List.range n.toNat).map λ(k:Nat)=>D.int (k:Int),ρ)else none
  |_=>none
 |.seq a=>bd (bz Φ a ρ) λx=>match x with
  |.tup ds=>ok (aF aW ds,if bc bZ x then i4 (i7 a) ρ else ρ)
  |.lst f ds=>ok (aF aW ds,if bc bZ x then i4 (i7 a) ρ else ρ)
  |_=>none
def pb(es:aD)(xs:aa)(ρ:aZ):aa×aZ:=if aQ bZ xs then(aF aW xs,i4 (dF es) ρ)else(xs,ρ)
noncomputable def xh(Φ:aT)(p i:Nat)(r:aa×aZ):O (Fo×aZ):=match r.2[i]? with
 |some (some d)=>bd (Φ p (d::r.1)) λd'=>ok (.nx,r.2.set i (some d'))
 |_=>none
def dJ(bind:D->aZ->O aZ)(body:aZ->O (Fo×aZ)):aa->aZ->O (Fo×aZ)
 |[],ρ=>ok (.nx,ρ)
 |d::ds,ρ=>bd (bind d ρ) λρ1=>bd (body ρ1) λr=>match r with
  | (.nx,ρ2)=>dJ bind body ds ρ2
  | (.ct,ρ2)=>dJ bind body ds ρ2
  | (.bk,ρ2)=>ok (.nx,ρ2)
  | (.rt d,ρ2)=>ok (.rt d,ρ2)
mutual
noncomputable def qG(Φ:aT):CS->aZ->O (Fo×aZ)
 |.asg t e,ρ=>bd (kr Φ e ρ) λr=>bd (bT t r.1 r.2) λρ'=>ok (.nx,ρ')
 |.par i j a b,ρ=>bd (bz Φ a ρ) λx=>bd (bz Φ b ρ) λy=>if bc anyF x=false/\bc anyF y=false/\i<ρ.length/\j<ρ.length then ok (.nx,(ρ.set i (some x)).set j (some y))else none
 |.ret e,ρ=>bd (kr Φ e ρ) λr=>ok (.rt r.1,r.2)
 |.rs c,_=>some (.error c)
 |.ex e,ρ=>bd (bz Φ e ρ) λ_=>ok (.nx,ρ)
 |.mut p i es,ρ=>bd (cf Φ es ρ) λxs=>xh Φ p i (pb es xs ρ)
 |.app i e,ρ=>bd (kr Φ e ρ) λr=>match CL r.2[i]? with
  |some ds=>if ds.length<eH then ok (.nx,r.2.set i (some (.lst .ow (ds++[r.1]))))else none
  |none=>none
 |.ifs c a b,ρ=>bd (xM Φ c ρ) λk=>if k then bI Φ a ρ else bI Φ b ρ
 |.IE c b,ρ=>fO (λρ=>bd (xM Φ c ρ) λk=>if k then bd (bI Φ b ρ) λr=>match r with
   | (.nx,ρ')=>ok (.inl ρ')
   | (.ct,ρ')=>ok (.inl ρ')
   | (.bk,ρ')=>ok (.inr (.nx,ρ'))
   | (.rt d,ρ')=>ok (.inr (.rt d,ρ'))
  else ok (.inr (.nx,ρ))) ρ
 |.fr t it b,ρ=>bd (cc Φ it ρ) λr=>dJ (λd ρ=>bT t d ρ) (λρ=>bI Φ b ρ) r.1 r.2
noncomputable def bI(Φ:aT):ag->aZ->O (Fo×aZ)
 |[],ρ=>ok (.nx,ρ)
 |s::ss,ρ=>bd (qG Φ s ρ) λr=>match r with
  | (.nx,ρ')=>bI Φ ss ρ'
  |r=>ok r
end
noncomputable def sI(Φ:aT)(n:Nat)(b:ag)(ds:aa):O D:=bd (bI Φ b (ds.map some++List.replicate (n - ds.length) none)) λr=>match r.1 with
 |.nx=>ok .bV
 |.rt d=>ok d
 |_=>none
noncomputable def FC:aw
 |[.lst _ a,.lst _ b]=>ok (.lst .ow (List.zipWith (λx y=>.tup [x,y]) a b))
 |_=>none
end DI
end
section
namespace DI
open PySem PySem.Spec PyProof.Rows L2
noncomputable abbrev br:=aO
noncomputable abbrev St:=L2.St
noncomputable abbrev mV:=Addr->af->Prop
inductive Nd where|l(xs:af)|d(cs:aA)(as:aR)(xs:af)(ep:Nat)
abbrev gj:=br->Addr->Nd->Fl->Prop
structure dW(T:mV)(as:aR)(cs:aA):Prop where
 len:as.length=cs.length
 tup:∀(j:Nat) (a:Addr) (c:ae),as[j]?=some a->cs[j]?=some c->T a (c.map V.int)
variable {T T':mV}
theorem dW.imp{as:aR}{cs:aA}(h:dW T as cs)(hT:∀p xs,T p xs->T' p xs):dW T' as cs:=⟨h.len,λj a c h1 h2=>hT _ _ (h.tup j a c h1 h2)⟩
mutual
inductive Rep(T:mV)(N:gj):br->V->D->Prop where
 |bV {q:br}:Rep T N q .bV .bV
 |bl {q:br} (b:Bool):Rep T N q (.bl b) (.bl b)
 |int {q:br} (i:Int):Rep T N q (.int i) (.int i)
 |tup {q:br} {p:Addr} {xs:af} {ds:aa} (h:T p xs) (r:aI T N q 0 xs ds):Rep T N q (.ref p) (.tup ds)
 |lst {q:br} {p:Addr} {xs:af} {f:Fl} {ds:aa} (h:N q p (.l xs) f) (r:aI T N q 0 xs ds):Rep T N q (.ref p) (.lst f ds)
 |cO {q:br} {p:Addr} {cs:aA} {as:aR} {xs:af} {ep:Nat} {f:Fl} {ds:aa} (h:N q p (.d cs as xs ep) f) (k:dW T as cs) (r:aI T N q 0 xs ds):Rep T N q (.ref p) (.cO f cs ds)
inductive aI(T:mV)(N:gj):br->Nat->af->aa->Prop where
 |nil {q:br} {n:Nat}:aI T N q n [] []
 |cons {q:br} {n:Nat} {v:V} {d:D} {vs:af} {ds:aa} (h:Rep T N (n::q) v d) (t:aI T N q (n+1) vs ds):aI T N q n (v::vs) (d::ds)
end
variable {ds ds' items:aa}
theorem Rep.FG{N:gj}{q:br}{v:V}(h:Rep T N q v (.tup ds)):∃p xs,v=.ref p/\T p xs/\aI T N q 0 xs ds:=by
 cases h with
 |tup a b=>exact⟨_,_,rfl,a,b⟩
theorem Rep.wA{N:gj}{q:br}{v:V}{f:Fl}(h:Rep T N q v (.lst f ds)):∃p xs,v=.ref p/\N q p (.l xs) f/\aI T N q 0 xs ds:=by
 cases h with
 |lst a b=>exact⟨_,_,rfl,a,b⟩
mutual
theorem tE:∀d:D,bc (λ_=>false) d=false
 |.bV=>rfl
 |.bl _=>rfl
 |.int _=>rfl
 |.tup ds=>g_ ds
 |.lst _ ds=>g_ ds
 |.cO _ _ ds=>g_ ds
theorem g_:∀ds:aa,aQ (λ_=>false) ds=false
 |[]=>rfl
 |d::ds=>by show(bc _ d||aQ _ ds)=false;rw[tE d,g_ ds];rfl
end
theorem CP{a b:Bool}(h:(a||b)=false):a=false/\b=false:=by cases a<;>cases b<;>first|exact⟨rfl,rfl⟩|cases h
variable {k' q':br}{vs xs:af}
section
variable {T T':mV}{N N':gj}{g:Fl->Fl}{P:Fl->Bool}{C:br->br->Prop}{I:Nat->Nat->Prop}
mutual
theorem Rep.gen(hT:∀p xs,T p xs->T' p xs)(h0:I 0 0)(hI:∀n n',I n n'->I (n+1) (n'+1))(hC:∀k k' n n',C k k'->I n n'->C (n::k) (n'::k'))(hN:∀k k' p xs f,C k k'->P f=false->N k p xs f->N' k' p xs (g f)):
  ∀{k:br} {v:V} {d:D},Rep T N k v d->∀{k':br},C k k'->bc P d=false->Rep T' N' k' v (aS g d)
 |_,_,_,.bV,_,_,_=>.bV
 |_,_,_,.bl b,_,_,_=>.bl b
 |_,_,_,.int i,_,_,_=>.int i
 |_,_,_,.tup h r,_,c,e=>.tup (hT _ _ h) (aI.gen hT h0 hI hC hN r c h0 e)
 |_,_,_,.lst h r,_,c,e=>.lst (hN _ _ _ _ _ c (CP e).1 h) (aI.gen hT h0 hI hC hN r c h0 (CP e).2)
 |_,_,_,.cO h k r,_,c,e=>.cO (hN _ _ _ _ _ c (CP e).1 h) (k.imp hT) (aI.gen hT h0 hI hC hN r c h0 (CP e).2)
theorem aI.gen(hT:∀p xs,T p xs->T' p xs)(h0:I 0 0)(hI:∀n n',I n n'->I (n+1) (n'+1))(hC:∀k k' n n',C k k'->I n n'->C (n::k) (n'::k'))(hN:∀k k' p xs f,C k k'->P f=false->N k p xs f->N' k' p xs (g f)):
  ∀{k:br} {n:Nat} {vs:af} {ds:aa},aI T N k n vs ds->∀{k':br} {n':Nat},C k k'->I n n'->aQ P ds=false->aI T' N' k' n' vs (aF g ds)
 |_,_,_,_,.nil,_,_,_,_,_=>.nil
 |_,_,_,_,.cons h t,_,_,c,i,e=>.cons (Rep.gen hT h0 hI hC hN h (hC _ _ _ _ c i) (CP e).1) (aI.gen hT h0 hI hC hN t c (hI _ _ i) (CP e).2)
end
theorem Rep.map{q:br}(hT:∀p xs,T p xs->T' p xs)(hN:∀c p xs f,N (c++q) p xs f->N' (c++q') p xs (g f)){k:br}{v:V}{d:D}(h:Rep T N k v d)(c:br)(e:k=c++q):Rep T' N' (c++q') v (aS g d) :=
 Rep.gen (P:=λ_=>false) (C:=λk k'=>∃c,k=c++q/\k'=c++q') (I:=λn n'=>n=n') hT rfl (λ_ _ e=>by rw[e]) (λ_ _ n _ ⟨c,e1,e2⟩ e=>⟨n::c,by rw[e1];rfl,by rw[e2,<- e];rfl⟩) (λ_ _ p xs f ⟨c,e1,e2⟩ _ h=>by subst e1;subst e2;exact hN c p xs f h) h ⟨c,e,rfl⟩ (tE d)
theorem aI.map{q:br}(hT:∀p xs,T p xs->T' p xs)(hN:∀c p xs f,N (c++q) p xs f->N' (c++q') p xs (g f)){k:br}{n:Nat}(h:aI T N k n vs ds)(c:br)(e:k=c++q):aI T' N' (c++q') n vs (aF g ds) :=
 aI.gen (P:=λ_=>false) (C:=λk k'=>∃c,k=c++q/\k'=c++q') (I:=λn n'=>n=n') hT rfl (λ_ _ e=>by rw[e]) (λ_ _ n _ ⟨c,e1,e2⟩ e=>⟨n::c,by rw[e1];rfl,by rw[e2,<- e];rfl⟩) (λ_ _ p xs f ⟨c,e1,e2⟩ _ h=>by subst e1;subst e2;exact hN c p xs f h) h ⟨c,e,rfl⟩ rfl (g_ ds)
theorem Rep.j6(hT:∀p xs,T p xs->T' p xs)(hN:∀k k' p xs f,N k p xs f->N' k' p xs (g f)){k:br}{v:V}{d:D}(h:Rep T N k v d)(k':br):Rep T' N' k' v (aS g d) :=
 Rep.gen (P:=λ_=>false) (C:=λ_ _=>True) (I:=λ_ _=>True) hT trivial (λ_ _ e=>e) (λ_ _ _ _ e _=>e) (λk k' p xs f _ _ h=>hN k k' p xs f h) h trivial (tE d)
theorem aI.j6(hT:∀p xs,T p xs->T' p xs)(hN:∀k k' p xs f,N k p xs f->N' k' p xs (g f)){k:br}{n:Nat}(h:aI T N k n vs ds)(k':br)(n':Nat):aI T' N' k' n' vs (aF g ds) :=
 aI.gen (P:=λ_=>false) (C:=λ_ _=>True) (I:=λ_ _=>True) hT trivial (λ_ _ e=>e) (λ_ _ _ _ e _=>e) (λk k' p xs f _ _ h=>hN k k' p xs f h) h trivial trivial (g_ ds)
end
mutual
theorem fG:∀d:D,aS id d=d
 |.bV=>rfl
 |.bl _=>rfl
 |.int _=>rfl
 |.tup ds=>by rw[aS,fS ds]
 |.lst f ds=>by rw[aS,fS ds];rfl
 |.cO f ks vs=>by rw[aS,fS vs];rfl
theorem fS:∀ds:aa,aF id ds=ds
 |[]=>rfl
 |d::ds=>by rw[aF,fG d,fS ds]
end
section
variable {T T':mV}{N N':gj}
theorem Rep.imp{q:br}(hT:∀p xs,T p xs->T' p xs)(hN:∀c p xs f,N (c++q) p xs f->N' (c++q') p xs f){v:V}{d:D}(h:Rep T N q v d):Rep T' N' q' v d:=by
 have:=Rep.map (g:=id) hT hN h [] rfl;rw[fG]at this;exact this
theorem aI.imp{q:br}{n:Nat}(hT:∀p xs,T p xs->T' p xs)(hN:∀c p xs f,N (c++q) p xs f->N' (c++q') p xs f)(h:aI T N q n vs ds):aI T' N' q' n vs ds:=by
 have:=aI.map (g:=id) hT hN h [] rfl;rw[fS]at this;exact this
theorem aI.length:∀{k:br} {n:Nat} {vs:af} {ds:aa},aI T N k n vs ds->vs.length=ds.length
 |_,_,_,_,.nil=>rfl
 |_,_,_,_,.cons _ t=>by simp[aI.length t]
theorem aI.get:∀{k:br} {n j:Nat} {vs:af} {ds:aa} {d:D},aI T N k n vs ds->ds[j]?=some d->∃v,vs[j]?=some v/\Rep T N ((n+j)::k) v d
 |_,_,_,_,_,_,.nil,e=>by simp at e
 |_,_,0,_,_,_,.cons h t,e=>by simp at e;subst e;exact⟨_,rfl,h⟩
 |_,n,j+1,_,_,_,.cons h t,e=>by
  obtain⟨v,h1,h2⟩:=aI.get (j:=j) t (by simpa using e);refine⟨v,by simpa using h1,?_⟩;have:n+1+j=n+(j+1):=by left
  rw[<- this];exact h2
theorem aI.tH:∀{k:br} {n j:Nat} {vs:af} {ds:aa} {v:V},aI T N k n vs ds->vs[j]?=some v->∃d,ds[j]?=some d/\Rep T N ((n+j)::k) v d
 |_,_,_,_,_,_,.nil,e=>by simp at e
 |_,_,0,_,_,_,.cons h t,e=>by simp at e;subst e;exact⟨_,rfl,h⟩
 |_,n,j+1,_,_,_,.cons h t,e=>by
  obtain⟨v,h1,h2⟩:=aI.tH (j:=j) t (by simpa using e);refine⟨v,by simpa using h1,?_⟩;have:n+1+j=n+(j+1):=by left
  rw[<- this];exact h2
end
def KL(K:au)(a:Addr)(xs:af):Prop :=
 ∃(o:Obj) (aK:aP) (n:Nat),K.lookup a=some o/\o.cls=.type "list" /\ o.dict=none/\o.data=.seq aK n/\aK.size<=sizeLine/\Vals xs aK.toList
def DO(p:Addr)(cs:aA)(as:aR)(xs:af)(ep:Nat)(h:Heap):Prop :=
 ∃(zs:List (ae×Addr×Value)) (o:Obj) (es:Array DictEntry),zs.map (·.1)=cs/\zs.map (·.2.1)=as/\Vals xs (zs.map (·.2.2))/\h.get? p=some o/\o.ExactDict/\o.data=.dict es ep /\
  es.toList=zs.map (λz=>⟨reduceHash (Builtin.Tuple.tupleHashOf (z.1.map hashInt)),.ref z.2.1,z.2.2⟩)/\cs.Nodup/\cs.length<=sizeLine/\(p==sysModules)=false
noncomputable abbrev fZ(H:Hp)(p:Addr)(n:Nd):Prop:=match n with
 |.l xs=>H p=some (.lst xs)
 |.d cs as xs ep=>H p=some (.ext (DO p cs as xs ep))
variable {H H' H1 H2:Hp}
theorem fZ.ne{p:Addr}{n:Nd}(h:fZ H p n):H p≠none:=by
 cases n with
 |l xs=>intro z;rw[show H p=some (.lst xs) from h]at z;cases z
 |d cs as xs ep=>intro z;rw[show H p=some (.ext (DO p cs as xs ep)) from h]at z;cases z
theorem fZ.at{p:Addr}{n:Nd}(e:∀o,H p=some o->H' p=some o)(h:fZ H p n):fZ H' p n:=by
 cases n with
 |l xs=>exact e _ h
 |d cs as xs ep=>exact e _ h
theorem fZ.same{p:Addr}{n:Nd}(e:aM H H')(h:fZ H p n):fZ H' p n:=h.at (e p)
theorem fZ.some{H:Hp}{p:Addr}{n:Nd}(h:fZ H p n):∃o,H p=some o/\(∀xs,o≠.tup xs)/\(∀a u,o≠.i4 a u):=by
 cases n with
 |l xs=>exact⟨_,h,λ_ z=>(nomatch z),λ_ _ z=>(nomatch z)⟩
 |d cs as xs ep=>exact⟨_,h,λ_ z=>(nomatch z),λ_ _ z=>(nomatch z)⟩
def nd(K:au)(R A:ak)(τ:Addr->Option br)(H:Hp):gj:=λq p n f=>match f with
 |.ow=>fZ H p n/\τ p=some q
 |.fz=>fZ H p n/\R p
 |.al=>fZ H p n/\A p
 |.sc=>match n with
  |.l xs=>(∃o,H p=some (.i4 o (.lst xs)))\/KL K p xs
  |.d _ _ _ _=>False
variable {A F G R R' R1:Addr->Prop}{K:au}{τ τ':Addr->Option br}
theorem nd.IW{q:br}{p:Addr}{n:Nd}(h:nd K R A τ H q p n .sc):∃xs,n=.l xs/\((∃o,H p=some (.i4 o (.lst xs)))\/KL K p xs):=by
 cases n with
 |l xs=>exact⟨xs,rfl,h⟩
 |d _ _ _ _=>exact h.elim
theorem nd.sq{q:br}{p:Addr}{f:Fl}(h:nd K R A τ H q p (.l xs) f):dH K H p xs:=by
 cases f with
 |ow=>exact dH.of h.1
 |fz=>exact dH.of h.1
 |al=>exact dH.of h.1
 |sc=>exact h.elim (λh=>.inl (.inr h)) .inr
theorem nd.lst{K:au}{R A:ak}{τ:Addr->Option br}{H:Hp}{q:br}{p:Addr}{xs:af}{f:Fl}(h:nd K R A τ H q p (.l xs) f)(hf:He f=false):H p=some (.lst xs):=by
 cases f with
 |ow=>exact h.1
 |fz=>exact h.1
 |al=>exact h.1
 |sc=>cases hf
variable {ep k1 k2 n1 t':Nat}
theorem nd.dat{q:br}{p:Addr}{cs:aA}{as:aR}{f:Fl}(h:nd K R A τ H q p (.d cs as xs ep) f):H p=some (.ext (DO p cs as xs ep)):=by
 cases f with
 |ow=>exact h.1
 |fz=>exact h.1
 |al=>exact h.1
 |sc=>exact h.elim
theorem Rd.same{a:Addr}{u:HO}(e:aM H H')(h:Rd H a u):Rd H' a u:=h.elim (λh=>.inl (e _ _ h)) λ⟨o,h⟩=>.inr ⟨o,e _ _ h⟩
theorem aY.same{K:au}{H H':Hp}{a:Addr}{xs:af}(e:aM H H')(h:aY K H a xs):aY K H' a xs:=h.elim (λh=>.inl (Rd.same e h)) .inr
theorem nd.same{K:au}{R A:ak}{τ:Addr->Option br}{H H':Hp}{q:br}{p:Addr}{n:Nd}{f:Fl}(e:aM H H')(h:nd K R A τ H q p n f):nd K R A τ H' q p n f:=by
 cases f with
 |ow=>exact⟨h.1.same e,h.2⟩
 |fz=>exact⟨h.1.same e,h.2⟩
 |al=>exact⟨h.1.same e,h.2⟩
 |sc=>cases n with
  |l xs=>exact h.elim (λ⟨o,h⟩=>.inl ⟨o,e _ _ h⟩) .inr
  |d _ _ _ _=>exact h.elim
theorem Rd.there{a:Addr}{u:HO}(h:Rd H a u):H a≠none:=by
 rcases h with h|⟨o,h⟩<;>(rw[h];simp)
theorem aM.ne(e:aM H H'){a:Addr}(h:H a≠none):H' a≠none:=by
 cases q:H a with
 |none=>exact absurd q h
 |some o=>rw[e a o q];simp
structure SI(X:Cx)(F R:ak)(τ:Addr->Option br)(ρ:aZ)(σ:St)(H:Hp):Prop where
 len:ρ.length=σ.length
 rep:∀(i:Nat) (d:D),ρ[i]?=some (some d)->∃v,σ[i]?=some (some v)/\Rep (aY X.K H) (nd X.K R (λ_=>False) τ H) [i] v d
 rt:∀p,R p->τ p=none
 rh:∀p,R p->H p≠none
 rf:∀p,R p->F p\/X.H₀ p=none
 th:∀p q,τ p=some q->H p≠none
 t0:∀p q,τ p=some q->X.H₀ p=none
 same:aM X.H₀ H
variable {X:Cx}{ρ:aZ}{σ:L2.St}
theorem SI.go(S:SI X F R τ ρ σ H)(e:aM H H'):SI X F R τ ρ σ H' :=
 ⟨S.len,λi d h=>let ⟨v,h1,h2⟩:=S.rep i d h;⟨v,h1,h2.imp (λ_ _ h=>aY.same e h) λ_ _ _ _ h=>nd.same e h⟩,S.rt,λp h=>aM.ne e (S.rh p h),S.rf,λp q h=>aM.ne e (S.th p q h),S.t0,S.same.trans e⟩
def kg(G:ak)(τ:Addr->Option br)(fv:aO)(p:Addr):Prop:=G p/\∀c i,τ p=some (c++[i])->i∈fv
variable {caps fv fv':aO}
theorem kg.mono{p:Addr}(h:kg G τ fv p)(hs:∀i∈fv,i∈fv'):kg G τ fv' p:=⟨h.1,λc i e=>hs i (h.2 c i e)⟩
def gP(X:Cx)(F:ak)(p:Addr):Prop:=F p\/X.H₀ p=none
def cx(K:au)(G R:ak)(τ:Addr->Option br)(fv:aO)(H H':Hp)(v:V)(d:D):Prop :=
 ∃τt:Addr->Option br,(∀p q,τt p=some q->H p=none)/\Rep (aY K H') (nd K R (kg G τ fv) τt H') [] v d
def cF(K:au)(G R:ak)(τ:Addr->Option br)(fv:aO)(H H':Hp)(vs:af)(ds:aa):Prop :=
 ∃τt:Addr->Option br,(∀p q,τt p=some q->H p=none)/\aI (aY K H') (nd K R (kg G τ fv) τt H') [] 0 vs ds
section
variable {K:au}{G R:ak}{τ:Addr->Option br}{fv fv':aO}{H H1 H2:Hp}{v:V}{d:D}{vs:af}{ds:aa}
theorem cx.go(h:cx K G R τ fv H H1 v d)(e:aM H1 H2):cx K G R τ fv H H2 v d :=
 let ⟨τt,h1,h2⟩:=h;⟨τt,h1,h2.imp (λ_ _ h=>aY.same e h) λ_ _ _ _ h=>nd.same e h⟩
theorem nd.mono{A':Addr->Prop}{τ:Addr->Option br}{q:br}{p:Addr}{xs:Nd}{f:Fl}(h:nd K R A τ H q p xs f)(hR:R p->R' p)(hA:A p->A' p)(ht:τ p=some q->τ' p=some q'):nd K R' A' τ' H q' p xs f:=by
 cases f with
 |ow=>exact⟨h.1,ht h.2⟩
 |fz=>exact⟨h.1,hR h.2⟩
 |al=>exact⟨h.1,hA h.2⟩
 |sc=>exact h
theorem cx.mono(h:cx K G R τ fv H H1 v d)(hs:∀i∈fv,i∈fv'):cx K G R τ fv' H H1 v d :=
 let ⟨τt,h1,h2⟩:=h;⟨τt,h1,h2.imp (λ_ _ h=>h) λ_ _ _ _ h=>h.mono id (λh=>h.mono hs) id⟩
theorem cF.mono(h:cF K G R τ fv H H1 vs ds)(hs:∀i∈fv,i∈fv'):cF K G R τ fv' H H1 vs ds :=
 let ⟨τt,h1,h2⟩:=h;⟨τt,h1,h2.imp (λ_ _ h=>h) λ_ _ _ _ h=>h.mono id (λh=>h.mono hs) id⟩
theorem cx.old{H0:Hp}(h:cx K G R τ fv H H1 v d)(e:aM H0 H):cx K G R τ fv H0 H1 v d :=
 let ⟨τt,h1,h2⟩:=h;⟨τt,λp q z=>e.free (h1 p q z),h2⟩
theorem cx.int{i:Int}:cx K G R τ fv H H1 (.int i) (.int i):=⟨λ_=>none,λ_ _ h=>by simp at h,.int i⟩
theorem cx.bl{b:Bool}:cx K G R τ fv H H1 (.bl b) (.bl b):=⟨λ_=>none,λ_ _ h=>by simp at h,.bl b⟩
theorem cx.bV:cx K G R τ fv H H1 .bV .bV:=⟨λ_=>none,λ_ _ h=>by simp at h,.bV⟩
theorem cx.isInt{i:Int}(h:cx K G R τ fv H H1 v (.int i)):v=.int i:=by obtain⟨_,_,h⟩:=h;cases h;rfl
theorem cx.AI{i:Bool}(h:cx K G R τ fv H H1 v (.bl i)):v=.bl i:=by obtain⟨_,_,h⟩:=h;cases h;rfl
def sE:br->br
 |[]=>[]
 |[n]=>[n+1]
 |a::b::r=>a::sE (b::r)
theorem uK(c:br)(n:Nat):sE (c++[n])=c++[n+1]:=by
 induction c with
 |nil=>rfl
 |cons a c ih =>
  cases c with
  |nil=>rfl
  |cons b c=>show a::sE (b::c++[n])=_;rw[ih];rfl
theorem aI.shift{T:mV}{N N':gj}(hN:∀c n p xs f,N (c++[n]) p xs f->N' (c++[n+1]) p xs f):∀{n:Nat} {vs:af} {ds:aa},aI T N [] n vs ds->aI T N' [] (n+1) vs ds
 |_,_,_,.nil=>.nil
 |n,_,_,.cons h t=>.cons (h.imp (q:=[n]) (q':=[n+1]) (λ_ _ h=>h) λc p xs f h=>hN c n p xs f h) (aI.shift hN t)
theorem cF.nil:cF K G R τ fv H H1 [] []:=⟨λ_=>none,λ_ _ h=>by simp at h,.nil⟩
open Classical in
theorem cF.cons(e1:aM H H1)(e2:aM H1 H2)(h:cx K G R τ fv H H1 v d)(t:cF K G R τ fv H1 H2 vs ds):cF K G R τ fv H H2 (v::vs) (d::ds):=by
 obtain⟨τ1,f1,h1⟩:=h;obtain⟨τ2,f2,h2⟩:=t;refine⟨λp=>if H1 p=none then(τ2 p).map sE else(τ1 p).map (· ++ [0]),λp q hq=>?_,.cons (h1.imp (q':=[0]) (λ_ _ h=>aY.same e2 h) λc p xs f h=>?_) (aI.shift (λc n p xs f h=>?_) h2)⟩
 ·by_cases hp:H1 p=none
  ·exact e1.free hp
  ·simp only[hp,if_false]at hq;cases q1:τ1 p with
   |none=>rw[q1]at hq;simp at hq
   |some k=>exact f1 p k q1
 ·have h':nd K R (kg G τ fv) τ1 H2 (c++[]) p xs f:=nd.same e2 h;cases f with
  |ow =>
   have hp:H1 p≠none:=h.1.ne;refine⟨h'.1,?_⟩;simp only[hp,if_false];rw[h.2];simp
  |fz=>exact h'
  |al=>exact h'
  |sc=>exact h'
 ·cases f with
  |ow =>
   have hp:H1 p=none:=f2 p _ h.2;refine⟨h.1,?_⟩;simp only[hp,if_true];rw[h.2];simp[uK]
  |fz=>exact h
  |al=>exact h
  |sc=>exact h
end
def tD(X:Cx)(F:ak)(Φ:aT)(c:CE):TE:=λσ H Q=>∃R τ ρ d,SI X F R τ ρ σ H/\bz Φ c ρ=ok d/\∀v H',aM H H'->cx X.K (gP X F) R τ (i7 c) H H' v d->Q v H'
def uo(X:Cx)(F:ak)(Φ:aT)(cs:aD):TA:=λσ H Q=>∃R τ ρ ds,SI X F R τ ρ σ H/\cf Φ cs ρ=ok ds/\∀vs H',aM H H'->cF X.K (gP X F) R τ (dF cs) H H' vs ds->Q vs H'
def gW(X:Cx)(F:ak)(Φ:aT)(c:CE):TT:=λσ H Q=>∃R τ ρ b,SI X F R τ ρ σ H/\xM Φ c ρ=ok b/\∀H',aM H H'->Q b H'
theorem PE.imp{e:Expr}{t t':TE}(h:PE X e t)(hi:∀σ H Q,t' σ H Q->t σ H Q):PE X e t':=λpins s σ H Q I hw=>h pins s σ H Q I (hi σ H Q hw)
theorem PT.imp{e:Expr}{t t':TT}(h:PT X e t)(hi:∀σ H Q,t' σ H Q->t σ H Q):PT X e t':=λpins s σ H Q I hw=>h pins s σ H Q I (hi σ H Q hw)
theorem PW.imp{e:Expr}{t t':TT}(h:PW X e t)(hi:∀σ H Q,t' σ H Q->t σ H Q):PW X e t':=λwh pins s σ H Q I hw=>h wh pins s σ H Q I (hi σ H Q hw)
theorem PA.imp{es:aC}{t t':TA}(h:PA X es t)(hi:∀σ H Q,t' σ H Q->t σ H Q):PA X es t':=λpos pins s σ H Q I hw=>h pos pins s σ H Q I (hi σ H Q hw)
variable {st:Stmt}
theorem PS.imp{t t':TS}(h:PS X st t)(hi:∀D σ H,t' D σ H->t D σ H):PS X st t':=λpins s σ H D I hw=>h pins s σ H D I (hi D σ H hw)
theorem iY.imp{st:ba}{t t':TS}(h:iY X st t)(hi:∀D σ H,t' D σ H->t D σ H):iY X st t':=λpins s σ H D I hw=>h pins s σ H D I (hi D σ H hw)
theorem pK:∀(as bs:aa),e_ as bs=true ↔ as.length=bs.length/\∀(j:Nat) (a b:D),as[j]?=some a->bs[j]?=some b->iU a b=true
 |[],[]=>by simp[e_]
 |[],b::bs=>by simp[e_]
 |a::as,[]=>by simp[e_]
 |a::as,b::bs=>by
  rw[e_,Bool.and_eq_true,pK as bs];constructor
  ·rintro ⟨h1,h2,h3⟩;refine⟨by simp[h2],λj x y hx hy=>?_⟩;cases j with
   |zero=>simp at hx hy;subst hx hy;exact h1
   |succ j=>exact h3 j x y (by simpa using hx) (by simpa using hy)
  ·rintro ⟨h2,h3⟩;exact⟨h3 0 a b rfl rfl,by simpa using h2,λj x y hx hy=>h3 (j+1) x y (by simpa using hx) (by simpa using hy)⟩
def Sg(as bs:aa)(j:Nat):Bool:=match as[j]?,bs[j]? with
 |some a,some b=>iU a b
 |_,_=>false
theorem kv(as bs:aa):((List.range (min as.length bs.length)).all (Sg as bs)&&as.length==bs.length)=e_ as bs:=by
 rw[Bool.eq_iff_iff,pK,Bool.and_eq_true,List.all_eq_true,beq_iff_eq];constructor
 ·rintro ⟨h1,h2⟩;refine⟨h2,λj a b ha hb=>?_⟩;have hj:j<as.length:=by
   by_cases h:j<as.length
   ·exact h
   ·rw[List.getElem?_eq_none (by left)]at ha;cases ha
  have:=h1 j (by rw[List.mem_range];left);unfold Sg at this;rw[ha,hb]at this;exact this
 ·rintro ⟨h2,h1⟩;refine⟨λj hj=>?_,h2⟩;rw[List.mem_range]at hj;unfold Sg;have ha:as[j]?=some as[j]:=aam (by left);have hb:bs[j]?=some bs[j]:=aam (by left);rw[ha,hb];exact h1 j _ _ ha hb
section
variable {X:Cx}{pins:aq}{σ:St}{H:Hp}{s:Shared}{N N':gj}
theorem fE{n:Nat}(h:dA n (.tup ds)=true):∃m,n=m+1/\∀d∈ds,dA m d=true:=by
 cases n with
 |zero=>cases h
 |succ m=>exact⟨m,rfl,List.all_eq_true.mp h⟩
theorem fF{n:Nat}{f:Fl}(h:dA n (.lst f ds)=true):∃m,n=m+1/\∀d∈ds,dA m d=true:=by
 cases n with
 |zero=>cases h
 |succ m=>exact⟨m,rfl,List.all_eq_true.mp h⟩
theorem yX(I:Inv X pins σ H s){p:Addr}{ys:af}(h:dH X.K H p xs)(h':aY X.K H p ys):False:=by
 obtain⟨aK,_,pl,_⟩:=I.list h;obtain⟨its',_,pt,_⟩:=I.tuple h';exact SeqAt.ne_of_list_tuple pl.isList pt rfl
theorem B3(I:Inv X pins σ H s)(hN:∀q p xs f,N q p (.l xs) f->dH X.K H p xs)(Bo:∀q p xs f,N' q p (.l xs) f->dH X.K H p xs):
  ∀(n:Nat) {k k':br} {v:V} {d d':D},Rep (aY X.K H) N k v d->Rep (aY X.K H) N' k' v d'->dA n d=true->dA n d'=true->iU d d'=true:=by
 intro n;induction n with
 |zero =>
  intro k k' v d d' h h' ho gg;cases h with
  |bV=>cases h';rfl
  |bl b=>cases h';exact abN b
  |int i=>cases h';exact abN i
  |tup _ _=>obtain⟨m,hm,_⟩:=fE ho;left
  |lst _ _=>obtain⟨m,hm,_⟩:=fF ho;left
  |cO _ _=>simp[dA]at ho
 |succ n ih =>
  have sub:∀{q q':br} {xs:af} {ds ds':aa},aI (aY X.K H) N q 0 xs ds->aI (aY X.K H) N' q' 0 xs ds'->(∀d∈ds,dA n d=true)->(∀d∈ds',dA n d=true)->e_ ds ds'=true:=by
   intro q q' xs ds ds' r r' ho gg;rw[pK];refine⟨by rw[<- r.length,<- r'.length],λj a b ha hb=>?_⟩;obtain⟨v1,h1,r1⟩:=r.get ha;obtain⟨v2,h2,r2⟩:=r'.get hb;rw[h1]at h2;cases h2;exact ih r1 r2 (ho a (aas ha)) (gg b (aas hb))
  intro k k' v d d' h h' ho gg;cases h with
  |bV=>cases h';rfl
  |bl b=>cases h';exact abN b
  |int i=>cases h';exact abN i
  |tup h r =>
   obtain⟨m,hm,ho⟩:=fE ho;obtain rfl:n=m:=by left
   cases h' with
   |tup h' r' =>
    obtain⟨m,hm,gg⟩:=fE gg;obtain rfl:n=m:=by left
    obtain rfl:=I.jG h h';exact sub r r' ho gg
   |lst h' r'=>exact(yX I (Bo _ _ _ _ h') h).elim
   |cO _ _=>simp[dA]at gg
  |lst h r =>
   obtain⟨m,hm,ho⟩:=fF ho;obtain rfl:n=m:=by left
   cases h' with
   |tup h' r'=>exact(yX I (hN _ _ _ _ h) h').elim
   |lst h' r' =>
    obtain⟨m,hm,gg⟩:=fF gg;obtain rfl:n=m:=by left
    obtain rfl:=I.k7 (hN _ _ _ _ h) (Bo _ _ _ _ h');exact sub r r' ho gg
   |cO _ _=>simp[dA]at gg
  |cO _ _=>simp[dA]at ho
structure Alike(A:aJ)(s:Shared)(u u':Value)(b:Bool):Prop where
 eq:SeqAt.EqAt A s u u' b
 rc:SeqAt.RcAt A s u u' b
 ne:SeqAt.RcNeAt A s u u' (!b)
theorem alike(I:Inv X pins σ H s)(hN:∀q p xs f,N q p (.l xs) f->dH X.K H p xs)(Bo:∀q p xs f,N' q p (.l xs) f->dH X.K H p xs):
  ∀(n:Nat) (A:aJ) {k k':br} {v v':V} {u u':Value} {d d':D},Rep (aY X.K H) N k v d->Rep (aY X.K H) N' k' v' d'->dA n d=true->dA n d'=true->RelV v u->RelV v' u'->A.units+n<cLine ->
   Alike A s u u' (iU d d'):=by
 intro n;induction n with
 |zero =>
  intro A k k' v v' u u' d d' h h' ho gg r r' hu;cases h with
  |tup _ _=>obtain⟨m,hm,_⟩:=fE ho;left
  |lst _ _=>obtain⟨m,hm,_⟩:=fF ho;left
  |cO _ _=>simp[dA]at ho
  |bV =>
   cases r;cases h' with
   |tup _ _=>obtain⟨m,hm,_⟩:=fE gg;left
   |lst _ _=>obtain⟨m,hm,_⟩:=fF gg;left
   |cO _ _=>simp[dA]at gg
   |bV=>cases r';exact⟨abq _,SeqAt.RcAt.none_none,SeqAt.RcNeAt.none_none⟩
   |bl b=>cases r';exact⟨abU b,SeqAt.RcAt.none_bool b,SeqAt.RcNeAt.none_bool b⟩
   |int b=>obtain⟨t,rfl⟩:=r';exact⟨ab1 b t,SeqAt.RcAt.none_int b t,SeqAt.RcNeAt.none_int b t⟩
  |bl a =>
   cases r;cases h' with
   |tup _ _=>obtain⟨m,hm,_⟩:=fE gg;left
   |lst _ _=>obtain⟨m,hm,_⟩:=fF gg;left
   |cO _ _=>simp[dA]at gg
   |bV=>cases r';exact⟨abV a,SeqAt.RcAt.bool_none a,SeqAt.RcNeAt.bool_none a⟩
   |bl b=>cases r';exact⟨abW a b,SeqAt.RcAt.bool_bool a b,SeqAt.RcNeAt.bool_bool a b⟩
   |int b=>obtain⟨t,rfl⟩:=r';exact⟨ab3 a b t,SeqAt.RcAt.bool_int a b t,SeqAt.RcNeAt.bool_int a b t⟩
  |int a =>
   obtain⟨t',rfl⟩:=r;cases h' with
   |tup _ _=>obtain⟨m,hm,_⟩:=fE gg;left
   |lst _ _=>obtain⟨m,hm,_⟩:=fF gg;left
   |cO _ _=>simp[dA]at gg
   |bV=>cases r';exact⟨ab4 a t',SeqAt.RcAt.int_none a t',SeqAt.RcNeAt.int_none a t'⟩
   |bl b=>cases r';exact⟨ab5 a t' b,SeqAt.RcAt.int_bool a t' b,SeqAt.RcNeAt.int_bool a t' b⟩
   |int b=>obtain⟨t,rfl⟩:=r';exact⟨abu a t' b t,SeqAt.RcAt.int_int a t' b t,SeqAt.RcNeAt.int_int a t' b t⟩
 |succ n ih =>
  intro A k k' v v' u u' d d' h h' ho gg r r' hu;have fM:A.units<cLine:=by left
  have Wr:A.in1.units+n<cLine:=by show A.units+1+n<cLine;left
  have sub:∀{q q':br} {xs xs':af} {ds ds':aa} {aK its':av},aI (aY X.K H) N q 0 xs ds->aI (aY X.K H) N' q' 0 xs' ds'->(∀d∈ds,dA n d=true)->(∀d∈ds',dA n d=true)->Vals xs aK->Vals xs' its' ->
    ∀(j:Nat) (h1:j<aK.toArray.size) (h2:j<its'.toArray.size),SeqAt.EqAt A.in1 s aK.toArray[j] its'.toArray[j] (Sg ds ds' j):=by
   intro q q' xs xs' ds ds' aK its' rs mK hd Mm rv Bj j h1 h2;have l1:ds.length=aK.length:=by rw[<- rs.length,rv.length]
   have l2:ds'.length=its'.length:=by rw[<- mK.length,Bj.length]
   simp only[List.size_toArray]at h1 h2;have ea:ds[j]?=some ds[j]:=aam (by left);have eb:ds'[j]?=some ds'[j]:=aam (by left);obtain⟨w1,g1,p1⟩:=rs.get ea;obtain⟨w2,g2,p2⟩:=mK.get eb;obtain⟨u1,k1,z1⟩:=rv.get g1;obtain⟨u2,k2,z2⟩:=Bj.get g2;have:=(ih A.in1 p1 p2 (hd _ (abO _)) (Mm _ (abO _)) z1 z2 Wr).eq;unfold Sg;rw[ea,eb];rw[List.getElem?_eq_getElem h1]at k1;rw[List.getElem?_eq_getElem h2]at k2;cases k1;cases k2;simpa using this
  cases h with
  |bV =>
   cases r;cases h' with
   |cO _ _=>simp[dA]at gg
   |bV=>cases r';exact⟨abq _,SeqAt.RcAt.none_none,SeqAt.RcNeAt.none_none⟩
   |bl b=>cases r';exact⟨abU b,SeqAt.RcAt.none_bool b,SeqAt.RcNeAt.none_bool b⟩
   |int b=>obtain⟨t,rfl⟩:=r';exact⟨ab1 b t,SeqAt.RcAt.none_int b t,SeqAt.RcNeAt.none_int b t⟩
   |tup h' rr=>cases r';obtain⟨aK,_,pt,_⟩:=I.tuple h';exact⟨SeqAt.EqAt.none_tuple pt fM,SeqAt.RcAt.none_tuple pt fM,SeqAt.RcNeAt.none_tuple pt fM⟩
   |lst h' rr=>cases r';obtain⟨aK,_,pt,_⟩:=I.list (Bo _ _ _ _ h');exact⟨SeqAt.EqAt.none_list pt.isList fM,SeqAt.RcAt.none_list pt.isList fM,SeqAt.RcNeAt.none_list pt.isList fM⟩
  |bl a =>
   cases r;cases h' with
   |cO _ _=>simp[dA]at gg
   |bV=>cases r';exact⟨abV a,SeqAt.RcAt.bool_none a,SeqAt.RcNeAt.bool_none a⟩
   |bl b=>cases r';exact⟨abW a b,SeqAt.RcAt.bool_bool a b,SeqAt.RcNeAt.bool_bool a b⟩
   |int b=>obtain⟨t,rfl⟩:=r';exact⟨ab3 a b t,SeqAt.RcAt.bool_int a b t,SeqAt.RcNeAt.bool_int a b t⟩
   |tup h' rr=>cases r';obtain⟨aK,_,pt,_⟩:=I.tuple h';exact⟨SeqAt.EqAt.bool_tuple a pt fM,SeqAt.RcAt.bool_tuple a pt fM,SeqAt.RcNeAt.bool_tuple a pt fM⟩
   |lst h' rr=>cases r';obtain⟨aK,_,pt,_⟩:=I.list (Bo _ _ _ _ h');exact⟨SeqAt.EqAt.bool_list a pt.isList fM,SeqAt.RcAt.bool_list a pt.isList fM,SeqAt.RcNeAt.bool_list a pt.isList fM⟩
  |int a =>
   obtain⟨t',rfl⟩:=r;cases h' with
   |cO _ _=>simp[dA]at gg
   |bV=>cases r';exact⟨ab4 a t',SeqAt.RcAt.int_none a t',SeqAt.RcNeAt.int_none a t'⟩
   |bl b=>cases r';exact⟨ab5 a t' b,SeqAt.RcAt.int_bool a t' b,SeqAt.RcNeAt.int_bool a t' b⟩
   |int b=>obtain⟨t,rfl⟩:=r';exact⟨abu a t' b t,SeqAt.RcAt.int_int a t' b t,SeqAt.RcNeAt.int_int a t' b t⟩
   |tup h' rr=>cases r';obtain⟨aK,_,pt,_⟩:=I.tuple h';exact⟨SeqAt.EqAt.int_tuple a t' pt fM,SeqAt.RcAt.int_tuple a t' pt fM,SeqAt.RcNeAt.int_tuple a t' pt fM⟩
   |lst h' rr=>cases r';obtain⟨aK,_,pt,_⟩:=I.list (Bo _ _ _ _ h');exact⟨SeqAt.EqAt.int_list a t' pt.isList fM,SeqAt.RcAt.int_list a t' pt.isList fM,SeqAt.RcNeAt.int_list a t' pt.isList fM⟩
  | @tup _ p xs ds h rs =>
   cases r;obtain⟨aK,rv,pt,_⟩:=I.tuple h;have pt:s.heap.IsTuple p aK.toArray:=pt;cases h' with
   |cO _ _=>simp[dA]at gg
   |bV=>cases r';exact⟨SeqAt.EqAt.tuple_none pt fM,SeqAt.RcAt.tuple_none pt fM,SeqAt.RcNeAt.tuple_none pt fM⟩
   |bl b=>cases r';exact⟨SeqAt.EqAt.tuple_bool b pt fM,SeqAt.RcAt.tuple_bool b pt fM,SeqAt.RcNeAt.tuple_bool b pt fM⟩
   |int b=>obtain⟨t,rfl⟩:=r';exact⟨SeqAt.EqAt.tuple_int b t pt fM,SeqAt.RcAt.tuple_int b t pt fM,SeqAt.RcNeAt.tuple_int b t pt fM⟩
   |lst h' rr=>cases r';obtain⟨its',_,pl,_⟩:=I.list (Bo _ _ _ _ h');exact⟨SeqAt.EqAt.tuple_list pt pl.isList fM,SeqAt.RcAt.tuple_list pt pl.isList fM,SeqAt.RcNeAt.tuple_list pt pl.isList fM⟩
   | @tup _ p' xs' ds' h' mK =>
    cases r';obtain⟨m,hm,Og⟩:=fE ho;obtain rfl:n=m:=by left
    obtain⟨m,hm,wo⟩:=fE gg;obtain rfl:n=m:=by left
    obtain⟨its',Bj,Ti,_⟩:=I.tuple h';have Ti:s.heap.IsTuple p' its'.toArray:=Ti;have key:=sub rs mK Og wo rv Bj;have l1:ds.length=aK.toArray.size:=by rw[List.size_toArray,<- rs.length,rv.length]
    have l2:ds'.length=its'.toArray.size:=by rw[List.size_toArray,<- mK.length,Bj.length]
    have rc:SeqAt.RcAt A s (.ref p) (.ref p') (iU (.tup ds) (.tup ds')):=by
     have:=SeqAt.RcAt.tuples pt Ti fM key;rw[<- l1,<- l2,kv]at this;exact this
    refine⟨?_,rc,?_⟩
    ·by_cases hp:p=p'
     ·subst hp;rw[B3 I hN Bo (n+1) (Rep.tup h rs) (Rep.tup h' mK) ho gg];exact abq _
     ·exact SeqAt.EqAt.of_refs hp rc
    ·have:=SeqAt.RcNeAt.tuples pt Ti fM key;rw[<- l1,<- l2,kv]at this;exact this
  | @lst _ p xs f ds h rs =>
   cases r;obtain⟨aK,rv,pl,_⟩:=I.list (hN _ _ _ _ h);have pl:=pl.isList;cases h' with
   |cO _ _=>simp[dA]at gg
   |bV=>cases r';exact⟨SeqAt.EqAt.list_none pl fM,SeqAt.RcAt.list_none pl fM,SeqAt.RcNeAt.list_none pl fM⟩
   |bl b=>cases r';exact⟨SeqAt.EqAt.list_bool b pl fM,SeqAt.RcAt.list_bool b pl fM,SeqAt.RcNeAt.list_bool b pl fM⟩
   |int b=>obtain⟨t,rfl⟩:=r';exact⟨SeqAt.EqAt.list_int b t pl fM,SeqAt.RcAt.list_int b t pl fM,SeqAt.RcNeAt.list_int b t pl fM⟩
   |tup h' rr=>cases r';obtain⟨its',_,pt,_⟩:=I.tuple h';exact⟨SeqAt.EqAt.list_tuple pl pt fM,SeqAt.RcAt.list_tuple pl pt fM,SeqAt.RcNeAt.list_tuple pl pt fM⟩
   | @lst _ p' xs' f' ds' h' mK =>
    cases r';obtain⟨m,hm,Og⟩:=fF ho;obtain rfl:n=m:=by left
    obtain⟨m,hm,wo⟩:=fF gg;obtain rfl:n=m:=by left
    obtain⟨its',Bj,Je,_⟩:=I.list (Bo _ _ _ _ h');have Je:=Je.isList;have key:=sub rs mK Og wo rv Bj;have l1:ds.length=aK.toArray.size:=by rw[List.size_toArray,<- rs.length,rv.length]
    have l2:ds'.length=its'.toArray.size:=by rw[List.size_toArray,<- mK.length,Bj.length]
    have two:SeqAt.RcAt A s (.ref p) (.ref p') (iU (.lst f ds) (.lst f' ds'))/\SeqAt.RcNeAt A s (.ref p) (.ref p') (!iU (.lst f ds) (.lst f' ds')):=by
     show SeqAt.RcAt A s (.ref p) (.ref p') (e_ ds ds')/\SeqAt.RcNeAt A s (.ref p) (.ref p') (!e_ ds ds');rw[<- kv];by_cases hl:ds.length=ds'.length
     ·have e1:(ds.length==ds'.length)=true:=by simp[hl]
      rw[e1,Bool.and_true,<- hl,Nat.min_self];have hz:aK.toArray.size=its'.toArray.size:=by rw[<- l1,<- l2,hl]
      refine⟨?_,?_⟩
      ·have:=SeqAt.RcAt.lists pl Je hz fM key;rw[<- l1]at this;exact this
      ·have:=SeqAt.RcNeAt.lists pl Je hz fM key;rw[<- l1]at this;exact this
     ·have e1:(ds.length==ds'.length)=false:=by simp[hl]
      rw[e1,Bool.and_false];have hz:(aK.toArray.size != its'.toArray.size)=true:=by rw[<- l1,<- l2];simp[hl]
      exact⟨SeqAt.RcAt.lists_lengths pl Je hz fM,SeqAt.RcNeAt.lists_lengths pl Je hz fM⟩
    refine⟨?_,two.1,two.2⟩;by_cases hp:p=p'
    ·subst hp;rw[B3 I hN Bo (n+1) (Rep.lst h rs) (Rep.lst h' mK) ho gg];exact abq _
    ·exact SeqAt.EqAt.of_refs hp two.1
  |cO _ _=>simp[dA]at ho
end
structure Px where
 pe:Nat->Scope->ao->Expr->Option (aC)
 pi:Nat->Scope->ao->Expr->Option (aC)
 pm:Nat->Scope->ao->Stmt->Option (Expr×aC)
structure Sx where
 sc:Scope
 N:ao
 fn:Nat->Option Str
 bl:ao
 cs:List (Str×GK)
 px:Px
noncomputable def P9:IC->Operator
 |.add=>.Add|.sub=>.Sub|.mul=>.Mult|.fdiv=>.FloorDiv|.mod=>.Mod|.pow=>.Pow|.shl=>.LShift|.shr=>.RShift|.band=>.BitAnd
noncomputable def VR:Bw->CmpOp
 |.eq=>.Eq|.ne=>.NotEq|.lt=>.Lt|.le=>.LtE|.gt=>.Gt|.ge=>.GtE|.AK=>.In
noncomputable def tyName:Ty->String
 |.int=>"int" |.bool=>"bool" |.list=>"list" |.tuple=>"tuple"
noncomputable def t8:Bf->String
 |.len=>"len" |.abs=>"abs" |.vq=>"int" |.list1=>"list" |.tuple1=>"tuple" |.j4=>"sum" |.all1=>"all" |.ip=>"sorted"
noncomputable def J3(sc:Scope)(x:Str):Bool:=decide (sc.names.lookup x=some .local)||decide (sc.names.lookup x=some .cell)||decide (sc.names.lookup x=some .free)
noncomputable def fV(sc:Scope)(x:Str):Bool:=decide (sc.names.lookup x=some .globalImplicit)
noncomputable def o4(x:Str):Bool:=!(x==("__debug__" : Str))&&!(x==("__classdict__" : Str))&&decide (x≠("__name__" : Str))
noncomputable def jf:Expr->Bool
 |.Set _ _ _=>false
 |_=>true
noncomputable def uU(sc outer:Scope):Scope :=
 { sc with names:=sc.names.map λ(n,k)=>if (k==.free&&outer.kind==.function&&outer.names.lookup n==some .cell)then(n,.cell)else(n,k) }
noncomputable def cw:Expr->ao
 |.Name x _=>[x]
 |.Tuple es _ _=>es.filterMap λe=>match e with|.Name x _=>some x|_=>none
 |_=>[]
noncomputable def gJ(S:Sx)(caps:aO):ao:=caps.filterMap λi=>S.N[i]?
def Sx.inner(S:Sx)(target:Expr)(caps:aO)(sc:Scope):Sx:=⟨uU sc S.sc,cw target++gJ S caps,S.fn,S.bl,S.cs,S.px⟩
noncomputable def gH:Expr->Bool
 |.Tuple _ _ _=>true
 |_=>false
noncomputable def isNm:Expr->Bool
 |.Name _ _=>true
 |_=>false
noncomputable def prE:Expr->Bool
 |.Call ..=>true
 |.BinOp ..=>true
 |.Subscript ..=>true
 |.Compare ..=>true
 |.Dict ..=>true
 |_=>false
noncomputable def Tp:Expr->Bool
 |.Call ..=>true
 |.Name ..=>true
 |_=>false
theorem aL{a b:Bool}(h:(a&&b)=true):a=true/\b=true:=by
 cases a<;>cases b<;>first|exact⟨rfl,rfl⟩|cases h
noncomputable def bA{α:Type}(o:Option α)(f:α->Bool):Bool:=match o with
 |some a=>f a
 |none=>false
theorem bp{α:Type}{o:Option α}{f:α->Bool}(h:bA o f=true):∃a,o=some a/\f a=true:=by
 cases o with
 |some a=>exact⟨a,rfl,h⟩
 |none=>cases h
noncomputable def vC:Expr->Option Const
 |.Constant c _ _=>some c
 |_=>none
theorem BD{e:Expr}{c:Const}(h:vC e=some c):∃j p,e=.Constant c j p:=by
 cases e<;>first | (cases h;done) | (cases h;exact⟨_,_,rfl⟩)
noncomputable def Dq:Const->Bool
 |.none=>true
 |_=>false
theorem AF{c:Const}(h:Dq c=true):c=.none:=by cases c<;>first|rfl|cases h
noncomputable def Js(b:Bool):Const->Bool
 |.bool c=>decide (b=c)
 |_=>false
theorem Dt{b:Bool}{c:Const}(h:Js b c=true):c=.bool b:=by cases c<;>first | (cases h;done)|rw[of_decide_eq_true h]
noncomputable def Ds(b:Int):Const->Bool
 |.int c=>decide (b=c)
 |_=>false
theorem AG{b:Int}{c:Const}(h:Ds b c=true):c=.int b:=by cases c<;>first | (cases h;done)|rw[of_decide_eq_true h]
noncomputable def BB:Expr->Option Str
 |.Name x _=>some x
 |_=>none
theorem i8{e:Expr}{x:Str}(h:BB e=some x):∃p,e=.Name x p:=by
 cases e<;>first | (cases h;done) | (cases h;exact⟨_,rfl⟩)
noncomputable def OX:Expr->Option (Expr×Operator×Expr)
 |.BinOp l o r _=>some (l,o,r)
 |_=>none
theorem FL{e l r:Expr}{o:Operator}(h:OX e=some (l,o,r)):∃p,e=.BinOp l o r p:=by
 cases e<;>first | (cases h;done) | (cases h;exact⟨_,rfl⟩)
noncomputable def UM:Expr->Option (UnaryOp×Expr)
 |.UnaryOp o e _=>some (o,e)
 |_=>none
theorem BA{e x:Expr}{o:UnaryOp}(h:UM e=some (o,x)):∃p,e=.UnaryOp o x p:=by
 cases e<;>first | (cases h;done) | (cases h;exact⟨_,rfl⟩)
noncomputable def vBool:Expr->Option (BoolOp×aC)
 |.BoolOp o vs _=>some (o,vs)
 |_=>none
theorem uv{e:Expr}{o:BoolOp}{vs:aC}(h:vBool e=some (o,vs)):∃p,e=.BoolOp o vs p:=by
 cases e<;>first | (cases h;done) | (cases h;exact⟨_,rfl⟩)
noncomputable def one{α:Type}:List α->Option α
 |[]=>none
 |x::xs=>match xs with
  |[]=>some x
  |_::_=>none
theorem bS{α:Type}{l:List α}{x:α}(h:one l=some x):l=[x]:=by
 cases l with
 |nil=>cases h
 |cons y ys=>cases ys with
  |nil=>cases h;rfl
  |cons _ _=>cases h
def two{α:Type}:List α->Option (α×α)
 |[]=>none
 |x::xs=>(one xs).map λy=>(x,y)
theorem i9{α:Type}{l:List α}{x y:α}(h:two l=some (x,y)):l=[x,y]:=by
 cases l with
 |nil=>cases h
 |cons z zs=>cases zs with
  |nil=>cases h
  |cons w ws=>cases ws with
   |nil=>cases h;rfl
   |cons _ _=>cases h
noncomputable def UR{α:Type}:List α->Option (α×List α)
 |[]=>none
 |x::xs=>some (x,xs)
theorem wD{α:Type}{l xs:List α}{x:α}(h:UR l=some (x,xs)):l=x::xs:=by
 cases l with
 |nil=>cases h
 |cons y ys=>cases h;rfl
noncomputable def Ab:Expr->Option (Expr×List CmpOp×aC)
 |.Compare l os rs _=>some (l,os,rs)
 |_=>none
theorem sk{e l:Expr}{os:List CmpOp}{rs:aC}(h:Ab e=some (l,os,rs)):∃p,e=.Compare l os rs p:=by
 cases e<;>first | (cases h;done) | (cases h;exact⟨_,rfl⟩)
noncomputable def wC:Expr->Option (Expr×aC×List Keyword)
 |.Call f as ks _=>some (f,as,ks)
 |_=>none
variable {args as elts:aC}
theorem Ac{e f:Expr}{ks:List Keyword}(h:wC e=some (f,as,ks)):∃p,e=.Call f as ks p:=by
 cases e<;>first | (cases h;done) | (cases h;exact⟨_,rfl⟩)
def eE(e:Expr):Option (Str×aC):=match wC e with
 |some (f,as,ks)=>match ks with
  |[]=>match BB f with
   |some x=>some (x,as)
   |none=>none
  |_::_=>none
 |none=>none
theorem cC{e:Expr}{x:Str}(h:eE e=some (x,as)):∃p pos,e=.Call (.Name x p) as [] pos:=by
 unfold eE at h;cases hv:wC e with
 |none=>rw[hv]at h;cases h
 |some z =>
  obtain⟨f,NL,ks⟩:=z;rw[hv]at h;obtain⟨pos,rfl⟩:=Ac hv;cases ks with
  |cons _ _=>cases h
  |nil =>
   cases hn:BB f with
   |none=>replace h:(match BB f with|some x=>some (x,NL)|none=>none)=some (x,as):=h;rw[hn]at h;cases h
   |some y =>
    replace h:(match BB f with|some x=>some (x,NL)|none=>none)=some (x,as):=h;rw[hn]at h;obtain⟨p,rfl⟩:=i8 hn;cases h;exact⟨p,pos,rfl⟩
noncomputable def qp:Expr->Option (Expr×Expr)
 |.Subscript a b _=>some (a,b)
 |_=>none
theorem nH{e a b:Expr}(h:qp e=some (a,b)):∃p,e=.Subscript a b p:=by
 cases e<;>first | (cases h;done) | (cases h;exact⟨_,rfl⟩)
noncomputable def Aa:Expr->Option (aC)
 |.Tuple es _ _=>some es
 |_=>none
theorem kP{e:Expr}{es:aC}(h:Aa e=some es):∃n p,e=.Tuple es n p:=by
 cases e<;>first | (cases h;done) | (cases h;exact⟨_,_,rfl⟩)
noncomputable def OV:Expr->Option (aC)
 |.List es _=>some es
 |_=>none
theorem FI{e:Expr}{es:aC}(h:OV e=some es):∃p,e=.List es p:=by
 cases e<;>first | (cases h;done) | (cases h;exact⟨_,rfl⟩)
noncomputable def IF:Expr->Option (Expr×List Comprehension×Scope)
 |.ListComp e gs sc _=>some (e,gs,sc)
 |_=>none
theorem BC{e x:Expr}{gs:List Comprehension}{sc:Scope}(h:IF e=some (x,gs,sc)):∃p,e=.ListComp x gs sc p:=by
 cases e<;>first | (cases h;done) | (cases h;exact⟨_,rfl⟩)
theorem je{a:Bool}(h:(!a)=true):a=false:=by cases a<;>first|rfl|cases h
def tW(S:Sx)(n:Nat)(t:Tg)(caps:aO)(target:Expr)(sc:Scope):Bool :=
 decide (sc.kind=.function)&&sc.names.all (λ(x,k)=>decide (k≠.cell)&&(decide (k≠.local)||decide (sc.names.lookup x=some .local))&&(decide (k≠.free)||decide (S.sc.names.lookup x=some .cell)||decide (S.sc.names.lookup x=some .free))) &&
 decide (n=(cw target).length)&&(cw target).all (λx=>decide (sc.names.lookup x=some .local))&&decide (cw target++gJ S caps).Nodup &&
 caps.all (λi=>match S.N[i]? with|some x=>decide (sc.names.lookup x=some .free)|none=>false) &&
 (match t with
  |.nm i=>decide (i=0)&&isNm target
  |.tp is=>bA (Aa target) λes=>decide (is=List.range es.length)&&es.all isNm)
mutual
noncomputable def cW(S:Sx):CE->Expr->Bool
 |.cI p es,e0=>prE e0&&bA (S.px.pe p S.sc S.bl e0) λxs=>bU S es xs
 |.bV,e0=>bA (vC e0) λc=>Dq c
 |.bl b,e0=>bA (vC e0) λc=>Js b c
 |.int i,e0=>bA (vC e0) λc=>Ds i c
 |.v i,e0=>bA (BB e0) λx=>decide (S.N[i]?=some x)&&J3 S.sc x&&o4 x
 |.glo x i,e0=>bA (BB e0) λy=>decide (y=x)&&fV S.sc x&&decide ((x,GK.i i)∈S.cs)&&!(x==("__debug__" : Str))
 |.glt x zs,e0=>bA (BB e0) λy=>decide (y=x)&&fV S.sc x&&decide ((x,GK.t zs)∈S.cs)&&!(x==("__debug__" : Str))
 |.bin op a b,e0=>bA (OX e0) λz=>decide (z.2.1=P9 op)&&cW S a z.1&&cW S b z.2.2
 |.neg a,e0=>bA (UM e0) λz=>decide (z.1=.USub)&&cW S a z.2
 |.not a,e0=>bA (UM e0) λz=>decide (z.1=.Not)&&cW S a z.2
 |.and es,e0=>bA (vBool e0) λz=>decide (z.1=.And)&&bU S es z.2
 |.or es,e0=>bA (vBool e0) λz=>decide (z.1=.Or)&&bU S es z.2
 |.cmp op a b,e0=>bA (Ab e0) λz=>decide (z.2.1=[VR op])&&cW S a z.1&&bA (one z.2.2) λr=>cW S b r&&jf r
 |.vo a t,e0=>bA (eE e0) λz=>decide (z.1=("isinstance" : Str))&&fV S.sc z.1&&decide (z.1∈S.bl)&&bA (two z.2) λy=>cW S a y.1&&bA (BB y.2) λx=>decide (x=(tyName t:Str))&&fV S.sc x&&decide (x∈S.bl)
 |.call f es,e0=>bA (eE e0) λz=>decide (S.fn f=some z.1)&&fV S.sc z.1&&o4 z.1&&bA (UR z.2) λy=>bU S es (y.1::y.2)
 |.bf f es,e0=>bA (eE e0) λz=>decide (z.1=(t8 f:Str))&&fV S.sc z.1&&decide (z.1∈S.bl)&&bA (UR z.2) λy=>bU S es (y.1::y.2)
 |.km a,e0=>bA (eE e0) λz=>decide (z.1=("len" : Str))&&fV S.sc z.1&&decide (z.1∈S.bl)&&bA (one z.2) λy=>bA (eE y) λw=>decide (w.1=("set" : Str))&&fV S.sc w.1&&decide (w.1∈S.bl)&&bA (one w.2) λu=>cW S a u
 |.ix a b,e0=>bA (qp e0) λz=>cW S a z.1&&cW S b z.2
 |.tup es,e0=>bA (Aa e0) λxs=>bU S es xs&&decide (es.length<=1000)
 |.lst es,e0=>bA (OV e0) λxs=>bU S es xs&&decide (es.length<=1000)
 |.comp n t caps ik es bO elt,e0=>bA (IF e0) λz=>bA (one z.2.1) λg=>decide (g.is_async=0)&&tW S n t caps g.target z.2.2&&jf g.iter&&decide (bO.length<=1)&&bU (S.inner g.target caps z.2.2) bO g.ifs&&cW (S.inner g.target caps z.2.2) elt z.1 &&
     (match ik with
      |.jK=>bA (eE g.iter) λw=>decide (w.1=("range" : Str))&&fV S.sc w.1&&decide (w.1∈S.bl)&&bA (one w.2) λy=>bU S es [y]
      |.seq=>bU S es [g.iter]
      |.cI p=>Tp g.iter&&(decide (1100<=p)||gH g.target)&&bA (S.px.pi p S.sc S.bl g.iter) λxs=>bU S es xs)
noncomputable def bU(S:Sx):aD->aC->Bool
 |[],es=>match es with
  |[]=>true
  |_::_=>false
 |c::cs,es=>match es with
  |[]=>false
  |e::es=>cW S c e&&bU S cs es
end
def EY(K:au)(n:Nat)(m:aw):Sp:=λvs H Q _=>∃(F:ak) (ds:aa) (r:D),vs.length=n/\aI (aY K H) (nd K F (λ_=>False) (λ_=>none) H) [] 0 vs ds/\m ds=ok r /\
 ∀v H',aM H H'->(∃τt:Addr->Option br,(∀p q,τt p=some q->H p=none)/\Rep (aY K H') (nd K (λp=>F p\/H p=none) (λ_=>False) τt H') [] v r)->Q v H'
structure NS(X:Cx)(k:Nat)(x:Str)(m:aw):Prop where
 ex:∃(f:Addr) (fd:FuncData) (ps:ao),gL X.prog X.w X.K X.mg X.base z5 k f fd ps (EY X.K ps.length m)/\X.mg x=some (.ref f)/\PySem.W.keepIn X.K (.ref f)=true/\Binds X.K fd ps []/\∀ds r,m ds=ok r->ds.length=ps.length
noncomputable def kinds:List String:=["NoneType","bool","int","str","list","tuple","dict"]
def QD:Ty->String->Bool
 |.int,s=>s == "int" ||s == "bool"
 |t,s=>s==tyName t
theorem aM.upd{H:Hp}{p:Addr}{o:HO}(h:H p=none):aM H (upd H p o):=λb u e=>by
 rw[aV (by rintro rfl;rw[h]at e;cases e)];exact e
theorem C3{i j:Int}(h:iQ i j=true):IntMulOk i j:=by
 unfold iQ at h;simp only[Bool.or_eq_true,Bool.and_eq_true,decide_eq_true_eq]at h;rcases h with (h|h)|⟨h1,h2⟩
 ·exact .of_left (intBits_le h)
 ·exact .of_right (intBits_le h)
 ·have b1:Builtin.Int.intBits i<=9000:=intBits_le h1;have b2:Builtin.Int.intBits j<=9000:=intBits_le h2;unfold IntMulOk;have hb:Builtin.Int.intTooBig ((Builtin.Int.intBits i:Int)+(Builtin.Int.intBits j:Int))=false:=by
   unfold Builtin.Int.intTooBig;have:(bitsLine:Int)=134217728:=by decide
   exact aaN (by left)
  rw[hb];simp
section
variable {K:au}{R:ak}{τ τt:Addr->Option br}{fv:aO}{H H':Hp}
theorem nd.zk(k k':br)(p:Addr)(xs:Nd)(f:Fl)(h:nd K R A (λ_=>none) H k p xs f):nd K R A (λ_=>none) H k' p xs f:=by
 cases f with
 |ow=>exact nomatch h.2
 |fz=>exact h
 |al=>exact h
 |sc=>exact h
theorem Qd(Si:SI X F R τ ρ σ H)(fr:∀p q,τt p=some q->H p=none)(k k':br)(p:Addr)(xs:Nd)(f:Fl)(h:nd K R (kg (gP X F) τ fv) τt H' k p xs f):
  nd K R (kg (gP X F) τ fv) (λ_=>none) H' k' p xs (bE f):=by
 cases f with
 |ow=>exact⟨h.1,.inr (Si.same.free (fr p _ h.2)),λc i e=>absurd (fr p _ h.2) (Si.th p _ e)⟩
 |fz=>exact h
 |al=>exact h
 |sc=>exact h
theorem aI.lG{k:br}{n:Nat}(h:aI (aY K H') (nd K R (kg (gP X F) τ fv) τt H') k n xs ds)(Si:SI X F R τ ρ σ H)(fr:∀p q,τt p=some q->H p=none){n':Nat}:
  aI (aY K H') (nd K R (kg (gP X F) τ fv) (λ_=>none) H') k' n' xs (aF bE ds):=aI.j6 (λ_ _ h=>h) (Qd Si fr) h _ _
theorem Rep.lG{k:br}{v:V}{d:D}(h:Rep (aY K H') (nd K R (kg (gP X F) τ fv) τt H') k v d)(Si:SI X F R τ ρ σ H)(fr:∀p q,τt p=some q->H p=none):
  Rep (aY K H') (nd K R (kg (gP X F) τ fv) (λ_=>none) H') k' v (aS bE d):=Rep.j6 (λ_ _ h=>h) (Qd Si fr) h _
theorem cx.xf{p:Addr}(hp:H p=none)(e:aM H H')(hl:H' p=some (.lst xs))(r:aI (aY K H') (nd K R (kg G τ fv) (λ_=>none) H') [] 0 xs ds):cx K G R τ fv H H' (.ref p) (.lst .ow ds):=by
 refine⟨λq=>if q=p then some []else none,λq k hq=>?_,.lst ⟨hl,by simp⟩ (r.imp (λ_ _ h=>h) λc q xs f h=>?_)⟩
 ·by_cases xA:q=p
  ·subst xA;exact hp
  ·simp[xA]at hq
 ·cases f with
  |ow=>exact nomatch h.2
  |fz=>exact h
  |al=>exact h
  |sc=>exact h
end
theorem Ha(K:au):∀t:Ty,∀s∈kinds,PySem.W.kitOne K (.type s) (.type (tyName t))=some (QD t s):=by
 intro t s hs;simp only[kinds,List.mem_cons,List.not_mem_nil,or_false]at hs;cases t<;>rcases hs with rfl|rfl|rfl|rfl|rfl|rfl|rfl<;>rfl
structure PX(X:Cx)(sc:Scope)(bl:ao)(k:Nat):Prop where
 sc:X.env.scope=sc
 calm:X.calm=true
 room:gK k X.A
 bl:∀x∈bl,X.mg x=none
theorem PX.gl{sc:Scope}{bl:ao}{k:Nat}(L:PX X sc bl k){x:Str}(h:fV sc x=true):Gl X x:=by
 unfold Gl;show X.env.scope.names.lookup x=some .globalImplicit;rw[L.sc];exact aad h
def mz(X:Cx)(F:ak)(Φ:aT):aD->aC->Prop
 |[],[]=>True
 |c::cs,a::as=>PE X a (tD X F Φ c)/\(∀es,starEach (a::es) X.env=(false,eval a X.env)::starEach es X.env)/\oq a/\mz X F Φ cs as
 |_,_=>False
structure r_(K:au)(H2:Hp)(vs:af)(xs:aa)(H':Hp):Prop where
 n0:∃R0:ak,aI (aY K H2) (nd K R0 (λ_=>False) (λ_=>none) H2) [] 0 vs (aF aW xs)/\∀p o,R0 p->H2 p=some o->H' p=some o
 tp:∀a ys,aY K H2 a ys->aY K H' a ys
structure JR(K:au)(J:It)(H2:Hp)(vs:af)(xs items:aa):Prop where
 go:∀i H' R',r_ K H2 vs xs H'->aI (aY K H') (nd K R' (λ_=>False) (λ_=>none) H') [] 0 vs (aF aW xs)->i<items.length->J.go i H'
 wj:∀i H' R' x lK,r_ K H2 vs xs H'->aI (aY K H') (nd K R' (λ_=>False) (λ_=>none) H') [] 0 vs (aF aW xs)->i<items.length->J.wj i H' x lK->aM H' lK/\∃d,items[i]?=some d/\Rep (aY K lK) (nd K R' (λ_=>False) (λ_=>none) lK) [] x d
 stop:∀i H' R',r_ K H2 vs xs H'->aI (aY K H') (nd K R' (λ_=>False) (λ_=>none) H') [] 0 vs (aF aW xs)->items.length<=i->J.stop i H'
structure qc(px:Px)(Φ:aT):Prop where
 e:∀(X:Cx) (sc:Scope) (bl:ao) (k:Nat),PX X sc bl k->∀(p:Nat) (e:Expr) (args:aC),px.pe p sc bl e=some args->∀(F:ak) (cs:aD),mz X F Φ cs args->PE X e (tD X F Φ (.cI p cs))/\PT X e (gW X F Φ (.cI p cs))
 i:∀(X:Cx) (sc:Scope) (bl:ao) (k:Nat),PX X sc bl k->∀(p:Nat) (e:Expr) (args:aC),px.pi p sc bl e=some args->∀(F:ak) (cs:aD) (tg:Expr),(decide (1100<=p)||gH tg)=true->mz X F Φ cs args ->
  ∀(pins:aq) (s:Shared) (σ:St) (H:Hp) (R:ak) (τ:Addr->Option br) (ρ:aZ) (xs:aa) (d:D) (items:aa),Inv X pins σ H s->SI X F R τ ρ σ H->cf Φ cs ρ=ok xs->Φ p xs=ok d->m9 d=ok items->∀Rr:It->Hp->Prop,
   (∀J H2 vs,aM H H2->cF X.K (gP X F) R τ (dF cs) H H2 vs xs->JR X.K J H2 vs xs items->Rr J H2) ->
   wpAny (model X.prog X.w) X.A (eval e X.env) (λv s1=>wpAny (model X.prog X.w) X.A (pyIter v) (Bt X pins σ tg Rr) X.xe s1) X.xe s
def yn(K:au):GK->Value->Prop
 |.i i,u=>RelV (.int i) u
 |.t zs,u=>∃(a:Addr) (o:Obj) (aK:aP) (n:Nat),u=.ref a/\K.lookup a=some o/\o.cls=.type "tuple" /\ o.data=.seq aK n/\aK.size<=sizeLine/\Vals (zs.map V.int) aK.toList
structure Lk(X:Cx)(S:Sx)(k:Nat)(Φ:aT):Prop where
 sc:X.env.scope=S.sc
 N:X.N=S.N
 nd:X.N.Nodup
 calm:X.calm=true
 room:gK k X.A
 bl:∀x∈S.bl,X.mg x=none
 fn:∀f x,S.fn f=some x->NS X k x (Φ f)
 cs:∀x i,(x,i)∈S.cs->∃u,X.mg x=some u/\yn X.K i u
 pr:qc S.px Φ
variable {S:Sx}{Φ:aT}
theorem Lk.pX{k:Nat}(L:Lk X S k Φ):PX X S.sc S.bl k:=⟨L.sc,L.calm,L.room,L.bl⟩
variable {Q:VK}{p' pos pos':Pos}
section
variable {X:Cx}{S:Sx}{k:Nat}{F:ak}{Φ:aT}
theorem Lk.gl(L:Lk X S k Φ){x:Str}(h:fV S.sc x=true):Gl X x:=by
 unfold Gl;show X.env.scope.names.lookup x=some .globalImplicit;rw[L.sc];exact aad h
theorem Lk.SV(L:Lk X S k Φ){x:Str}(h:J3 S.sc x=true):JS X.env.scope x:=by
 unfold JS;rw[L.sc];unfold J3 at h;rw[Bool.or_eq_true,Bool.or_eq_true]at h;rcases h with (h|h)|h
 ·exact .inl (aad h)
 ·exact .inr (.inl (aad h))
 ·exact .inr (.inr (aad h))
theorem tD.intro{c:CE}{d:D}(Si:SI X F R τ ρ σ H)(e:bz Φ c ρ=ok d)(h:∀v H',aM H H'->cx X.K (gP X F) R τ (i7 c) H H' v d->Q v H'):tD X F Φ c σ H Q:=⟨R,τ,ρ,d,Si,e,h⟩
theorem Vn(L:Lk X S k Φ){i:Nat}{x:Str}(h:cW S (.v i) (.Name x pos)=true):PE X (.Name x pos) (tD X F Φ (.v i)):=by
 replace h:=aL h;replace h:=And.intro (aL h.1) h.2;obtain⟨⟨h1,h2⟩,h3⟩:=h;unfold o4 at h3;simp only[Bool.and_eq_true,Bool.not_eq_true']at h3;refine PE.imp (oV (i:=i) (by rw[L.N];exact aad h1) (L.SV h2) h3.1.1 h3.1.2) λσ H Q hq=>?_;obtain⟨R,τ,ρ,d,Si,ev,hq⟩:=hq;obtain⟨d',hd,rfl⟩:=B1 ev
 ·obtain⟨v,hv,hr⟩:=Si.rep i d' hd;refine⟨v,hv,hq v H (aM.refl H) ⟨λ_=>none,λ_ _ h=>by simp at h,?_⟩⟩;refine Rep.map (q:=[i]) (q':=[]) (λ_ _ h=>h) (λc p xs f h=>?_) hr [] rfl;cases f with
  |ow =>
   refine⟨h.1,.inr (Si.t0 p _ h.2),λc' j e=>?_⟩;rw[h.2]at e;have e':=aar e;have:=aaX List.getLast? e';simp at this;show _∈[i];simp[this]
  |fz=>exact h
  |al=>exact h.2.elim
  |sc=>exact h
theorem iz{op:IC}{x y d:D}(QX:op≠.add/\op≠.mul)(h:cQ op x y=ok d):∃i j,x=.int i/\y=.int j:=by
 cases x with
 |int i=>cases y with
  |int j=>exact⟨i,j,rfl,rfl⟩
  |_=>cases op<;>first|exact nk h | (simp at QX;done)
 |_=>cases op<;>first|exact nk h | (simp at QX;done)
theorem Ky(L:Lk X S k Φ){op:IC}{a b:CE}{l r:Expr}(ha:PE X l (tD X F Φ a))(hb:PE X r (tD X F Φ b)):PE X (.BinOp l (P9 op) r pos) (tD X F Φ (.bin op a b)):=by
 have two:∀{σ:St} {H:Hp} {Q:VK} {r2:R2},(∃R τ ρ d,SI X F R τ ρ σ H/\bz Φ (.bin op a b) ρ=ok d/\(∀v H',aM H H'->cx X.K (gP X F) R τ (i7 (.bin op a b)) H H' v d->Q v H') /\
   ∀x y v u H',cQ op x y=ok d->aM H H'->cx X.K (gP X F) R τ (i7 (.bin op a b)) H H' v x->cx X.K (gP X F) R τ (i7 (.bin op a b)) H H' u y->r2 v u H' Q)->F0 r2 (tD X F Φ a) (tD X F Φ b) σ H Q:=by
  rintro σ H Q r2 ⟨R,τ,ρ,d,Si,ev,hq,hr⟩;obtain⟨x,ex,ev⟩:=aH ev;obtain⟨y,ey,ev⟩:=aH ev;refine tD.intro Si ex λv H1 e1 r1=>tD.intro (Si.go e1) ey λu H2 e2 r2=>?_;exact hr x y v u H2 ev (e1.trans e2) ((r1.go e2).mono λi hi=>aaC _ hi) ((r2.old e1).mono λi hi=>aap _ hi)
 have vp:∀{C:Int->Int->Prop} {g:Int->Int->Int},kC X (binaryOp (P9 op)) (rI C λi j=>.int (g i j))->(∀x y d,cQ op x y=ok d->∃i j,x=.int i/\y=.int j/\C i j/\d=.int (g i j)) ->
   PE X (.BinOp l (P9 op) r pos) (tD X F Φ (.bin op a b)):=by
  intro C g ho hd;refine PE.imp (Jf ho ha hb) λσ H Q hq=>?_;obtain⟨R,τ,ρ,d,Si,ev,hq⟩:=hq;refine two ⟨R,τ,ρ,d,Si,ev,hq,λx y v u H' eb e rv ru=>?_⟩;obtain⟨i,j,rfl,rfl,c,rfl⟩:=hd x y d eb;exact⟨i,j,rv.isInt,ru.isInt,c,hq _ H' e .int⟩
 cases op with
 |sub =>
  refine vp (C:=λ_ _=>True) (g:=λi j=>i - j) (Jj λ_ _ _ _ _ _ _ _ q=>sub_int q) λx y d h=>?_;obtain⟨i,j,rfl,rfl⟩:=iz (by simp) h;cases h;exact⟨_,_,rfl,rfl,trivial,rfl⟩
 |mod =>
  refine vp (C:=λ_ j=>j≠0) (g:=λi j=>i.fmod j) GS λx y d h=>?_;obtain⟨i,j,rfl,rfl⟩:=iz (by simp) h;obtain⟨h1,h⟩:=qk h;subst h;exact⟨_,_,rfl,rfl,h1,rfl⟩
 |fdiv =>
  refine vp (C:=λ_ j=>rR j=true) (g:=λi j=>i.fdiv j) (Jj λi j _ _ _ _ _ hc q=>?_) λx y d h=>?_
  ·unfold rR at hc;rw[Bool.and_eq_true]at hc;have h1:j≠0:=aad hc.1;have h2:j.natAbs<big:=aad hc.2;exact floordiv_int h1 q (.inl (PyProof.noPylong_of_log2 ((Nat.log2_lt (by left)).mpr h2)))
  ·obtain⟨i,j,rfl,rfl⟩:=iz (by simp) h;obtain⟨h1,h⟩:=qk h;subst h;exact⟨_,_,rfl,rfl,h1,rfl⟩
 |pow =>
  refine vp (C:=λi j=>kY i j=true) (g:=λi j=>i ^ j.toNat) (Jj λi j _ _ _ _ _ hc q=>?_) λx y d h=>?_
  ·unfold kY at hc;simp only[Bool.and_eq_true,decide_eq_true_eq]at hc;exact pow_int_small hc.1.1 hc.1.2 hc.2 q
  ·obtain⟨i,j,rfl,rfl⟩:=iz (by simp) h;obtain⟨h1,h⟩:=qk h;subst h;exact⟨_,_,rfl,rfl,h1,rfl⟩
 |shl =>
  refine vp (C:=λi j=>kY i j=true) (g:=λi j=>i*2 ^ j.toNat) (Jj λi j _ _ _ _ _ hc q=>?_) λx y d h=>?_
  ·unfold kY at hc;simp only[Bool.and_eq_true,decide_eq_true_eq]at hc;exact lshift_int_small hc.1.1 hc.1.2 hc.2 q
  ·obtain⟨i,j,rfl,rfl⟩:=iz (by simp) h;obtain⟨h1,h⟩:=qk h;subst h;exact⟨_,_,rfl,rfl,h1,rfl⟩
 |shr =>
  refine vp (C:=λ_ j=>0<=j) (g:=λi j=>i / 2 ^ j.toNat) Lh λx y d h=>?_;obtain⟨i,j,rfl,rfl⟩:=iz (by simp) h;obtain⟨h1,h⟩:=qk h;subst h;exact⟨_,_,rfl,rfl,h1,rfl⟩
 |band =>
  refine vp (C:=λ_ j=>j=1) (g:=λi _=>i % 2) (Jj λi j _ _ _ _ _ hc q=>by subst hc;exact and_int (by rw[bitAnd_m1];exact q)) λx y d h=>?_;obtain⟨i,j,rfl,rfl⟩:=iz (by simp) h;obtain⟨h1,h⟩:=qk h;subst h;exact⟨_,_,rfl,rfl,h1,rfl⟩
 |mul =>
  have hi:kC X (binaryOp .Mult) (rI (λi j=>iQ i j=true) λi j=>.int (i*j)):=Jj λi j _ _ _ _ _ hc q=>mul_int q (C3 hc);exact vp (C:=λi j=>iQ i j=true) (g:=λi j=>i*j) hi λx y d h=>by
   obtain⟨i,j,rfl,rfl⟩:∃i j,x=.int i/\y=.int j:=by cases x<;>first | (cases h;done) | (cases y<;>first|exact⟨_,_,rfl,rfl⟩ | (cases h;done))
   obtain⟨h1,h⟩:=qk h;subst h;exact⟨_,_,rfl,rfl,h1,rfl⟩
 |add =>
  refine PE.imp (Jf Ll ha hb) λσ H Q hq=>?_;obtain⟨R,τ,ρ,d,Si,ev,hq⟩:=hq;refine two ⟨R,τ,ρ,d,Si,ev,hq,λx y v u H' eb e rv ru=>?_⟩;obtain⟨i,j,rfl,rfl⟩:∃i j,x=.int i/\y=.int j:=by cases x<;>first | (cases eb;done) | (cases y<;>first|exact⟨_,_,rfl,rfl⟩ | (cases eb;done))
  cases eb;exact⟨i,j,rv.isInt,ru.isInt,hq _ H' e .int⟩
end
section
variable {T T':mV}{N N':gj}{P:Fl->Bool}
theorem Rep.without(hT:∀p xs,T p xs->T' p xs)(hN:∀k k' p xs f,P f=false->N k p xs f->N' k' p xs f){k:br}{v:V}{d:D}(h:Rep T N k v d)(e:bc P d=false)(k':br):Rep T' N' k' v d:=by
 have:=Rep.gen (g:=id) (P:=P) (N':=N') (C:=λ_ _=>True) (I:=λ_ _=>True) hT trivial (λ_ _ e=>e) (λ_ _ _ _ e _=>e) (λk k' p xs f _ e h=>hN k k' p xs f e h) h (k':=k') trivial e;rw[fG]at this;exact this
theorem aI.without(hT:∀p xs,T p xs->T' p xs)(hN:∀k k' p xs f,P f=false->N k p xs f->N' k' p xs f){k:br}{n:Nat}(h:aI T N k n vs ds)(e:aQ P ds=false)(k':br)(n':Nat):aI T' N' k' n' vs ds:=by
 have:=aI.gen (g:=id) (P:=P) (N':=N') (C:=λ_ _=>True) (I:=λ_ _=>True) hT trivial (λ_ _ e=>e) (λ_ _ _ _ e _=>e) (λk k' p xs f _ e h=>hN k k' p xs f e h) h (k':=k') (n':=n') trivial trivial e;rw[fS]at this;exact this
theorem Rep.kN(hT:∀p xs,T p xs->T' p xs)(hN:∀k p xs f,P f=false->N k p xs f->N' k p xs f){k:br}{v:V}{d:D}(h:Rep T N k v d)(e:bc P d=false):Rep T' N' k v d:=by
 have:=Rep.gen (g:=id) (P:=P) (N':=N') (C:=λa b=>a=b) (I:=λa b=>a=b) hT rfl (λ_ _ e=>by rw[e]) (λ_ _ _ _ a b=>by rw[a,b]) (λk k' p xs f c e h=>by subst c;exact hN k p xs f e h) h rfl e;rw[fG]at this;exact this
theorem aI.kN(hT:∀p xs,T p xs->T' p xs)(hN:∀k p xs f,P f=false->N k p xs f->N' k p xs f){k:br}{n:Nat}(h:aI T N k n vs ds)(e:aQ P ds=false):aI T' N' k n vs ds:=by
 have:=aI.gen (g:=id) (P:=P) (N':=N') (C:=λa b=>a=b) (I:=λa b=>a=b) hT rfl (λ_ _ e=>by rw[e]) (λ_ _ _ _ a b=>by rw[a,b]) (λk k' p xs f c e h=>by subst c;exact hN k p xs f e h) h rfl rfl e;rw[fS]at this;exact this
end
theorem Rep.lZ{k:br}{v:V}{d:D}(h:Rep (aY K H) (nd K R (λ_=>False) (λ_=>none) H) k v d):Rep (aY K H) (nd K R (λ_=>False) (λ_=>none) H) k' v d:=by
 have:=Rep.j6 (g:=id) (λ_ _ h=>h) nd.zk h k';rw[fG]at this;exact this
def i6(X:Cx)(R:ak)(τ:Addr->Option br)(H:Hp)(v:V)(d:D):Prop :=
 ∃τt:Addr->Option br,(∀p q,τt p=some q->τ p=none/\¬ R p/\X.H₀ p=none/\H p≠none)/\Rep (aY X.K H) (nd X.K R (λ_=>False) τt H) [] v d
section
variable {X:Cx}{F R:ak}{τ:Addr->Option br}{ρ:aZ}{σ:St}{H H':Hp}
theorem SI.set{i:Nat}{v:V}{d:D}(Si:SI X F R τ ρ σ H)(r:i6 X R τ H v d)(hi:i<ρ.length):∃τ',SI X F R τ' (ρ.set i (some d)) (σ.set i (some v)) H:=by
 obtain⟨τt,ht,rp⟩:=r;refine⟨λp=>match τt p with|some q=>some (q++[i])|none=>τ p,⟨by simp[Si.len],λj d' hj=>?_,λp hp=>?_,Si.rh,Si.rf,λp q hq=>?_,λp q hq=>?_,Si.same⟩⟩
 ·by_cases ka:j=i
  ·subst ka;rw[List.getElem?_set_self hi]at hj;cases hj;refine⟨v,List.getElem?_set_self (by rw[<- Si.len];exact hi),rp.imp (q':=[j]) (λ_ _ h=>h) λc p xs f h=>?_⟩;cases f with
   |ow=>rw[List.append_nil]at h;exact⟨h.1,by simp only[h.2]⟩
   |fz=>exact h
   |al=>exact h
   |sc=>exact h
  ·rw[List.getElem?_set_ne (Ne.symm ka)]at hj;obtain⟨w,hw,lI⟩:=Si.rep j d' hj;refine⟨w,by rw[List.getElem?_set_ne (Ne.symm ka)];exact hw,lI.imp (λ_ _ h=>h) λc p xs f h=>?_⟩;cases f with
   |ow =>
    refine⟨h.1,?_⟩;cases q:τt p with
    |none=>simp only[q];exact h.2
    |some k=>have:=(ht p k q).1;rw[h.2]at this;cases this
   |fz=>exact h
   |al=>exact h
   |sc=>exact h
 ·cases q:τt p with
  |none=>simp only[q];exact Si.rt p hp
  |some k=>exact absurd hp (ht p k q).2.1
 ·cases z:τt p with
  |none=>simp only[z]at hq;exact Si.th p q hq
  |some k=>exact(ht p k z).2.2.2
 ·cases z:τt p with
  |none=>simp only[z]at hq;exact Si.t0 p q hq
  |some k=>exact(ht p k z).2.2.1
theorem AO{k:br}{v:V}{d:D}(h:Rep (aY X.K H) (nd X.K R (λ_=>False) τ H) k v d)(ho:bc d_ d=false):i6 X R τ H v d :=
 ⟨λ_=>none,λ_ _ h=>by simp at h,Rep.without (P:=d_) (λ_ _ h=>h) (λk k' p xs f hf h=>by
  cases f with
  |ow=>cases hf
  |fz=>exact h
  |al=>exact h.2.elim
  |sc=>exact h) h ho _⟩
open Classical in
theorem SI.move{i:Nat}{d:D}(Si:SI X F R τ ρ σ H)(hd:ρ[i]?=some (some d)):∃v τ',σ[i]?=some (some v)/\SI X F R τ' (ρ.set i none) σ H/\i6 X R τ' H v d:=by
 obtain⟨v,hv,rp⟩:=Si.rep i d hd;refine⟨v,λp=>match τ p with|some q=>if q.getLast?=some i then none else some q|none=>none,hv,⟨by simp[Si.len],λj d' hj=>?_,λp hp=>?_,Si.rh,Si.rf,λp q hq=>?_,λp q hq=>?_,Si.same⟩,
  λp=>match τ p with|some q=>if q.getLast?=some i then(if H p=none then none else some q.dropLast)else none|none=>none,λp q hq=>?_,rp.imp (q:=[i]) (q':=[]) (λ_ _ h=>h) λc p xs f h=>?_⟩
 ·by_cases ka:j=i
  ·subst ka;rw[List.getElem?_set]at hj;simp at hj
  ·rw[List.getElem?_set_ne (Ne.symm ka)]at hj;obtain⟨w,hw,lI⟩:=Si.rep j d' hj;refine⟨w,hw,lI.imp (q:=[j]) (q':=[j]) (λ_ _ h=>h) λc p xs f h=>?_⟩;cases f with
   |ow =>
    refine⟨h.1,?_⟩;simp only[h.2];rw[if_neg (by simp;exact ka)]
   |fz=>exact h
   |al=>exact h
   |sc=>exact h
 ·simp only[Si.rt p hp]
 ·cases z:τ p with
  |none=>simp only[z]at hq;cases hq
  |some k=>exact Si.th p k z
 ·cases z:τ p with
  |none=>simp only[z]at hq;cases hq
  |some k=>exact Si.t0 p k z
 ·cases z:τ p with
  |none=>simp only[z]at hq;cases hq
  |some k =>
   simp only[z]at hq ⊢;by_cases hl:k.getLast?=some i
   ·rw[if_pos hl];exact⟨rfl,(λhR=>by have:=Si.rt p hR;rw[z]at this;cases this),Si.t0 p k z,Si.th p k z⟩
   ·rw[if_neg hl]at hq;cases hq
 ·cases f with
  |ow =>
   refine⟨h.1,?_⟩;have hn:H p≠none:=h.1.ne;simp only[h.2];rw[if_pos (by simp),if_neg hn];simp
  |fz=>exact h
  |al=>exact h.2.elim
  |sc=>exact h
theorem zi(is:aO)(ρ:aZ)(j:Nat)(d:D)(h:(i4 is ρ)[j]?=some (some d)):∃d',ρ[j]?=some (some d')/\d=(if j∈is then aS aW d' else d'):=by
 unfold i4 at h;rw[List.getElem?_mapIdx]at h;cases q:ρ[j]? with
 |none=>rw[q]at h;exact nk h
 |some o =>
  rw[q]at h;cases o with
  |none=>simp at h
  |some d' =>
   refine⟨d',rfl,?_⟩;by_cases hj:j∈is
   ·simp[hj]at h ⊢;exact h.symm
   ·simp[hj]at h ⊢;exact h.symm
open Classical in
theorem zj(Si:SI X F R τ ρ σ H)(es:aM H H'):
  ∃R' τ',(∀p,R p->R' p)/\SI X F R' τ' (i4 fv ρ) σ H'/\∀τt:Addr->Option br,(∀p q,τt p=some q->H p=none)->∀(k k':br) (p:Addr) (xs:Nd) (f:Fl),nd X.K R (kg (gP X F) τ fv) τt H' k p xs f->nd X.K R' (λ_=>False) (λ_=>none) H' k' p xs (aW f):=by
 have fC:=Si.go es;have fresh:∀p,H p=none->kg (gP X F) τ fv p:=λp hp=>⟨.inr (Si.same.free hp),λc i e=>absurd hp (Si.th p _ e)⟩
 refine⟨λp=>R p\/(H' p≠none/\kg (gP X F) τ fv p),λp=>if kg (gP X F) τ fv p then none else τ p,λp h=>.inl h,⟨by simp[i4,Si.len],λj d' hj=>?_,λp hp=>?_,λp hp=>?_,λp hp=>?_,λp q hq=>?_,λp q hq=>?_,fC.same⟩,λτt fr k k' p xs f h=>?_⟩
 ·obtain⟨d0,h0,e0⟩:=zi _ _ _ _ hj;obtain⟨w,hw,lI⟩:=fC.rep j d0 h0;refine⟨w,hw,?_⟩;by_cases TQ:j∈fv
  ·rw[if_pos TQ]at e0;subst e0;refine Rep.map (q:=[j]) (q':=[j]) (λ_ _ h=>h) (λc p xs f h=>?_) lI [] rfl;cases f with
   |ow =>
    refine⟨h.1,.inr ⟨h.1.ne,.inr (Si.t0 p _ h.2),λc' i' e'=>?_⟩⟩;rw[h.2]at e';have:=aaX List.getLast? (aar e');simp at this;subst this;exact TQ
   |fz=>exact⟨h.1,.inl h.2⟩
   |al=>exact h.2.elim
   |sc=>exact h
  ·rw[if_neg TQ]at e0;subst e0;refine lI.imp (q:=[j]) (q':=[j]) (λ_ _ h=>h) λc p xs f h=>?_;cases f with
   |ow =>
    refine⟨h.1,?_⟩;show(if kg (gP X F) τ fv p then none else τ p)=some (c++[j]);rw[if_neg (λz=>TQ (z.2 c j h.2))];exact h.2
   |fz=>exact⟨h.1,.inl h.2⟩
   |al=>exact h.2.elim
   |sc=>exact h
 ·rcases hp with hp|hp
  ·simp only[Si.rt p hp];split<;>rfl
  ·rw[if_pos hp.2]
 ·rcases hp with hp|hp
  ·exact fC.rh p hp
  ·exact hp.1
 ·rcases hp with hp|hp
  ·exact Si.rf p hp
  ·exact hp.2.1
 ·split at hq
  ·cases hq
  ·exact fC.th p q hq
 ·split at hq
  ·cases hq
  ·exact Si.t0 p q hq
 ·cases f with
  |ow=>exact⟨h.1,.inr ⟨h.1.ne,fresh p (fr p _ h.2)⟩⟩
  |fz=>exact⟨h.1,.inl h.2⟩
  |al=>exact⟨h.1,.inr ⟨h.1.ne,h.2⟩⟩
  |sc=>exact h
theorem tI{v:V}{d:D}(Si:SI X F R τ ρ σ H)(es:aM H H')(r:cx X.K (gP X F) R τ fv H H' v d):
  ∃R' τ',(∀p,R p->R' p)/\SI X F R' τ' (i4 fv ρ) σ H'/\Rep (aY X.K H') (nd X.K R' (λ_=>False) (λ_=>none) H') [] v (aS aW d):=by
 obtain⟨τt,fr,rp⟩:=r;obtain⟨R',τ',h1,h2,h3⟩:=zj (fv:=fv) Si es;exact⟨R',τ',h1,h2,Rep.j6 (λ_ _ h=>h) (h3 τt fr) rp _⟩
theorem vG(Si:SI X F R τ ρ σ H)(es:aM H H')(r:cF X.K (gP X F) R τ fv H H' vs ds):
  ∃R' τ',(∀p,R p->R' p)/\SI X F R' τ' (i4 fv ρ) σ H'/\aI (aY X.K H') (nd X.K R' (λ_=>False) (λ_=>none) H') [] 0 vs (aF aW ds):=by
 obtain⟨τt,fr,rp⟩:=r;obtain⟨R',τ',h1,h2,h3⟩:=zj (fv:=fv) Si es;exact⟨R',τ',h1,h2,aI.j6 (λ_ _ h=>h) (h3 τt fr) rp _ _⟩
theorem jM{v:V}{d:D}(h:Rep (aY X.K H) (nd X.K R (λ_=>False) (λ_=>none) H) [] v d):i6 X R τ' H v d:=⟨λ_=>none,λ_ _ h=>by simp at h,h⟩
open Classical in
theorem Jq{e:CE}{v:V}{d:D}(Si:SI X F R τ ρ σ H)(es:aM H H')(r:cx X.K (gP X F) R τ (i7 e) H H' v d):
  ∃R' τ',(∀p,R p->R' p)/\SI X F R' τ' (keep e d ρ).2 σ H'/\i6 X R' τ' H' v (keep e d ρ).1:=by
 unfold keep;by_cases ha:bc bZ d=true
 ·rw[if_pos ha];obtain⟨R',τ',h1,h2,h3⟩:=tI Si es r;exact⟨R',τ',h1,h2,jM h3⟩
 ·obtain⟨τt,fr,rp⟩:=r;rw[if_neg ha];refine⟨R,τ,λ_ h=>h,Si.go es,λp=>if H' p=none then none else τt p,λp q hq=>?_,?_⟩
  ·dsimp only at hq;split at hq
   ·cases hq
   ·rename_i hn;have hf:=fr p q hq;refine⟨?_,λhR=>Si.rh p hR hf,Si.same.free hf,hn⟩;cases z:τ p with
    |none=>rfl
    |some k=>exact absurd hf (Si.th p k z)
  ·have TZ:bc bZ d=false:=by simpa using ha
   have st:∀{k:br} {v:V} {d:D},Rep (aY X.K H') (nd X.K R (kg (gP X F) τ (i7 e)) τt H') k v d->bc bZ d=false->Rep (aY X.K H') (nd X.K R (λ_=>False) (λp=>if H' p=none then none else τt p) H') k v d:=by
    intro k v d h ha;exact Rep.kN (P:=bZ) (λ_ _ h=>h) (λk p xs f hf h=>by
     cases f with
     |ow=>exact⟨h.1,by show(if H' p=none then none else τt p)=_;rw[if_neg (h.1.ne)];exact h.2⟩
     |fz=>exact h
     |al=>cases hf
     |sc=>exact h) h ha
   exact st rp TZ
open Classical in
def tK(X:Cx)(F:ak)(Φ:aT)(c:CE):TE:=λσ H Q=>∃R τ ρ r,SI X F R τ ρ σ H/\kr Φ c ρ=ok r/\∀v H' R' τ',aM H H'->(∀p,R p->R' p)->SI X F R' τ' r.2 σ H'->i6 X R' τ' H' v r.1->Q v H'
end
section
variable {T T':mV}{N N':gj}
theorem aI.child{q:br}(hT:∀p xs,T p xs->T' p xs)(hN:∀c m p xs f,N (c++(m::q)) p xs f->N' (c++(m::q)) p xs f):∀{n:Nat} {vs:af} {ds:aa},aI T N q n vs ds->aI T' N' q n vs ds
 |_,_,_,.nil=>.nil
 |n,_,_,.cons h t=>.cons (Rep.imp (q:=n::q) (q':=n::q) hT (λc p xs f h=>hN c n p xs f h) h) (aI.child hT hN t)
theorem aI.IT{q:br}{v:V}{d:D}:∀{n:Nat} {vs:af} {ds:aa},aI T N q n vs ds->Rep T N ((n+ds.length)::q) v d->aI T N q n (vs++[v]) (ds++[d])
 |n,_,_,.nil,h=>.cons (by simpa using h) .nil
 |n,_,_,.cons (ds:=ds) h t,h'=>.cons h (aI.IT t (by
   have e:n+(ds.length+1)=n+1+ds.length:=by left
   rw[List.length_cons,e]at h';exact h'))
end
section
variable {X:Cx}{F R:ak}{τ:Addr->Option br}{ρ:aZ}{σ:St}{H:Hp}
theorem SI.own{i:Nat}(Si:SI X F R τ ρ σ H)(hi:ρ[i]?=some (some (.lst .ow ds))):∃p xs,σ[i]?=some (some (.ref p))/\H p=some (.lst xs)/\xs.length=ds.length/\τ p=some [i]/\aI (aY X.K H) (nd X.K R (λ_=>False) τ H) [i] 0 xs ds:=by
 obtain⟨v,hv,rp⟩:=Si.rep i _ hi;cases rp with
 |lst h r=>exact⟨_,_,hv,h.1,r.length,h.2,r⟩
theorem BU{H:Hp}{p:Addr}{n:Nd}{o:HO}(hp:fZ H p n){a:Addr}{ys:af}(h:aY K H a ys):aY K (upd H p o) a ys:=by
 obtain⟨o0,Of,QU,Oe⟩:=fZ.some hp;have nO:∀a u,H a=some u->u≠o0->a≠p:=λa u e h z=>by subst z;rw[Of]at e;cases e;exact h rfl
 rcases h with (h|⟨o',h⟩)|h
 ·exact .inl (.inl (by rw[aV (nO a _ h λz=>QU _ z.symm)];exact h))
 ·exact .inl (.inr ⟨o',by rw[aV (nO a _ h λz=>Oe _ _ z.symm)];exact h⟩)
 ·exact .inr h
theorem SI.PM{i m:Nat}{v:V}{d d0 d1:D}{p:Addr}{xs':af}{n n':Nd}{o:HO}(Si:SI X F R τ ρ σ H)(hi:ρ[i]?=some (some d0))(hv:σ[i]?=some (some (.ref p)))(hp:fZ H p n)(ht:τ p=some [i])
  (rs:aI (aY X.K H) (nd X.K R (λ_=>False) τ H) [i] 0 xs ds) (rk:i6 X R τ H v d) (za:fZ (upd H p o) p n')
  (mk:∀{N:gj},N [i] p n' .ow->aI (aY X.K (upd H p o)) N [i] 0 xs' ds'->Rep (aY X.K (upd H p o)) N [i] (.ref p) d1)
  (hb:∀{N:gj},aI (aY X.K (upd H p o)) N [i] 0 xs ds->Rep (aY X.K (upd H p o)) N (m::[i]) v d->aI (aY X.K (upd H p o)) N [i] 0 xs' ds') :
  ∃τ',SI X F R τ' (ρ.set i (some d1)) σ (upd H p o):=by
 obtain⟨τt,hτ,rp⟩:=rk;have Jx:i<ρ.length:=by
  by_cases z:i<ρ.length
  ·exact z
  ·rw[List.getElem?_eq_none (by left)]at hi;cases hi
 obtain⟨o0,Of,QU,Oe⟩:=fZ.some hp;have nR:∀a,R a->a≠p:=λa ha e=>by subst e;rw[Si.rt _ ha]at ht;cases ht
 have nT:∀a q,τt a=some q->a≠p:=λa q e z=>by subst z;rw[(hτ _ q e).1]at ht;cases ht
 have nO:∀a u,H a=some u->u≠o0->a≠p:=λa u e h z=>by subst z;rw[Of]at e;cases e;exact h rfl
 have keep:∀a,a≠p->(upd H p o) a=H a:=λa h=>aV h;have My:∀a ys,aY X.K H a ys->aY X.K (upd H p o) a ys:=λa ys h=>by
  rcases h with (h|⟨o',h⟩)|h
  ·exact .inl (.inl (by rw[keep a (nO a _ h λz=>QU _ z.symm)];exact h))
  ·exact .inl (.inr ⟨o',by rw[keep a (nO a _ h λz=>Oe _ _ z.symm)];exact h⟩)
  ·exact .inr h
 have T2:∀a (z:Nd),a≠p->fZ H a z->fZ (upd H p o) a z:=λa z ne h=>h.at λu e=>by rw[keep a ne];exact e
 have ZH:∀{τ1:Addr->Option br} q q' a (z:Nd),nd X.K R (λ_=>False) τ1 H q a z .sc->∀τ2,nd X.K R (λ_=>False) τ2 (upd H p o) q' a z .sc:=λq q' a z h τ2=>by
  obtain⟨ys,rfl,h⟩:=h.IW;exact h.elim (λ⟨o',w⟩=>.inl ⟨o',by rw[keep a (nO a _ w λz=>Oe _ _ z.symm)];exact w⟩) .inr
 have ZI:∀q a ys f,q≠[i]->nd X.K R (λ_=>False) τ H q a ys f->nd X.K R (λ_=>False) (λa=>match τt a with|some q=>some (q++[m,i])|none=>τ a) (upd H p o) q a ys f:=λq a ys f hq h=>by
  cases f with
  |ow =>
   have ne:a≠p:=λz=>by
    subst z;have:=h.2.symm.trans ht;exact hq (aar this)
   refine⟨T2 a ys ne h.1,?_⟩;cases z:τt a with
   |none=>simp only[z];exact h.2
   |some k=>have:=(hτ a k z).1;rw[h.2]at this;cases this
  |fz=>exact⟨T2 a ys (nR a h.2) h.1,h.2⟩
  |al=>exact h.2.elim
  |sc=>exact ZH q q a ys h _
 refine⟨λa=>match τt a with|some q=>some (q++[m,i])|none=>τ a,⟨by simp[Si.len],λj d' hj=>?_,λa ha=>?_,λa ha=>?_,Si.rf,λa q hq=>?_,λa q hq=>?_,?_⟩⟩
 ·by_cases ka:j=i
  ·subst ka;rw[List.getElem?_set_self Jx]at hj;cases hj;refine⟨.ref p,hv,mk ⟨za,?_⟩ (hb (aI.child My (λc n a ys f h=>ZI _ a ys f (λz=>by
    have:=aaX List.length z;simp at this) h) rs) (rp.imp (q:=[]) (q':=[m,j]) My λc a ys f h=>?_))⟩
   ·cases z:τt p with
    |none=>simp only[z];exact ht
    |some k=>exact absurd rfl (nT p k z)
   ·cases f with
    |ow =>
     rw[List.append_nil]at h;exact⟨T2 a ys (nT a _ h.2) h.1,by simp only[h.2]⟩
    |fz=>exact⟨T2 a ys (nR a h.2) h.1,h.2⟩
    |al=>exact h.2.elim
    |sc=>exact ZH _ _ a ys h _
  ·rw[List.getElem?_set_ne (Ne.symm ka)]at hj;obtain⟨u,hu,ru⟩:=Si.rep j d' hj;refine⟨u,hu,ru.imp (q:=[j]) (q':=[j]) My λc a ys f h=>ZI _ a ys f (λz=>?_) h⟩;have:=aaX List.getLast? z;simp at this;exact ka this
 ·cases z:τt a with
  |none=>simp only[z];exact Si.rt a ha
  |some k=>exact absurd ha (hτ a k z).2.1
 ·rw[keep a (nR a ha)];exact Si.rh a ha
 ·by_cases TY:a=p
  ·subst TY;rw[bj];simp
  ·rw[keep a TY];cases z:τt a with
   |none=>simp only[z]at hq;exact Si.th a q hq
   |some k=>exact(hτ a k z).2.2.2
 ·cases z:τt a with
  |none=>simp only[z]at hq;exact Si.t0 a q hq
  |some k=>exact(hτ a k z).2.2.1
 ·intro a u e;have ne:a≠p:=λz=>by subst z;rw[Si.t0 _ _ ht]at e;cases e
  rw[keep a ne];exact Si.same a u e
theorem SI.put{i m:Nat}{v:V}{d:D}{g:af->af}{p:Addr}(Si:SI X F R τ ρ σ H)(hi:ρ[i]?=some (some (.lst .ow ds)))(hv:σ[i]?=some (some (.ref p)))(hp:H p=some (.lst xs))(ht:τ p=some [i])
  (rs:aI (aY X.K H) (nd X.K R (λ_=>False) τ H) [i] 0 xs ds) (rk:i6 X R τ H v d)
  (hb:∀{N:gj},aI (aY X.K (upd H p (.lst (g xs)))) N [i] 0 xs ds->Rep (aY X.K (upd H p (.lst (g xs)))) N (m::[i]) v d->aI (aY X.K (upd H p (.lst (g xs)))) N [i] 0 (g xs) ds') :
  ∃τ',SI X F R τ' (ρ.set i (some (.lst .ow ds'))) σ (upd H p (.lst (g xs))) :=
 Si.PM (n:=.l xs) (n':=.l (g xs)) hi hv hp ht rs rk bj (λh r=>.lst h r) hb
end
theorem kB{env:Env}:∀(names:List (Str×NameKind)) (acc:List (Str×Addr)),(∀x,(x,NameKind.free)∈names->∃c,env.cells.lookup x=some c) ->
  ∃cl,(forIn names acc (λ(y:Str×NameKind) (cs:List (Str×Addr))=>do
    let (name,kind):=y
    let mut cs:=cs
    if kind==.free then cs:=(name,<- cellOf env name)::cs
    pure (ForInStep.yield cs)):Sem (List (Str×Addr)))=pure cl /\
   (∀x c,cl.lookup x=some c->acc.lookup x=some c\/(env.cells.lookup x=some c/\(x,NameKind.free)∈names))/\(∀x,((x,NameKind.free)∈names\/(∃c,acc.lookup x=some c))->∃c,cl.lookup x=some c)
 |[],acc,_=>⟨acc,rfl,λx c h=>.inl h,λx h=>h.elim (λh=>nomatch h) id⟩
 | (n,kd)::names,acc,h=>by
  by_cases hk:kd=.free
  ·subst hk;obtain⟨c,hc⟩:=h n aai;obtain⟨cl,e,h1,h2⟩:=kB names ((n,c)::acc) (λx hx=>h x (aae _ hx));refine⟨cl,?_,λx c' hx=>?_,λx hx=>?_⟩
   ·rw[List.forIn_cons];have e0:cellOf env n=pure c:=by unfold cellOf;rw[hc]
    simp only[beq_self_eq_true,if_true,e0,pure_bind];exact e
   ·rcases h1 x c' hx with z|z
    ·by_cases QK:x=n
     ·subst QK;simp at z;subst z;exact .inr ⟨hc,aai⟩
     ·rw[List.lookup_cons]at z;have:(x==n)=false:=by simpa using QK
      rw[this]at z;exact .inl z
    ·exact .inr ⟨z.1,aae _ z.2⟩
   ·refine h2 x ?_;rcases hx with hx|⟨c',hx⟩
    ·rcases List.mem_cons.mp hx with z|z
     ·cases z;exact .inr ⟨c,by simp⟩
     ·exact .inl z
    ·by_cases QK:x=n
     ·subst QK;exact .inr ⟨c,by simp⟩
     ·refine .inr ⟨c',?_⟩;rw[List.lookup_cons];have:(x==n)=false:=by simpa using QK
      rw[this];exact hx
  ·obtain⟨cl,e,h1,h2⟩:=kB names acc (λx hx=>h x (aae _ hx));have hb:(kd==NameKind.free)=false:=by simpa using hk
   refine⟨cl,?_,λx c' hx=>(h1 x c' hx).imp id λz=>⟨z.1,aae _ z.2⟩,λx hx=>h2 x ?_⟩
   ·rw[List.forIn_cons];simp only[hb,Bool.false_eq_true,if_false,pure_bind];exact e
   ·rcases hx with hx|hx
    ·rcases List.mem_cons.mp hx with z|z
     ·cases z;exact absurd rfl hk
     ·exact .inl z
    ·exact .inr hx
variable {env:Env}
theorem xU{sc:Scope}(h:∀x,(x,NameKind.free)∈sc.names->∃c,env.cells.lookup x=some c):
  ∃cl,closureFor sc env=pure cl/\(∀x c,cl.lookup x=some c->env.cells.lookup x=some c)/\(∀x,(x,NameKind.free)∈sc.names->∃c,cl.lookup x=some c):=by
 obtain⟨cl,e,h1,h2⟩:=kB (env:=env) sc.names [] h;refine⟨cl,?_,λx c hx=>(h1 x c hx).elim (λz=>by simp at z) (·.1),λx hx=>h2 x (.inl hx)⟩;unfold closureFor;simp only[bind_pure];exact e
variable {P prog:aE}{e1 e2 j7 iter target tg:Expr}{w:World}
theorem tT{A:aJ}{R:Result->Shared->Prop}{s:Shared}{elt:Expr}{ifs:aC}{scope:Scope}{it acc:Value}(I:Nat->Shared->Prop)
  (turn:∀n s,I n s->wpAny (model prog w) A (pyNext it) (λr s₁=>match r with
   |none=>R (.ok .next) s₁
   |some v=>wpAny (model prog w) A (letOwnedTupleGo target it v) (λ_ s₁=>wpAny (model prog w) A (assign target env v) (λ_ s₂ =>
     wpAny (model prog w) A (forIn ifs true λc r=>if r=true then do let ok <- isTrue c env (eval c env);pure (ForInStep.yield ok)else pure (ForInStep.yield r)) (λok s₃ =>
      if ok=true then wpAny (model prog w) A (eval elt env) (λx s₄ =>
       wpAny (model prog w) A (call (.builtin "list.append") [acc,x]) (λ_ s₅=>∃m,m<n/\I m s₅) (λ_ _=>False) s₄) (λ_ _=>False) s₃
      else ∃m,m<n/\I m s₃) (λ_ _=>False) s₂) (λ_ _=>False) s₁) (λ_ _=>False) s₁) (λ_ _=>False) s)
  (n:Nat) (h:I n s) :
  codeAny (model prog w) A (.compLoop (.ListComp elt [⟨target,iter,ifs,0⟩] scope pos) 0 it acc env) R s:=by
 refine codeAny_loop rfl I (λn s hI=>?_) n h;show wpAny _ A ((compTurn (.ListComp elt [⟨target,iter,ifs,0⟩] scope pos) 0 it acc env).onRaise (λx=>do noteFrame x env;theTreesLotGoes x)) _ _ s;refine wpAny_noted ?_;rw[compTurn_list];refine aab (ace (aab (aav (turn n s hI) (λr s₁ h₁=>?_) λ_ _ h'=>h'.elim)));cases r with
 |none=>exact aaf h₁
 |some v =>
  refine aab (aav h₁ (λ_ s₂ h₂=>?_) λ_ _ h'=>h'.elim);refine aab (aav h₂ (λ_ s₂ h₂=>aab (aav h₂ (λok s₃ h₃=>?_) λ_ _ h'=>h'.elim)) λ_ _ h'=>h'.elim);cases ok with
  |false=>exact aaf ⟨rfl,h₃⟩
  |true =>
   exact aab (aab (aav h₃ (λx s₄ h₄=>aab (aav h₄ (λ_ s₅ h₅=>aaf (aaf ⟨rfl,h₅⟩)) λ_ _ h'=>h'.elim)) λ_ _ h'=>h'.elim))
noncomputable def eM(X:Cx)(N':ao)(scope:Scope)(cl:List (Str×Addr))(C:Addr)(s₀:Shared)(H₀:Hp)(fp:aR):Cx :=
 { X with N:=N',s₀:=s₀,H₀:=H₀,env:=compEnvC scope cl C X.env,outer:=X.stack,stack:=X.stack,ex:=fp,fn:=λ_=>false,pn:=[],xe:=λ_ _=>False }
theorem fT{env:Env}:∀{names:List (Str×NameKind)} {x:Str} {kd:NameKind},(names.map λ(n,k)=>if (k==NameKind.free&&env.scope.kind==.function&&env.kindOf n==some .cell)then(n,NameKind.cell)else(n,k)).lookup x=some kd ->
  names.lookup x=some kd\/(kd=.cell/\names.lookup x=some .free)
 |[],_,_,h=>by simp at h
 | (n,k)::r,x,kd,h=>by
  rw[List.map_cons]at h;cases hx:x==n with
  |true =>
   by_cases hc:(k==NameKind.free&&env.scope.kind==.function&&env.kindOf n==some .cell)=true
   ·simp only[hc,if_true,List.lookup_cons,hx]at h;cases h;simp only[Bool.and_eq_true,beq_iff_eq]at hc;refine .inr ⟨rfl,?_⟩;rw[List.lookup_cons,hx,hc.1.1]
   ·have wt:(k==NameKind.free&&env.scope.kind==.function&&env.kindOf n==some .cell)=false:=by simpa using hc
    simp only[wt,Bool.false_eq_true,if_false,List.lookup_cons,hx]at h;cases h;exact .inl (by rw[List.lookup_cons,hx])
  |false =>
   have:List.lookup x (r.map λ(n,k)=>if (k==NameKind.free&&env.scope.kind==.function&&env.kindOf n==some .cell)then(n,NameKind.cell)else(n,k))=some kd:=by
    by_cases hc:(k==NameKind.free&&env.scope.kind==.function&&env.kindOf n==some .cell)=true
    ·simp only[hc,if_true,List.lookup_cons,hx]at h;exact h
    ·have wt:(k==NameKind.free&&env.scope.kind==.function&&env.kindOf n==some .cell)=false:=by simpa using hc
     simp only[wt,Bool.false_eq_true,if_false,List.lookup_cons,hx]at h;exact h
   rw[List.lookup_cons,hx];exact fT this
theorem dD{env:Env}:∀{names:List (Str×NameKind)} {x:Str},names.lookup x=some .free ->
  (names.map λ(n,k)=>if (k==NameKind.free&&env.scope.kind==.function&&env.kindOf n==some .cell)then(n,NameKind.cell)else(n,k)).lookup x=some .free \/
  (names.map λ(n,k)=>if (k==NameKind.free&&env.scope.kind==.function&&env.kindOf n==some .cell)then(n,NameKind.cell)else(n,k)).lookup x=some .cell
 |[],_,h=>by simp at h
 | (n,k)::r,x,h=>by
  rw[List.map_cons];cases hx:x==n with
  |true =>
   rw[List.lookup_cons,hx]at h;cases h;by_cases hc:(NameKind.free==NameKind.free&&env.scope.kind==.function&&env.kindOf n==some .cell)=true
   ·simp only[hc,if_true,List.lookup_cons,hx];exact .inr trivial
   ·have wt:(NameKind.free==NameKind.free&&env.scope.kind==.function&&env.kindOf n==some .cell)=false:=by simpa using hc
    simp only[wt,Bool.false_eq_true,if_false,List.lookup_cons,hx];exact .inl trivial
  |false =>
   rw[List.lookup_cons,hx]at h;by_cases hc:(k==NameKind.free&&env.scope.kind==.function&&env.kindOf n==some .cell)=true
   ·simp only[hc,if_true,List.lookup_cons,hx];exact dD h
   ·have wt:(k==NameKind.free&&env.scope.kind==.function&&env.kindOf n==some .cell)=false:=by simpa using hc
    simp only[wt,Bool.false_eq_true,if_false,List.lookup_cons,hx];exact dD h
theorem dR{names:List (Str×NameKind)}{x:Str}{kd:NameKind}(h:names.lookup x=some kd):(x,kd)∈names:=aa1 h
structure kM(S:Sx)(n:Nat)(t:Tg)(caps:aO)(target:Expr)(sc:Scope):Prop where
 kind:sc.kind=.function
 CY:∀y∈sc.names,y.2≠.cell
 loc:∀y∈sc.names,y.2=.local->sc.names.lookup y.1=some .local
 free:∀x,(x,NameKind.free)∈sc.names->S.sc.names.lookup x=some .cell\/S.sc.names.lookup x=some .free
 n:n=(cw target).length
 tl:∀x∈cw target,sc.names.lookup x=some .local
 nd:(cw target++gJ S caps).Nodup
 eH:∀i∈caps,∃x,S.N[i]?=some x/\sc.names.lookup x=some .free
 tg:(∃x p,t=.nm 0/\target=.Name x p)\/(∃es k p,t=.tp (List.range es.length)/\target=.Tuple es k p/\es.all isNm=true)
theorem rS{n:Nat}{t:Tg}{sc:Scope}(h:tW S n t caps target sc=true):kM S n t caps target sc:=by
 unfold tW at h;simp only[Bool.and_eq_true,decide_eq_true_eq,List.all_eq_true,Bool.or_eq_true]at h;obtain⟨⟨⟨⟨⟨⟨h1,h2⟩,h3⟩,h4⟩,h5⟩,h6⟩,h7⟩:=h;refine⟨h1,λy hy=>(h2 y hy).1.1,λy hy hk=>?_,λx hx=>?_,h3,h4,h5,λi hi=>?_,?_⟩
 ·rcases(h2 y hy).1.2 with z|z
  ·exact absurd hk z
  ·exact z
 ·rcases(h2 _ hx).2 with (z|z)|z
  ·exact absurd rfl z
  ·exact .inl z
  ·exact .inr z
 ·have:=h6 i hi;split at this
  ·rename_i x e;exact⟨x,e,aad this⟩
  ·cases this
 ·cases t with
  |nm i =>
   obtain⟨g1,g2⟩:=aL h7;obtain rfl:i=0:=aad g1;cases target<;>first | (cases g2;done)|exact .inl ⟨_,_,rfl,rfl⟩
  |tp is =>
   obtain⟨es,hv,g⟩:=bp h7;obtain⟨k,p,rfl⟩:=kP hv;obtain⟨g1,g2⟩:=aL g;obtain rfl:is=_:=aad g1;exact .inr ⟨es,k,p,rfl,rfl,g2⟩
theorem vZ{S:Sx}:∀{caps:aO},(∀i∈caps,∃x,S.N[i]?=some x)->(gJ S caps).length=caps.length/\∀(j i:Nat),caps[j]?=some i->(gJ S caps)[j]?=S.N[i]?
 |[],_=>⟨rfl,λj i h=>by simp at h⟩
 |i::caps,h=>by
  obtain⟨x,hx⟩:=h i aai;obtain⟨h1,h2⟩:=vZ (caps:=caps) λj hj=>h j (aae _ hj);have e:gJ S (i::caps)=x::gJ S caps:=by unfold gJ;rw[List.filterMap_cons,hx]
  rw[e];refine⟨by simp[h1],λj k hj=>?_⟩;cases j with
  |zero=>simp at hj;subst hj;simp[hx]
  |succ j=>simp at hj ⊢;exact h2 j k hj
variable {base h' h₁:Heap}{ch fp:aR}
section
variable {X:Cx}{S:Sx}{k:Nat}{Φ:aT}{pins:aq}{σ:St}{H2:Hp}{s₂:Shared}
noncomputable def qv(n:Nat)(caps:aO)(σ:St):St:=List.replicate n none++caps.map λi=>σ[i]?.getD none
noncomputable def ff(aK:av)(n:Nat):Obj:={ cls:=.type "list",data:=.seq aK.toArray n }
theorem Ie{n:Nat}{t:Tg}{sc:Scope}{cl:List (Str×Addr)}(L:Lk X S k Φ)(co:kM S n t caps target sc)(I2:Inv X pins σ H2 s₂)
  (nu:∀x c,cl.lookup x=some c->X.env.cells.lookup x=some c) (xD:∀x,(x,NameKind.free)∈sc.names->∃c,cl.lookup x=some c) (Hr:∀b∈fp,qf X pins H2 b) (Fh:∀b∈fp,b<s₂.heap.objs.size) :
  (eM X (cw target++gJ S caps) sc cl (s₂.heap.objs.size+1) s₂ H2 fp).Ok:=by
 have QN:=I2.ki;refine⟨I2.ok.mod,co.kind,I2.ok.glob,I2.ok.blt,abo _,λx y c h1 h2=>I2.ok.inj x y c (nu x c h1) (nu y c h2),λx hx=>?_,(λ_ _ z=>by cases z),I2.ok.hd,I2.ok.frames,.inl rfl,λb hb=>⟨?_,λx c e=>(Hr b hb).2.2.2.2.1 x c (nu x c e)⟩,I2.bs,aaD I2.ok.EK I2.sz,λb o e hb=>?_,λb hb z=>?_,I2.stack,I2.kU⟩
 ·have y6:(relabel sc X.env).names.lookup x=some .cell\/(relabel sc X.env).names.lookup x=some .free:=hx;rcases y6 with y6|y6
  ·rcases fT y6 with z|z
   ·exact absurd rfl (co.CY _ (dR z))
   ·exact xD x (dR z.2)
  ·rcases fT y6 with z|z
   ·exact xD x (dR z)
   ·cases z.1
 ·exact aan (aaL (Fh b hb))
 ·rcases(Hr b hb).2.2.2.1 with z|z
  ·exact I2.ok.ve b o e z
  ·exact absurd (aal (aah e) (aaD I2.ok.EK z)) (aax _)
 ·rcases List.mem_cons.mp (QN b z)with w|w
  ·exact(Hr b hb).2.1 w
  ·exact(Hr b hb).2.2.1 w
theorem Dv{n:Nat}{t:Tg}{sc:Scope}{cl:List (Str×Addr)}{tk:Nat}(L:Lk X S k Φ)(co:kM S n t caps target sc)(I2:Inv X pins σ H2 s₂)
  (nu:∀x c,cl.lookup x=some c->X.env.cells.lookup x=some c) (xD:∀x,(x,NameKind.free)∈sc.names->∃c,cl.lookup x=some c) (Hr:∀b∈fp,qf X pins H2 b) (Fh:∀b∈fp,b<s₂.heap.objs.size)
  (Bn:h₁.Ns (s₂.heap.objs.size+1) λ_=>none) (old:∀b o,s₂.heap.get? b=some o->h₁.get? b=some o) (gI:h₁.get? s₂.heap.objs.size=some (ff [] 0)) :
  Inv (eM X (cw target++gJ S caps) sc cl (s₂.heap.objs.size+1) s₂ H2 fp) [(s₂.heap.objs.size,ff [] 0)] (qv n caps σ) H2 { s₂ with heap:=h₁,toks:=tk }:=by
 have pq:∀i∈caps,∃x,S.N[i]?=some x:=λi hi=>let ⟨x,e,_⟩:=co.eH i hi;⟨x,e⟩;obtain⟨cl1,cl2⟩:=vZ pq;refine⟨Ie L co I2 nu xD Hr Fh,rfl,I2.bare,Un.kept old,⟨_,Bn,λi x v e1 e2 e3=>?_⟩,λx c e=>?_,I2.cA.fresh (abo _),λx c e=>I2.fW x c (nu x c e),λp hp=>?_,I2.cA.kept old,?_⟩
 ·unfold qv at e2;have hi:n<=i:=by
   by_cases hi:i<n
   ·rw[List.getElem?_append_left (by simpa using hi),List.getElem?_replicate,if_pos hi]at e2;cases e2
   ·left
  have Uh:(cw target++gJ S caps)[i]?=some x:=e1;rw[List.getElem?_append_right (by rw[<- co.n];exact hi),<- co.n]at Uh;rw[List.getElem?_append_right (by simpa using hi),List.length_replicate,List.getElem?_map]at e2;cases hc:caps[i - n]? with
  |none=>rw[hc]at e2;cases e2
  |some ci =>
   rw[hc]at e2;rw[cl2 _ _ hc]at Uh;obtain⟨x',Xy,Oj⟩:=co.eH ci (aas hc);rw[Xy]at Uh;cases Uh;have e2':σ[ci]?=some (some v):=by
    have Sh:σ[ci]?.getD none=some v:=aar e2;cases q:σ[ci]? with
    |none=>rw[q]at Sh;cases Sh
    |some o=>rw[q]at Sh;simp at Sh;rw[Sh]
   have Wo:JS X.env.scope x:=by
    unfold JS;rw[L.sc];rcases co.free x (dR Oj)with z|z
    ·exact .inr (.inl z)
    ·exact .inr (.inr z)
   obtain⟨m,hn,hl⟩:=I2.loc;obtain⟨u,r,lk⟩:=hl ci x v (by rw[L.N];exact Xy) e2' Wo;refine⟨u,r,.inr ⟨?_,?_⟩⟩
   ·rcases dD (env:=X.env) Oj with z|z
    ·exact .inr z
    ·exact .inl z
   ·have hcx:∃c,X.env.cells.lookup x=some c/\s₂.heap.IsCell c (some u):=by
     rcases lk with ⟨z,_⟩|⟨_,z⟩
     ·have z':X.env.scope.names.lookup x=some .local:=z;rw[L.sc]at z';rcases co.free x (dR Oj)with w|w<;>(rw[w]at z';cases z')
     ·exact z
    obtain⟨c,ec,o,ho,hd⟩:=hcx;obtain⟨c',ZV⟩:=xD x (dR Oj);have:=nu x c' ZV;rw[ec]at this;cases this;exact⟨c,ZV,o,old _ _ ho,hd⟩
 ·obtain⟨v,o,ho,hd⟩:=I2.cell x c (nu x c e);exact⟨v,o,old _ _ ho,hd⟩
 ·have vw:p=(s₂.heap.objs.size,ff [] 0):=by simpa [eM]using hp
  subst vw;refine⟨gI,I2.cA.fresh (aak _),aan (aa5 _),λz=>?_,λv z=>by cases z⟩;rcases List.mem_cons.mp (I2.ki _ z)with w|w
  ·exact absurd w (aau I2.lt)
  ·exact I2.Lp (aak _) w
 ·show(qv n caps σ).length=(cw target++gJ S caps).length;unfold qv;rw[List.length_append,List.length_append,List.length_replicate,List.length_map,cl1,co.n]
end
theorem aI.snoc{T:mV}{N:gj}{k:br}:∀{n:Nat} {vs:af} {ds:aa} {v:V} {d:D},aI T N k n vs ds->Rep T N ((n+ds.length)::k) v d->aI T N k n (vs++[v]) (ds++[d])
 |n,_,_,_,_,.nil,h=>.cons h .nil
 |n,_,_,_,_,.cons (ds:=ds) h t,r=>.cons h (aI.snoc t (by
  have e:n+(ds.length+1)=n+1+ds.length:=by left
  rw[List.length_cons,e]at r;exact r))
open Classical in
theorem cF.snoc{K:au}{G R:ak}{τ:Addr->Option br}{fv:aO}{H H1 H2:Hp}{v:V}{d:D}{vs:af}{ds:aa}(e1:aM H H1)(e2:aM H1 H2)(h:cF K G R τ fv H H1 vs ds)(t:cx K G R τ fv H1 H2 v d):
  cF K G R τ fv H H2 (vs++[v]) (ds++[d]):=by
 obtain⟨τ1,f1,h1⟩:=h;obtain⟨τ2,f2,h2⟩:=t;refine⟨λp=>if H1 p=none then(τ2 p).map (· ++ [ds.length])else τ1 p,λp q hq=>?_,aI.snoc (h1.imp (q:=[]) (q':=[]) (λ_ _ h=>aY.same e2 h) λc p xs f h=>?_) ((Nat.zero_add ds.length).symm▸h2.imp (q:=[]) (q':=[ds.length]) (λ_ _ h=>h) λc p xs f h=>?_)⟩
 ·dsimp only at hq;by_cases hp:H1 p=none
  ·exact e1.free hp
  ·rw[if_neg hp]at hq;exact f1 p q hq
 ·have h':=nd.same e2 h;cases f with
  |ow =>
   refine⟨h'.1,?_⟩;show(if H1 p=none then(τ2 p).map (· ++ [ds.length])else τ1 p)=_;rw[if_neg (h.1.ne)];exact h.2
  |fz=>exact h'
  |al=>exact h'
  |sc=>exact h'
 ·cases f with
  |ow =>
   refine⟨h.1,?_⟩;show(if H1 p=none then(τ2 p).map (· ++ [ds.length])else τ1 p)=_;rw[if_pos (f2 p _ h.2),h.2];simp
  |fz=>exact h
  |al=>exact h
  |sc=>exact h
structure Yl(K:au)(J:It)(R:ak)(H1:Hp)(items:aa):Prop where
 go:∀i H',aM H1 H'->i<items.length->J.go i H'
 wj:∀i H' x lK,aM H1 H'->i<items.length->J.wj i H' x lK->aM H' lK/\∃d,items[i]?=some d/\Rep (aY K lK) (nd K R (λ_=>False) (λ_=>none) lK) [] x d
 stop:∀i H',aM H1 H'->items.length<=i->J.stop i H'
variable {C i1 i2 it l1 l2:Addr}{s₂:Shared}
section
variable {X:Cx}{S:Sx}{k:Nat}{F:ak}{Φ:aT}
def lQ(X:Cx)(F:ak)(τ:Addr->Option br)(fv:aO)(H2:Hp)(p:Addr):Prop:=H2 p≠none/\kg (gP X F) τ fv p
theorem wV{τt:Addr->Option br}(Si:SI X F R τ ρ σ H)(fr:∀p q,τt p=some q->H p=none)(hs:∀i∈fv,i∈fv')(kp kq:br)(p:Addr)(xs:Nd)(f:Fl)
  (h:nd X.K R (kg (gP X F) τ fv) τt H2 kp p xs f):nd X.K (lQ X F τ fv' H2) (λ_=>False) (λ_=>none) H2 kq p xs (aW f):=by
 cases f with
 |ow=>exact⟨h.1,h.1.ne,.inr (Si.same.free (fr p _ h.2)),λc i e=>absurd (fr p _ h.2) (Si.th p _ e)⟩
 |fz=>exact⟨h.1,h.1.ne,Si.rf p h.2,λc i e=>by rw[Si.rt p h.2]at e;cases e⟩
 |al=>exact⟨h.1,h.1.ne,h.2.mono hs⟩
 |sc=>exact h
theorem FE{a:Addr}{q:br}(hl:dH X.K H1 a xs)(rs:aI (aY X.K H1) (nd X.K R (λ_=>False) (λ_=>none) H1) q 0 xs items):Yl X.K (OK X.K a) R H1 items where
 go:=λi H' e hi=>⟨xs,xs[i]'(by rw[rs.length];exact hi),e.seq hl,aam _⟩
 wj:=λi H' x lK e hi y=>by
  obtain⟨rfl,y⟩:=y;obtain⟨d,hd,rd⟩:=rs.tH (y xs (e.seq hl));refine⟨aM.refl _,d,hd,?_⟩;have:=Rep.j6 (g:=id) (λ_ _ h=>h) nd.zk rd [];rw[fG]at this;exact this.imp (λ_ _ h=>aY.same e h) λ_ _ _ _ h=>nd.same e h
 stop:=λi H' e hi=>⟨xs,e.seq hl,by rw[rs.length];exact hi⟩
theorem JZ{a:Addr}{q:br}(hl:aY X.K H1 a xs)(rs:aI (aY X.K H1) (nd X.K R (λ_=>False) (λ_=>none) H1) q 0 xs items):Yl X.K (OJ X.K a) R H1 items where
 go:=λi H' e hi=>⟨xs,xs[i]'(by rw[rs.length];exact hi),aY.same e hl,aam _⟩
 wj:=λi H' x lK e hi y=>by
  obtain⟨rfl,y⟩:=y;obtain⟨d,hd,rd⟩:=rs.tH (y xs (aY.same e hl));refine⟨aM.refl _,d,hd,?_⟩;have:=Rep.j6 (g:=id) (λ_ _ h=>h) nd.zk rd [];rw[fG]at this;exact this.imp (λ_ _ h=>aY.same e h) λ_ _ _ _ h=>nd.same e h
 stop:=λi H' e hi=>⟨xs,aY.same e hl,by rw[rs.length];exact hi⟩
theorem J0{lo:Int}{n:Nat}:Yl X.K (Bd lo n) R H1 ((List.range n).map λ(k:Nat)=>D.int (lo+(k:Int))) where
 go:=λi H' e hi=>by simpa [Bd]using hi
 wj:=λi H' x lK e hi y=>by
  obtain⟨rfl,rfl⟩:=y;have iu:i<n:=by simpa using hi
  exact⟨aM.refl _,.int (lo+i),by rw[List.getElem?_map,List.getElem?_range iu];rfl,.int _⟩
 stop:=λi H' e hi=>by simpa [Bd]using hi
theorem B2{n:Nat}{t:Tg}{sc:Scope}{cl:List (Str×Addr)}(Si:SI X F R τ ρ σ H2)(hs:∀i∈caps,i∈fv):
  SI (eM X (cw target++gJ S caps) sc cl C s₂ H2 fp) (kg (gP X F) τ fv) (lQ X F τ fv H2) (λ_=>none) (bw n caps ρ) (qv n caps σ) H2:=by
 refine⟨by simp[bw,qv],λi d hi=>?_,λ_ _=>rfl,λp h=>h.1,λp h=>.inl h.2,λ_ _ h=>by simp at h,λ_ _ h=>by simp at h,aM.refl _⟩;unfold bw at hi;have hn:n<=i:=by
  by_cases hn:i<n
  ·rw[List.getElem?_append_left (by simpa using hn),List.getElem?_replicate,if_pos hn]at hi;cases hi
  ·left
 rw[List.getElem?_append_right (by simpa using hn),List.length_replicate,List.getElem?_map]at hi;cases hc:caps[i - n]? with
 |none=>rw[hc]at hi;exact nk hi
 |some ci =>
  rw[hc]at hi;have iu:(ρ[ci]?.getD none).map (aS aW)=some d:=aar hi;have hr:∃d0,ρ[ci]?=some (some d0)/\aS aW d0=d:=by
   cases q:ρ[ci]? with
   |none=>rw[q]at iu;cases iu
   |some o =>
    cases o with
    |none=>rw[q]at iu;cases iu
    |some d0=>rw[q]at iu;exact⟨d0,rfl,aar iu⟩
  obtain⟨d0,h0,rfl⟩:=hr;obtain⟨v,hv,rv⟩:=Si.rep ci d0 h0;refine⟨v,?_,Rep.j6 (λ_ _ h=>h) (λkp kq p xs f h=>?_) ((rv.imp (q:=[ci]) (q':=[ci]) (N':=λq p xs f=>nd X.K R (λ_=>False) τ H2 q p xs f/\(f=.ow->∃c,q=c++[ci])) (λ_ _ h=>h) λc p xs f h=>⟨h,λ_=>⟨c,rfl⟩⟩)) [i]⟩
  ·unfold qv;rw[List.getElem?_append_right (by simpa using hn),List.length_replicate,List.getElem?_map,hc];simp[hv]
  ·obtain⟨h,hq⟩:=h;cases f with
   |ow =>
    obtain⟨c,rfl⟩:=hq rfl;refine⟨h.1,h.1.ne,.inr (Si.t0 p _ h.2),λc' i' e=>?_⟩;rw[h.2]at e;have:=aaX List.getLast? (aar e);simp at this;subst this;exact hs _ (aas hc)
   |fz=>exact⟨h.1,h.1.ne,Si.rf p h.2,λc i e=>by rw[Si.rt p h.2]at e;cases e⟩
   |al=>exact h.2.elim
   |sc=>exact h
theorem CZ:∀{es:aC},es.all isNm=true->∃xs:List (Str×Pos),es=xs.map λx=>Expr.Name x.1 x.2
 |[],_=>⟨[],rfl⟩
 |e::es,h=>by
  rw[List.all_cons,Bool.and_eq_true]at h;obtain⟨xs,rfl⟩:=CZ h.2;cases e<;>simp[isNm]at h;exact⟨(_,_)::xs,rfl⟩
theorem wM(xs:List (Str×Pos)):(xs.map λx=>Expr.Name x.1 x.2).filterMap (λe=>match e with|.Name x _=>some x|_=>none)=xs.map (·.1):=by
 induction xs with
 |nil=>rfl
 |cons x xs ih=>simp[ih]
def DY(i:Nat):Nat->Iw
 |0=>MF
 |n+1=>DZ (pA i) (DY (i+1) n)
theorem yN{X:Cx}(hN:X.N.Nodup):∀(xs:List (Str×Pos)) (i:Nat),(∀(j:Nat) x,xs[j]?=some x->X.N[i+j]?=some x.1/\X.env.scope.names.lookup x.1=some .local) ->
  OI X (xs.map λx=>Expr.Name x.1 x.2) (DY i xs.length)/\(assignEach (xs.map λx=>Expr.Name x.1 x.2) X.env).length=xs.length/\(assignEach (xs.map λx=>Expr.Name x.1 x.2) X.env).findIdx? (·.1)=none
 |[],_,_=>⟨yM,rfl,rfl⟩
 |x::xs,i,h=>by
  obtain⟨h1,h2,h3⟩:=yN hN xs (i+1) λj y hy=>by
   have:=h (j+1) y (by simpa using hy)
   rwa [show i+(j+1)=i+1+j by left]at this
  obtain⟨g1,g2⟩:=h 0 x rfl;refine⟨uX (sQ hN g1 (.inl g2) (.inr g2)) h1 rfl,?_,?_⟩
  ·show(_::assignEach _ X.env).length=_;rw[List.length_cons,h2];rfl
  ·show(((false,assign (.Name x.1 x.2) X.env)::assignEach (xs.map λx=>Expr.Name x.1 x.2) X.env)).findIdx? (·.1)=none;rw[List.findIdx?_cons];simp[h3]
end
section
variable {X:Cx}{F R:ak}{τ:Addr->Option br}{ρ:aZ}{σ σ':St}{H:Hp}
theorem SI.Pp{i:Nat}{v:V}{d:D}(Si:SI X F R τ ρ σ H)(rp:Rep (aY X.K H) (nd X.K R (λ_=>False) (λ_=>none) H) [] v d)(hi:i<ρ.length):SI X F R τ (ρ.set i (some d)) (σ.set i (some v)) H:=by
 refine⟨by simp[Si.len],λj d' hj=>?_,Si.rt,Si.rh,Si.rf,Si.th,Si.t0,Si.same⟩;by_cases ka:j=i
 ·subst ka;rw[List.getElem?_set_self hi]at hj;cases hj;refine⟨v,List.getElem?_set_self (by rw[<- Si.len];exact hi),rp.imp (q':=[j]) (λ_ _ h=>h) λc p xs f h=>?_⟩;cases f with
  |ow=>exact nomatch h.2
  |fz=>exact h
  |al=>exact h
  |sc=>exact h
 ·rw[List.getElem?_set_ne (Ne.symm ka)]at hj;obtain⟨w,hw,lI⟩:=Si.rep j d' hj;exact⟨w,by rw[List.getElem?_set_ne (Ne.symm ka)];exact hw,lI⟩
theorem SI.sig(Si:SI X F R τ ρ σ H)(hl:σ'.length=σ.length)(h:∀(i:Nat) d,ρ[i]?=some (some d)->σ'[i]?=σ[i]?):SI X F R τ ρ σ' H :=
 ⟨by rw[hl];exact Si.len,λi d hi=>let ⟨v,hv,r⟩:=Si.rep i d hi;⟨v,by rw[h i d hi];exact hv,r⟩,Si.rt,Si.rh,Si.rf,Si.th,Si.t0,Si.same⟩
theorem oO{Q:St->Hp->Prop}(σ0:St)(hi:Nat):∀{m i:Nat} {vs:af} {ds:aa} {kp:br} {q:Nat} {σ:St} {ρ ρ':aZ},i+m=hi->aI (aY X.K H) (nd X.K R (λ_=>False) (λ_=>none) H) kp q vs ds->SI X F R τ ρ σ H->iP (List.range' i m) ds ρ=ok ρ' ->
  σ.length=σ0.length->(∀j,hi<=j->σ[j]?=σ0[j]?)->(∀σ',σ'.length=σ0.length->(∀j,hi<=j->σ'[j]?=σ0[j]?)->SI X F R τ ρ' σ' H->Q σ' H)->DY i m vs σ H Q
 |0,_,_,_,_,_,σ,_,_,_,.nil,Si,e,h1,h2,hq=>by
  cases e;exact⟨rfl,hq σ h1 h2 Si⟩
 |0,_,_,_,_,_,_,_,_,_,.cons _ _,_,e,_,_,_=>by cases e
 |m+1,_,_,_,_,_,_,_,_,_,.nil,_,e,_,_,_=>by cases e
 |m+1,i,_,_,_,_,σ,ρ,_,him,.cons (v:=v) (d:=d) h t,Si,e,h1,h2,hq=>by
  change (if _ then _ else _)=_ at e;split at e
  ·rename_i iu;have fC:=Si.Pp (i:=i) (Rep.lZ h) iu;refine⟨_,_,rfl,oO σ0 hi (by left) t fC e (by simpa using h1) (λj hj=>?_) hq⟩;rw[List.getElem?_set_ne (by left)];exact h2 j hj
  ·cases e
end
section
variable {X:Cx}{S:Sx}{k:Nat}{F:ak}{Φ:aT}
theorem J_{n:Nat}{t:Tg}{sc:Scope}{cl:List (Str×Addr)}(Rm:X.calm=true)(co:kM S n t caps target sc):
  ∃g,PG (eM X (cw target++gJ S caps) sc cl C s₂ H2 fp) target g/\∀(F' R':ak) (x:V) (d:D) (σ':St) (lK:Hp) (Q:St->Hp->Prop) (ρb ρ1:aZ),
   SI (eM X (cw target++gJ S caps) sc cl C s₂ H2 fp) F' R' (λ_=>none) ρb σ' lK->Rep (aY X.K lK) (nd X.K R' (λ_=>False) (λ_=>none) lK) [] x d->bc d_ d=false->bT t d ρb=ok ρ1 ->
   (∀σ2,σ2.length=σ'.length->(∀j,n<=j->σ2[j]?=σ'[j]?)->SI (eM X (cw target++gJ S caps) sc cl C s₂ H2 fp) F' R' (λ_=>none) ρ1 σ2 lK->Q σ2 lK)->g x σ' lK Q:=by
 have Mj:∀x∈cw target,(relabel sc X.env).names.lookup x=some .local:=λx hx=>lookup_relabel_local (co.tl x hx);rcases co.tg with ⟨x,p,rfl,rfl⟩|⟨es,kk,p,rfl,rfl,AN⟩
 ·have hn:n=1:=co.n;subst hn;refine⟨pA 0,sQ co.nd rfl (.inl (Mj x (List.mem_singleton.mpr rfl:x∈[x]))) (.inr (Mj x (List.mem_singleton.mpr rfl:x∈[x]))),λF' R' v d σ' lK Q ρb ρ1 Si rp _ e hq=>?_⟩;simp only[bT]at e;split at e
  ·rename_i hi;cases e;refine hq _ (by simp) (λj hj=>?_) (Si.Pp rp hi);rw[List.getElem?_set_ne (by left)]
  ·cases e
 ·obtain⟨xs,rfl⟩:=CZ AN;have hN:cw (.Tuple (xs.map λx=>Expr.Name x.1 x.2) kk p)=xs.map (·.1):=wM xs;have hn:n=xs.length:=by rw[co.n,hN,List.length_map]
  have:=yN (X:=eM X (cw (.Tuple (xs.map λx=>Expr.Name x.1 x.2) kk p)++gJ S caps) sc cl C s₂ H2 fp) co.nd xs 0 (λj y hy=>by
   refine⟨?_,Mj y.1 (by rw[hN];exact List.mem_map.mpr ⟨y,aas hy,rfl⟩)⟩;show(cw (.Tuple (xs.map λx=>Expr.Name x.1 x.2) kk p)++gJ S caps)[0+j]?=_;have hj:j<xs.length:=by
    by_cases hj:j<xs.length
    ·exact hj
    ·rw[List.getElem?_eq_none (by left)]at hy;cases hy
   rw[hN,Nat.zero_add,List.getElem?_append_left (by simpa using hj),List.getElem?_map,hy];rfl)
  obtain⟨h1,h2,h3⟩:=this;refine⟨_,Cw Rm h1 h2 h3,λF' R' v d σ' lK Q ρb ρ1 Si rp ho e hq=>?_⟩;cases d<;>try (simp[bT]at e;done)
  rename_i ds;simp only[bT]at e;split at e
  ·cases e
  ·cases rp with
   | @tup _ a ys _ hp rs =>
    rw[List.length_map]at e;have e':iP (List.range' 0 xs.length) ds ρb=ok ρ1:=by rw[<- List.range_eq_range'];exact e
    refine⟨a,ys,rfl,hp,?_,oO (X:=eM X (cw (.Tuple (xs.map λx=>Expr.Name x.1 x.2) kk p)++gJ S caps) sc cl C s₂ H2 fp) σ' n (by left) rs Si e' rfl (λ_ _=>rfl) hq⟩;rw[rs.length];have:∀(is:aO) (ds:aa) (ρ ρ':aZ),iP is ds ρ=ok ρ'->ds.length=is.length:=by
     intro is;induction is with
     |nil=>intro ds ρ ρ' e;cases ds with|nil=>rfl|cons _ _=>cases e
     |cons i is ih=>intro ds ρ ρ' e;cases ds with
      |nil=>cases e
      |cons d ds =>
       change (if _ then _ else _)=_ at e;split at e
       ·simp[ih ds _ _ e]
       ·cases e
    rw[this _ _ _ _ e',List.length_range']
theorem YO:∀f:Fl,d_ (aW f)=false:=by intro f;cases f<;>rfl
mutual
theorem GX:∀d:D,bc d_ (aS aW d)=false
 |.bV=>by simp[aS,bc]
 |.bl _=>by simp[aS,bc]
 |.int _=>by simp[aS,bc]
 |.tup ds=>by simp[aS,bc,gZ ds]
 |.lst f ds=>by simp[aS,bc,gZ ds,YO]
 |.cO f ks vs=>by simp[aS,bc,gZ vs,YO]
theorem gZ:∀ds:aa,aQ d_ (aF aW ds)=false
 |[]=>by simp[aF,aQ]
 |d::ds=>by simp[aF,aQ,GX d,gZ ds]
end
theorem y9{h:Heap}{a:Addr}{o:HO}(x:jZ P w H h)(hn:H a=none)(new:cS P w (upd H a o) h a o):jZ P w (upd H a o) h:=λb u e=>by
 by_cases hb:b=a
 ·subst hb;rw[bj]at e;cases e;exact new
 ·rw[aV hb]at e;exact(x b u e).i_ (λc v _ q=>q) (λc q=>by rw[aV (b_ q hn)];exact q) λc xs q=>by rw[aV (b_ q hn)];exact q
structure CAt(X X':Cx)(F' R':ak)(n:Nat)(base:aZ)(σ0:St)(fp:aR)(tn:Nat->Heap->Prop)(H2:Hp)(D:Addr)(items:List DI.D)(bind:DI.D->O aZ)(test:aZ->O Bool)(el:aZ->O DI.D)(all:List DI.D)(m:Nat)(s':Shared):Prop where
 ex:∃(i:Nat) (vs:af) (aK:av) (nn:Nat) (σ':St) (H':Hp) (dn rest:List DI.D),m=items.length - i/\i<=items.length/\Inv X' [(D,ff aK nn)] σ' H' s'/\tn i s'.heap/\(∀b∈fp,H' b=none)/\Vals vs aK/\aM H2 H' /\
  SI X' F' R' (λ_=>none) base σ' H'/\cF X.K (gP X' F') R' (λ_=>none) [] H2 H' vs dn/\iV bind test el (items.drop i)=ok rest/\dn++rest=all
end
theorem cF.go(h:cF K G R τ fv H H1 vs ds)(e:aM H1 H2):cF K G R τ fv H H2 vs ds :=
 let ⟨τt,h1,h2⟩:=h;⟨τt,h1,h2.imp (λ_ _ h=>aY.same e h) λ_ _ _ _ h=>nd.same e h⟩
theorem oZ:∀{ds:aa} {d:D},aQ d_ ds=false->d∈ds->bc d_ d=false
 |[],_,_,h=>nomatch h
 |e::ds,d,h,hm=>by
  rw[aQ,Bool.or_eq_false_iff]at h;rcases List.mem_cons.mp hm with rfl|z
  ·exact h.1
  ·exact oZ h.2 z
theorem Ak{d:D}(h:m9 d=ok items):∀d∈items,bc d_ d=false:=by
 unfold m9 at h;split at h
 ·cases h;exact λd hd=>oZ (gZ _) hd
 ·cases h
theorem xu{ik:IK}{xs:aa}(h:eL Φ ik xs=ok items):∀d∈items,bc d_ d=false:=by
 cases ik with
 |cI p=>obtain⟨d,_,h⟩:=aH h;exact Ak h
 |jK =>
  cases xs with
  |nil=>cases h
  |cons x t=>cases x<;>first | (cases h;done) | (cases t with
   |cons _ _=>cases h
   |nil =>
    obtain⟨_,h⟩:=qk h;subst h;intro d hd;obtain⟨k,_,rfl⟩:=List.mem_map.mp hd;rfl)
 |seq =>
  cases xs with
  |nil=>cases h
  |cons x t=>cases x<;>first | (cases h;done) | (cases t with
   |cons _ _=>cases h
   |nil=>cases h;exact λd hd=>oZ (gZ _) hd)
theorem xx{n:Nat}{i:Nat}{d:D}(h:(bw n caps ρ)[i]?=some (some d)):n<=i:=by
 unfold bw at h;by_cases hn:i<n
 ·rw[List.getElem?_append_left (by simpa using hn),List.getElem?_replicate,if_pos hn]at h;cases h
 ·left
variable {c' elt:CE}{bO cs es:aD}
section
variable {X:Cx}{S:Sx}{k:Nat}{F:ak}{Φ:aT}
theorem Dd{n:Nat}{t:Tg}{sc:Scope}{cl:List (Str×Addr)}(L:Lk X S k Φ)(co:kM S n t caps target sc):
  Lk (eM X (cw target++gJ S caps) sc cl C s₂ H2 fp) (S.inner target caps sc) k Φ:=by
 refine⟨?_,rfl,co.nd,L.calm,L.room,L.bl,λf x h=>⟨(L.fn f x h).ex⟩,L.cs,L.pr⟩;show relabel sc X.env=uU sc S.sc;rw[<- L.sc];rfl
theorem vW(L:Lk X S k Φ){n:Nat}{t:Tg}{ik:IK}{ifs:aC}{sc:Scope}(co:kM S n t caps target sc)(Bn:jf iter=true)
    (hE:∀(X':Cx) (F':ak),Lk X' (S.inner target caps sc) k Φ->PE X' j7 (tD X' F' Φ elt))
    (hC:(bO=[]/\ifs=[])\/∃c e,bO=[c]/\ifs=[e]/\∀(X':Cx) (F':ak),Lk X' (S.inner target caps sc) k Φ->PT X' e (gW X' F' Φ c))
    (hI:∀(pins:aq) (s:Shared) (σ:St) (H:Hp) (R:ak) (τ:Addr->Option br) (ρ:aZ) (xs items:aa),Inv X pins σ H s->SI X F R τ ρ σ H->cf Φ es ρ=ok xs->eL Φ ik xs=ok items->∀Rr:It->Hp->Prop,
      (∀J H2,aM H H2->Yl X.K J (lQ X F τ (caps++dF es) H2) H2 items->Rr J H2)->wpAny (model X.prog X.w) X.A (eval iter X.env) (λv s1=>wpAny (model X.prog X.w) X.A (pyIter v) (Bt X pins σ target Rr) X.xe s1) X.xe s)
    {use:Option (Value->Sem Unit)} {Post:aB} {pins:aq} {s:Shared} {d:D} {Xs:Pos} (I:Inv X pins σ H s) (Si:SI X F R τ ρ σ H) (ev:bz Φ (.comp n t caps ik es bO elt) ρ=ok d)
    (QV:∀(acc C:Addr) (H1:Hp) (s1:Shared) (m:aU),s1.heap.Ns C m->(C≠X.env.locals/\X.s₀.heap.objs.size<=C/\(∀x c,X.env.cells.lookup x=some c->c≠C)/\(∀p∈X.pn++pins,p.1≠C)/\H1 C=none)->(∀h',Heap.SameBut C s1.heap h'->Inv X pins σ H1 { s1 with heap:=h' })->aM H H1 ->
      cx X.K (gP X F) R τ (i7 (.comp n t caps ik es bO elt)) H H1 (.ref acc) d->compPost (model X.prog X.w) X.A X.xe use Post (.ref acc) C (.ok .next) s1) :
    wpAny (model X.prog X.w) X.A (comprehension (.ListComp j7 [⟨target,iter,ifs,0⟩] sc pos) sc X.env Xs (newList []) false (eval iter X.env) use) Post X.xe s:=by
  obtain⟨xs,cn,ev⟩:=aH ev;obtain⟨items,xP,ev⟩:=aH ev;obtain⟨ds,Ni,ev⟩:=aH ev;simp only[Jt]at ev;obtain⟨pq,rfl⟩:=ev;have Q5:=xu xP;obtain⟨cl,Rl,nu,xD⟩:=xU (env:=X.env) (sc:=sc) (λx hx=>I.ok.has x (by
    show X.env.scope.names.lookup x=some .cell\/X.env.scope.names.lookup x=some .free;rw[L.sc];exact co.free x hx))
  have kb:∀x,foldedSetIterable iter X.env x=pure x:=by intro x;cases iter<;>first|rfl | (cases Bn;done)
  refine wpAny_comprehension_free (use:=use) rfl kb Rl co.kind co.loc (aav (hI pins s σ H R τ ρ xs items I Si cn xP (λJ H2=>aM H H2/\Yl X.K J (lQ X F τ (caps++dF es) H2) H2 items) (λJ H2 e y=>⟨e,y⟩)) (λxv s₁ h₁=>aav h₁ (λV_ s₂ h₂=>?_) λ_ _ e=>e) λ_ _ e=>e);obtain⟨it,fp,tn,J,H2,rfl,I2,T,Ph,f2,e2,yl⟩:=h₂;have Bc:=Si.go e2;have Fh:∀b∈fp,b<s₂.heap.objs.size:=λb hb=>let ⟨o,ho,_⟩:=T.obj 0 _ Ph b hb;aah ho;refine aaE (wpAny_newFunctionEnv co.CY (by intro y hy;simp at hy) (λh₁ tw pj=>?_) co.kind);dsimp only at tw pj ⊢;generalize WZ:s₂.heap.push { cls:=.type "list",dict:=none,data:=.seq ([]:av).toArray }=G2 at tw pj ⊢;have ZK:G2.objs.size=s₂.heap.objs.size+1:=by rw[<- WZ,Heap.size_push]
  have T1:s₂.heap.objs.size≠s₂.heap.objs.size+1:=aan (aa5 _);rw[ZK]at tw pj;have old:∀b o,s₂.heap.get? b=some o->h₁.get? b=some o:=λb o e=>pj.extBut b o (aan (aaL (aah e))) (aag _ (WZ▸aag _ e));have gI:h₁.get? s₂.heap.objs.size=some (ff [] 0):=pj.extBut _ _ T1 (aag _ (WZ▸aao _ rfl))
  let X':=eM X (cw target++gJ S caps) sc cl (s₂.heap.objs.size+1) s₂ H2 fp
  let F':=kg (gP X F) τ (caps++dF es)
  let R':=lQ X F τ (caps++dF es) H2
  have L':Lk X' (S.inner target caps sc) k Φ:=Dd L co;have I4:=λtk=>Dv (h₁:=h₁) (tk:=tk) L co I2 nu xD f2 Fh (by simpa using tw) old gI;have S4:SI X' F' R' (λ_=>none) (bw n caps ρ) (qv n caps σ) H2:=B2 (t:=t) Bc (λi hi=>by simp[hi]);obtain⟨g,hg,vx⟩:=J_ (X:=X) (S:=S) (cl:=cl) (fp:=fp) (s₂:=s₂) (H2:=H2) (C:=s₂.heap.objs.size+1) L.calm co;have W0:s₂.heap.objs.size∉X'.fs:=λz=>by
    rcases List.mem_cons.mp (I2.ki _ z)with w|w
    · exact absurd w (aau I2.lt)
    · exact I2.Lp (aak _) w
  have Mn:∀x c,cl.lookup x=some c->c≠s₂.heap.objs.size:=λx c e=>by
    obtain⟨v,q⟩:=I2.cell x c (nu x c e);exact aan q.lt
  have Hq:∀b∈fp,b≠X'.env.locals/\b∉X'.fs/\(b∈X'.ex\/X'.s₀.heap.objs.size<=b)/\(∀x c,X'.env.cells.lookup x=some c->c≠b):=λb hb =>
    ⟨aan (aaL (Fh b hb)),λz=>by
      rcases List.mem_cons.mp (I2.ki b z)with w|w
      · exact(f2 b hb).2.1 w
      · exact(f2 b hb).2.2.1 w,.inl hb,λx c e=>(f2 b hb).2.2.2.2.1 x c (nu x c e)⟩
  have Rf:∀b∈fp,b≠s₂.heap.objs.size:=λb hb=>aan (Fh b hb);have fin:∀(vs:af) (aK:av) (nn:Nat) (σ':St) (H':Hp) (s1:Shared),Inv X' [(s₂.heap.objs.size,ff aK nn)] σ' H' s1->Vals vs aK->aM H2 H'->cF X.K (gP X' F') R' (λ_=>none) [] H2 H' vs ds ->
      compPost (model X.prog X.w) X.A X.xe use Post (.ref s₂.heap.objs.size) (s₂.heap.objs.size+1) (.ok .next) s1:=by
    intro vs aK nn σ' H' s1 I1 rv sm Gu;obtain⟨m,hn,_⟩:=I1.loc;obtain⟨pD,nD,_,_,_⟩:=I1.pin (s₂.heap.objs.size,ff aK nn) (aap _ aai);have bs:=I1.base;have Jn:∀b o,s₂.heap.get? b=some o->b≠s₂.heap.objs.size+1:=λb o e=>aan (aaL (aah e));have neD:∀b o,s₂.heap.get? b=some o->b≠s₂.heap.objs.size:=λb o e=>aan (aah e);have UP:∀b u,H' b=some u->upd H' s₂.heap.objs.size (.lst vs) b=some u:=λb u e=>by rw[aV (b_ e nD)];exact e
    have hlen:vs.length<=sizeLine:=by
      obtain⟨_,_,rr⟩:=Gu;have hz:sizeLine=16777216:=abf;have hc:eH=1000000:=rfl;rw[rr.length];left
    have IX:∀h',Heap.SameBut (s₂.heap.objs.size+1) s1.heap h'->Inv X pins σ (upd H' s₂.heap.objs.size (.lst vs)) { s1 with heap:=h' }:=λh' Dz=>by
      have un:Un (l_ X.stack) fp H2 (upd H' s₂.heap.objs.size (.lst vs)) s₂.heap h' :=
        ⟨λb o e n hb hx=>Dz.extBut b o (Jn b o e) (bs.keep b o e n hb hx),
         λb o e n hb hx=>let ⟨sl,q⟩:=bs.slot b o e n hb hx;⟨sl,Dz.extBut b _ (Jn b o e) q⟩,
         λb o e n hx=>by rw[aV (neD b o e)];exact bs.free b o e n hx,
         λb o e hx=>let ⟨o',q⟩:=bs.there b o e hx;⟨o',Dz.extBut b _ (Jn b o e) q⟩,
         λb xs e=>UP b _ (bs.mZ b xs e),λb o u e=>UP b _ (bs.l9 b o u e),λb ps e=>let ⟨more,q⟩:=bs.m4 b ps e;⟨more,UP b _ q⟩⟩
      have WB:jZ X.prog X.w H' h':=λa o e=>(I1.cA a o e).i_ (λb u hb q=>Dz.extBut b u (by
        rintro rfl;have hf:H' (s₂.heap.objs.size+1)=none:=I1.free;rcases hb with z|z
        · rw[<- z,hf]at e;cases e
        · rw[hf]at z;cases z) q) (λ_ q=>q) λ_ _ q=>q
      have WA:jZ X.prog X.w (upd H' s₂.heap.objs.size (.lst vs)) h':=y9 WB nD ⟨hlen,aK,nn,rv,Dz.extBut _ _ T1 pD⟩;exact I2.zJ (ch:=fp) I1.os un WA I1.bare λb hb=>⟨(f2 b hb).2.2.2.1,(f2 b hb).2.1,(f2 b hb).2.2.2.2.1,(f2 b hb).2.2.2.2.2⟩
    have eS:aM H' (upd H' s₂.heap.objs.size (.lst vs)):=aM.upd nD;obtain⟨τt,fr,rs⟩:=Gu;have VX:s₂.heap.objs.size+1≠s₂.heap.objs.size:=Nat.succ_ne_self _;refine QV s₂.heap.objs.size (s₂.heap.objs.size+1) _ s1 m hn ⟨aau (aaL I2.lt),acf I2.sz,λx c e=>?_,λp hp=>?_,?_⟩ IX ((e2.trans sm).trans eS) ⟨λq=>if q=s₂.heap.objs.size then some []else τt q,λq z hz=>?_,.lst ⟨bj,by simp⟩ (aI.map (q:=[]) (q':=[]) (λ_ _ h=>aY.same eS h) (λc p ys f h=>?_) rs [] rfl)⟩
    · obtain⟨v,z⟩:=I2.cell x c e
      exact aan (aaL z.lt)
    · exact aan (aaL (aah (I2.pin p hp).1))
    · rw[aV VX];exact I1.free
    · by_cases xA:q=s₂.heap.objs.size
      · rw[xA];exact e2.free (sm.free nD)
      · simp only[xA,if_false]at hz;exact e2.free (fr q z hz)
    · have h':=nd.same eS h
      have X_:∀p,gP X' F' p->kg (gP X F) τ (caps++dF es) p:=λp hp=>hp.elim id λz=>⟨.inr (Bc.same.free z),λc i e=>absurd z (Bc.th p _ e)⟩
      cases f with
      |ow =>
        have xA:p≠s₂.heap.objs.size:=by
          intro z;subst z;exact h.1.ne nD
        refine⟨h'.1,?_⟩;show(if p=s₂.heap.objs.size then some []else τt p)=_;rw[if_neg xA];exact h'.2
      |fz=>exact⟨h'.1,h'.2.2⟩
      |al=>exact⟨h'.1,X_ p h'.2.1⟩
      |sc=>exact h'
  have tst:∀(P:aq) (ρ1:aZ) (b:Bool) (σ2:St) (H5:Hp) (s6:Shared),iT Φ bO ρ1=ok b->Inv X' P σ2 H5 s6->SI X' F' R' (λ_=>none) ρ1 σ2 H5 ->
      wpAny (model X.prog X.w) X.A (forIn ifs true λc r=>if r=true then do let ok <- isTrue c X'.env (eval c X'.env);pure (ForInStep.yield ok)else pure (ForInStep.yield r)) (λVS s7=>VS=b/\∃H7,Inv X' P σ2 H7 s7/\aM H5 H7) (λ_ _=>False) s6:=by
    intro P ρ1 b σ2 H5 s6 eb I6 S6;rcases hC with ⟨rfl,rfl⟩|⟨c,e,rfl,rfl,hPT⟩
    · rw[iT]at eb;cases eb
      exact wpAny_tests_nil ⟨rfl,H5,I6,aM.refl _⟩
    · rw[iT]at eb
      obtain⟨b',eb',eb⟩:=aH eb;have hb:b'=b:=by
        cases b' with
        |true=>rw[if_pos rfl,iT]at eb;cases eb;rfl
        |false=>rw[if_neg (by simp)]at eb;cases eb;rfl
      subst hb;refine wpAny_tests_one (aav (hPT X' F' L' P s6 σ2 H5 (λb'' H7=>b''=b'/\aM H5 H7) I6 ⟨R',_,ρ1,b',S6,eb',λH7 e7=>⟨rfl,e7⟩⟩) (λb'' s7 ⟨H7,I7,hb,e7⟩=>⟨hb,H7,I7,e7⟩) λ_ _ e=>e)
  have loop:∀tk,codeAny (model X.prog X.w) X.A (.compLoop (.ListComp j7 [⟨target,iter,ifs,0⟩] sc pos) 0 (.ref it) (.ref s₂.heap.objs.size) X'.env)
      (compPost (model X.prog X.w) X.A X.xe use Post (.ref s₂.heap.objs.size) (s₂.heap.objs.size+1)) { s₂ with heap:=h₁,toks:=tk }:=by
    intro tk;refine tT (CAt X X' F' R' n (bw n caps ρ) (qv n caps σ) fp tn H2 s₂.heap.objs.size items (λd=>bT t d (bw n caps ρ)) (λρ'=>iT Φ bO ρ') (λρ'=>bz Φ elt ρ') ds) ?_ items.length
      ⟨0,[],[],0,qv n caps σ,H2,[],ds,rfl,aaS _,I4 tk,T.keep _ _ _ Ph (λb _ o e=>old b o e),λb hb=>(f2 b hb).1,.nil,aM.refl _,S4,.nil,by rw[List.drop_zero];exact Ni,rfl⟩
    rintro m s' ⟨i,vs,aK,nn,σ',H',dn,rest,hm,hi,I',m6,fr',rv,sm,fC,Gu,fX,eall⟩;have MH:∀b∈fp,qf X' [(s₂.heap.objs.size,ff aK nn)] H' b:=λb hb=>⟨fr' b hb,(Hq b hb).1,(Hq b hb).2.1,(Hq b hb).2.2.1,(Hq b hb).2.2.2,λp hp=>by
      have vw:p=(s₂.heap.objs.size,ff aK nn):=by simpa [X',eM]using hp
      rw[vw];exact(Rf b hb).symm⟩
    by_cases iR:i<items.length
    · refine aav (T.item X' rfl rfl rfl L.calm i _ s' σ' H' (λ_ _=>False) I' MH m6 (yl.go i H' sm iR)) (λr s1 h4=>?_) λ_ _ e=>e
      obtain⟨u,hr,h4⟩:=h4;subst hr;refine aav h4 (λ_ s5 h5=>?_) λ_ _ e=>e;obtain⟨x,H5,I5,r5,y5,Kk,Xr⟩:=h5;obtain⟨e5,dd,hd,rd⟩:=yl.wj i H' x H5 sm iR y5;have Yf:=I5.pinned (fp:=fp) (λb hb=>⟨Xr b hb,(MH b hb).2⟩) (T.obj _ _ Kk);have pk:items.drop i=dd::items.drop (i+1):=by
        rw[List.drop_eq_getElem_cons iR];rw[List.getElem?_eq_getElem iR]at hd;cases hd;rfl
      rw[pk,iV]at fX;obtain⟨ρ1,eb,fX⟩:=aH fX;obtain⟨bb,et,fX⟩:=aH fX;refine aav (hg _ s5 σ' H5 x u (λσ2 H6=>H6=H5/\σ2.length=σ'.length/\(∀j,n<=j->σ2[j]?=σ'[j]?)/\SI X' F' R' (λ_=>none) ρ1 σ2 H5) Yf r5
        (vx F' R' x dd σ' H5 _ (bw n caps ρ) ρ1 (fC.go e5) rd (Q5 dd (aas hd)) eb λσ2 g1 g2 g3=>⟨rfl,g1,g2,g3⟩)) (λ_ s6 h6=>?_) λ_ _ e=>e
      obtain⟨σ2,H6,I6,rfl,g1,g2,S6⟩:=h6;refine aav (tst _ ρ1 bb σ2 H6 s6 et I6 S6) (λVS s7 h7=>?_) λ_ _ e=>e;obtain⟨rfl,H7,I7,e7⟩:=h7;have UU:∀{P:aq} {σ3:St} {H8:Hp} {s8:Shared},Inv X' (P++jc fp s5.heap) σ3 H8 s8->tn (i+1) s8.heap/\∀b∈fp,H8 b=none:=λ{P σ3 H8 s8} I8 =>
        ⟨T.keep _ _ _ Kk λb hb o e=>(I8.pin (b,o) (aap _ (aap _ (ir hb e)))).1,λb hb=>by
          obtain⟨o,e,_⟩:=T.obj _ _ Kk b hb;exact(I8.pin (b,o) (aap _ (aap _ (ir hb e)))).2.1⟩
      have JN:∀{H8:Hp},aM H7 H8->SI X' F' R' (λ_=>none) (bw n caps ρ) σ2 H8:=λ{H8} e8=>(fC.go ((e5.trans e7).trans e8)).sig g1 λj d hj=>g2 j (xx hj);cases VS with
      |false =>
        rw[if_neg (by simp)]at fX ⊢;exact⟨items.length - (i+1),by left,i+1,vs,aK,nn,σ2,H7,dn,rest,rfl,iR,I7.kQ,(UU I7).1,(UU I7).2,rv,(sm.trans e5).trans e7,JN (aM.refl _),Gu.go (e5.trans e7),fX,eall⟩
      |true =>
        rw[if_pos rfl]at fX ⊢;obtain⟨y,ey,fX⟩:=aH fX;obtain⟨ys,ma,fX⟩:=aH fX;cases fX;refine aav (hE X' F' L' _ s7 σ2 H7 (λv H8=>aM H7 H8/\cx X.K (gP X' F') R' (λ_=>none) [] H7 H8 v y) I7 ⟨R',_,ρ1,y,S6.go e7,ey,λv H8 e8 r8=>⟨e8,?_⟩⟩) (λu8 s8 h8=>?_) λ_ _ e=>e
        · obtain⟨τt,fr,rr⟩:=r8
          exact⟨τt,fr,rr.imp (q:=[]) (q':=[]) (λ_ _ h=>h) λc p ys f h=>h.mono id (λh=>⟨h.1,λ_ _ e=>by cases e⟩) id⟩
        · obtain⟨v8,H8,I8,rv8,e8,r8⟩:=h8
          obtain⟨pD,nD,_,_,_⟩:=I8.pin (s₂.heap.objs.size,ff aK nn) (aap _ (aaC _ aai));have hlen:aK.length<=1000000:=by
            obtain⟨_,_,rr⟩:=Gu;have h1:dn.length<=ds.length:=by rw[<- eall,List.length_append];left
            have hc:eH=1000000:=rfl;rw[<- rv.length,rr.length];left
          have hz:sizeLine=16777216:=abf;refine abb PySem.F.slot_list_append ⟨_,pD,rfl⟩ PySem.F.entry_list_append (PySem.F.args_list_append_2 _ _) (PySem.list_append s₂.heap.objs.size aK.toArray nn u8 (by rw[List.size_toArray];left)) ⟨pD,?_⟩;have q:=PySem.IsL.update pD (λx=>x.push u8);have QT:aK.toArray.push u8=(aK++[u8]).toArray:=by simp
          rw[QT]at q;obtain⟨Tz,q'⟩:∃Tz,(s8.heap.update s₂.heap.objs.size (Obj.mapSeq λx=>x.push u8)).get? s₂.heap.objs.size=some (ff (aK++[u8]) Tz):=⟨_,q⟩
          have I8d:Inv X' (jc fp s5.heap) σ2 H8 s8:=I8.jN λp hp=>I8.pin p (aap _ (aap _ hp));have I8t:Inv X' (jc fp s5.heap) σ2 H8 { s8 with heap:=s8.heap.update s₂.heap.objs.size (Obj.mapSeq λx=>x.push u8),toks:=s8.toks } :=
            I8d.turned (it:=s₂.heap.objs.size) (λb o hb e=>(aaQ s8.heap (Obj.mapSeq λx=>x.push u8) (abw hb)).trans e) nD T1 (.inr (aak _)) Mn λp hp=>by
              have vw:p∈jc fp s5.heap:=by simpa [X',eM]using hp
              exact Rf p.1 (rA vw).1
          have kp:=UU (P:=[]) (by rw[List.nil_append];exact I8t);refine⟨items.length - (i+1),by left,i+1,vs++[v8],aK++[u8],Tz,σ2,H8,dn++[y],ys,rfl,iR,I8t.jN (λp hp=>?_),kp.1,kp.2,rv.append (.cons rv8 .nil),((sm.trans e5).trans e7).trans e8,JN e8,cF.snoc ((sm.trans e5).trans e7) e8 (Gu.go (e5.trans e7)) r8,ma,by rw[List.append_assoc];exact eall⟩;have vw:p=(s₂.heap.objs.size,ff (aK++[u8]) Tz):=by simpa using hp
          rw[vw];exact⟨q',nD,T1,W0,λv z=>by cases z⟩
    · refine aav (T.done X' rfl rfl rfl L.calm i _ s' σ' H' (λ_ _=>False) I' MH m6 (yl.stop i H' sm (by left))) (λr s1 h1=>?_) λ_ _ e=>e
      obtain⟨hr,I1⟩:=h1;subst hr;have Mg:items.drop i=[]:=List.drop_eq_nil_of_le (by left);rw[Mg,iV]at fX;cases fX;rw[List.append_nil]at eall;subst eall;exact fin vs aK nn σ' H' s1 I1 rv sm Gu
  have key:=λtk=>codeAny_compStart_list (loop tk) (T.self X.A 0 _ _ _ (T.keep _ _ _ Ph λb _ o e=>old b o e) (loop tk));rw[ZK];exact key _
theorem Gd(L:Lk X S k Φ){n:Nat}{t:Tg}{ik:IK}{ifs:aC}{sc:Scope}(co:kM S n t caps target sc)(Bn:jf iter=true)
  (hE:∀(X':Cx) (F':ak),Lk X' (S.inner target caps sc) k Φ->PE X' j7 (tD X' F' Φ elt))
  (hC:(bO=[]/\ifs=[])\/∃c e,bO=[c]/\ifs=[e]/\∀(X':Cx) (F':ak),Lk X' (S.inner target caps sc) k Φ->PT X' e (gW X' F' Φ c))
  (hI:∀(pins:aq) (s:Shared) (σ:St) (H:Hp) (R:ak) (τ:Addr->Option br) (ρ:aZ) (xs items:aa),Inv X pins σ H s->SI X F R τ ρ σ H->cf Φ es ρ=ok xs->eL Φ ik xs=ok items->∀Rr:It->Hp->Prop,
   (∀J H2,aM H H2->Yl X.K J (lQ X F τ (caps++dF es) H2) H2 items->Rr J H2)->wpAny (model X.prog X.w) X.A (eval iter X.env) (λv s1=>wpAny (model X.prog X.w) X.A (pyIter v) (Bt X pins σ target Rr) X.xe s1) X.xe s) :
  PE X (.ListComp j7 [⟨target,iter,ifs,0⟩] sc pos) (tD X F Φ (.comp n t caps ik es bO elt)):=by
 intro pins s σ H Q I hq;obtain⟨R,τ,ρ,d,Si,ev,hq⟩:=hq;rw[eval_ListComp];refine vW L co Bn hE hC hI (use:=none) (Post:=EP X pins σ Q) I Si ev λacc C H1 s1 m hn _ IX sm rt=>?_;exact⟨m,hn,λh' Dz=>⟨.ref acc,H1,IX h' Dz,rfl,hq _ _ sm rt⟩⟩
end
section
variable {X:Cx}{pins:aq}{s:Shared}{σ:L2.St}{H:Hp}
theorem vn{A:aJ}{E:aB}{l:Addr}{items:aP}{Q:aB}{s:Shared}(hl:s.heap.IsList l items)
  (h:∀s₂:Shared,s₂={ s with heap:=s.heap.push { cls:=.type "list_iterator",data:=.fields #[.ref l,.int 0 0] } }->s₂.heap.IsListIter s.heap.objs.size l 0/\s₂.heap.IsList l items->(∀b∈[s.heap.objs.size,l],b<s₂.heap.objs.size)->l≠s.heap.objs.size->Q (.ref s.heap.objs.size) s₂) :
  wpAny (model prog w) A (pyIter (.ref l)) Q E s:=by
 have iR:l<s.heap.objs.size:=by obtain⟨_,e,_⟩:=hl;exact aah e
 refine wpAny_pyIter_list hl (h _ rfl ⟨⟨_,aao _ rfl,rfl,rfl⟩,hl.push _⟩ (λb hb=>?_) (aan iR));have hz:(s.heap.push { cls:=.type "list_iterator",data:=.fields #[.ref l,.int 0 0] }).objs.size=s.heap.objs.size+1:=Heap.size_push ..;have jQ:b=s.heap.objs.size\/b=l:=by simpa using hb
 show b<_;rw[hz];rcases jQ with e|e
 ·rw[e];exact aa5 _
 ·rw[e];exact aaL iR
theorem vj{o₀:Obj}{s:Shared}(hk:∀b o,b∉[s.heap.objs.size]->(s.heap.push o₀).get? b=some o->h'.get? b=some o):∀b o,s.heap.get? b=some o->h'.get? b=some o:=λb o e =>
 hk b o (λhm=>absurd ((by simpa using hm:b=s.heap.objs.size)▸aah e) (aax _)) (aag _ e)
theorem cY{h:Heap}{a:Addr}{aK:aP}(p:PlainL h a aK):h.IsList a aK:=let ⟨o,n,h1,h2,_,h4⟩:=p;⟨o,h1,h2,n,h4⟩
theorem mL(val:Nat->Int)(ns:ae)(hv:∀i,val i=ns.getD i 0):∀k,k<=ns.length->preSum val k=(ns.take k).sum
 |0,_=>by simp[preSum]
 |k+1,h=>by
  have hk:k<ns.length:=by left
  rw[preSum,mL val ns hv k (by left),hv k,List.take_add_one,List.sum_append];simp[List.getD,hk]
theorem A6(hc:X.calm=true):fD X (.builtin "sum") (λxs H Q=>∃(p:Addr) (ns:ae),xs=[.ref p]/\dH X.K H p (ns.map V.int)/\Q (.int ns.sum) H):=by
 intro pins s σ H xs us Q I r h;obtain⟨p,ns,rfl,hq,q⟩:=h;obtain⟨u,rfl,ru⟩:=r.one;cases ru;obtain⟨aK,rv,pl,hz⟩:=I.list hq;have hlen:aK.length=ns.length:=by have:=rv.length;simpa using this.symm
 refine call_sum_walkG (vn (cY pl) λs₂ e st Hr WI=>?_);subst e;refine⟨_,_,_,_,_,_,λi=>ns.getD i 0,rfl,Walks.list (A:=X.A.in1) (I.ok.hd hc) _ p WI aK.toArray,st,Hr,λi v hP=>?_,λh' tk t' hk=>?_⟩
 ·have hv:aK[i]?=some v:=by simpa using hP
  have hi:i<aK.length:=by
   by_cases z:i<aK.length
   ·exact z
   ·rw[List.getElem?_eq_none (by left)]at hv;cases hv
  have hn:(ns.map V.int)[i]?=some (.int (ns.getD i 0)):=by
   rw[List.getElem?_map,List.getElem?_eq_getElem (by left)];simp[List.getD,show i<ns.length by left]
  obtain⟨u,hu,ru⟩:=rv.get hn;rw[hv]at hu;cases hu;exact ru
 ·refine⟨.int ns.sum,H,I.kept (t':=tk) (vj hk),⟨t',?_⟩,q⟩;have hz:preSum (λi=>ns.getD i 0) aK.toArray.size=ns.sum:=by
   rw[List.size_toArray,hlen,mL _ ns (λ_=>rfl) _ (Nat.le_refl _),List.take_length]
  rw[hz]
theorem range_all{α:Type}(l:List α)(f:α->Bool)(tr:Nat->Bool)(h:∀i a,l[i]?=some a->tr i=f a):(List.range l.length).all tr=l.all f:=by
 rw[Bool.eq_iff_iff,List.all_eq_true,List.all_eq_true];constructor
 ·intro z a ha;obtain⟨i,hi,e⟩:=List.mem_iff_getElem.mp ha;have:=z i (List.mem_range.mpr hi);rw[h i a (by rw[List.getElem?_eq_getElem hi,e])]at this;exact this
 ·intro z i hi;have hi:=List.mem_range.mp hi;rw[h i l[i] (List.getElem?_eq_getElem hi)];exact z _ (abO hi)
theorem A8(hc:X.calm=true):fD X (.builtin "all") (λxs H Q=>∃(p:Addr) (bs:List Bool),xs=[.ref p]/\dH X.K H p (bs.map V.bl)/\Q (.bl (bs.all id)) H):=by
 intro pins s σ H xs us Q I r h;obtain⟨p,bs,rfl,hq,q⟩:=h;obtain⟨u,rfl,ru⟩:=r.one;cases ru;obtain⟨aK,rv,pl,hz⟩:=I.list hq;have hlen:aK.length=bs.length:=by have:=rv.length;simpa using this.symm
 refine call_all_walk (vn (cY pl) λs₂ e st Hr WI=>?_);subst e;refine⟨_,_,_,_,_,_,λi=>bs.getD i false,rfl,Walks.list (A:=X.A.in1) (I.ok.hd hc) _ p WI aK.toArray,st,λi v s' Q' E' hP hQ=>?_,λh' tk hk=>?_⟩
 ·have hv:aK[i]?=some v:=by simpa using hP
  have hi:i<aK.length:=by
   by_cases z:i<aK.length
   ·exact z
   ·rw[List.getElem?_eq_none (by left)]at hv;cases hv
  have hn:(bs.map V.bl)[i]?=some (.bl (bs.getD i false)):=by
   rw[List.getElem?_map,List.getElem?_eq_getElem (by left)];simp[List.getD,show i<bs.length by left]
  obtain⟨u,hu,ru⟩:=rv.get hn;rw[hv]at hu;cases hu;cases ru;exact aaY hQ
 ·refine⟨.bl (bs.all id),H,I.kept (t':=tk) (vj hk),?_,q⟩;show Value.bool _=Value.bool _;rw[List.size_toArray,hlen,range_all bs id _ λi a e=>by simp[List.getD,e]]
end
variable {ns:ae}{o oa:Obj}
section
variable {prog:aE}{w:World}{A:aJ}{E:aB}{s:Shared}
theorem pU{l:Addr}{vs:av}{Q:av->Shared->Prop}{n:Nat}(ho:s.heap.get? l=some o)(hc:o.cls=.type "tuple")(hd:o.data=.seq vs.toArray n)
  (h:Q vs { s with heap:=(s.heap.push (seqObj "list" #[] 0)).update s.heap.objs.size (Obj.mapSeq (· ++ vs.toArray)) }) (hsz:vs.length<=sizeLine):wpAny (model prog w) A (collect (.ref l)) Q E s:=by
 unfold collect;refine aab (wpAny_runValue (abc entry_proto_collect' ?_));show wpAny _ _ (newList [] >>= λz=>again (.builtin "list.__iadd__" ⟨[z,.ref l],[]⟩)) _ _ s;refine aab (abK (aaf ⟨ab_ _ (by decide +kernel),abc entry_list_iadd' ?_⟩));have z1:(s.heap.push (seqObj "list" #[] 0)).get? l=some o:=aag _ ho;have z2:(s.heap.push (seqObj "list" #[] 0)).get? s.heap.objs.size=some (seqObj "list" #[] 0):=aao _ rfl;show wpAny _ _ (Builtin.List.listExtendWith (.ref s.heap.objs.size) (.ref l) (.ref s.heap.objs.size)) _ _ ({ s with heap:=s.heap.push (seqObj "list" #[] 0) }:Shared);unfold Builtin.List.listExtendWith;refine aab (wpAny_typeOf (T:="tuple") ⟨o,z1,hc⟩ ?_);rw[aaV (by rw[show(Value.type "tuple" == Value.type "tuple")=true from rfl,Bool.or_true])];refine aab (listItems_at z1 hd (aab (listItems_at z2 rfl ?_)));rw[if_neg (by simp)];refine aab (listUpdate_at z2 rfl ?_ (aaS _) (by
  show(#[]++vs.toArray).size<=sizeLine+1;rw[Array.size_append,List.size_toArray];exact acf (by simpa using hsz)))
 refine aaf ?_;show wpAny (model prog w) A (load s.heap.objs.size >>= λo=>match o.data with
   |.seq xs _=>pure xs.toList
   |_=>unsupported "internal:collect") Q E ({ s with heap:=(s.heap.push (seqObj "list" #[] 0)).update s.heap.objs.size (Obj.mapSeq (· ++ vs.toArray)) }:Shared)
 refine aab (wpAny_load (get?_update_seq z2 _) ?_);show wpAny _ _ (pure ((#[]:aP)++vs.toArray).toList) Q E _;rw[show((#[]:aP)++vs.toArray).toList=vs by simp];exact aaf h
theorem qt{l:Addr}{vs:av}{Q:aB}{n:Nat}(ho:s.heap.get? l=some o)(hc:o.cls=.type "tuple")(hd:o.data=.seq vs.toArray n)(hI:IntsAre vs ns)(pw:vs.length<64)
  (h:∀(out:aP) (lJ:ae),IntsAre out.toList lJ->lJ.Perm ns->lJ.Pairwise (· <= ·)->Q (.ref (s.heap.objs.size+1)) { s with heap:=sortedAll s.heap vs out }):wpAny (model prog w) A (call (.builtin "sorted") [.ref l]) Q E s:=by
 refine abr kind_sorted plain_sorted entry_sorted (args_sorted1 _) ?_;unfold Builtin.«sorted»;have hz:vs.length<=sizeLine:=by rw[sizeLine_eq];left
 refine aab (m:=checkCount "sorted" 1 1 _) (aaf (aab (pU ho hc hd (aab (abK ?_)) hz)));have e1:((s.heap.push (seqObj "list" #[] 0)).update s.heap.objs.size (Obj.mapSeq (· ++ vs.toArray))).objs.size=s.heap.objs.size+1:=by rw[Heap.size_update,size_push']
 have e2:(((s.heap.push (seqObj "list" #[] 0)).update s.heap.objs.size (Obj.mapSeq (· ++ vs.toArray))).push (seqObj "list" vs.toArray 0)).get? (s.heap.objs.size+1)=some (seqObj "list" vs.toArray 0):=by
  rw[<- e1];exact aao _ rfl
 show wpAny _ _ _ _ _ ({ s with heap:=((s.heap.push (seqObj "list" #[] 0)).update s.heap.objs.size (Obj.mapSeq (· ++ vs.toArray))).push (seqObj "list" vs.toArray 0) }:Shared);rw[e1];refine aab (aaF (aaH slot_list_sort ⟨_,e2,rfl⟩ entry_list_sort (list_sort_tree e2 hI pw λout lJ a1 a2 a3=>⟨_,rfl,aaf ⟨_,rfl,h out lJ a1 a2 a3⟩⟩) (args_list_sort _)))
end
theorem sortI_perm(ns:ae):(sortI ns).Perm ns:=aaU ..
theorem BZ(ns:ae):(sortI ns).Pairwise (· <= ·):=by
 have:=List.pairwise_mergeSort (le:=λa b:Int=>decide (a<=b)) (by intro a b c;simp;left) (by intro a b;simp;left) ns;unfold sortI;simpa using this
theorem cT:∀{vs:av} {ns:ae},Vals (ns.map V.int) vs->IntsAre vs ns
 |_,[],h=>by cases h;exact .nil
 |_,n::ns,h=>by
  cases h with
  |cons r t=>obtain⟨tk,rfl⟩:=r;exact .cons n tk (cT t)
theorem tX:fD X (.builtin "sorted") (λxs H Q=>∃(p:Addr) (ns:ae),xs=[.ref p]/\(dH X.K H p (ns.map V.int)\/aY X.K H p (ns.map V.int))/\ns.length<64/\∀l,H l=none->Q (.ref l) (upd H l (.lst ((sortI ns).map V.int)))):=by
 intro pins s σ H xs us Q I r h;obtain⟨p,ns,rfl,hq,pw,q⟩:=h;obtain⟨u,rfl,ru⟩:=r.one;cases ru;have fin:∀(vs:av) (out:aP) (lJ:ae),IntsAre out.toList lJ->lJ.Perm ns->lJ.Pairwise (· <= ·)->EP X pins σ Q (.ref (s.heap.objs.size+1)) { s with heap:=sortedAll s.heap vs out }:=by
  intro vs out lJ h1 h2 h3;obtain rfl:lJ=sortI ns:=PySem.W.ksm_same (h2.trans (sortI_perm ns).symm) h3 (BZ ns);obtain⟨e,he⟩:=sortedAll_at s.heap vs out;have hn:H (s.heap.objs.size+1)=none:=I.cA.fresh (abo _);refine⟨.ref (s.heap.objs.size+1),upd H (s.heap.objs.size+1) (.lst ((sortI ns).map V.int)),I.laid (t':=s.toks) (λb u z=>sortedAll_old z) (abo _) ⟨?_,out.toList,e,lM h1,by simpa using he⟩,rfl,q _ hn⟩;rw[List.length_map,(sortI_perm ns).length_eq,sizeLine_eq];left
 rcases hq with hq|hq
 ·obtain⟨aK,rv,pl,hz⟩:=I.list hq;have hl:aK.length<64:=by rw[<- rv.length];simpa using pw
  exact sorted_ints (cY pl) (cT rv) hl λout lJ h1 h2 h3=>fin aK out lJ h1 h2 h3
 ·obtain⟨aK,rv,⟨o,ho,hc,n,hd⟩,hz⟩:=I.tuple hq;have hl:aK.length<64:=by rw[<- rv.length];simpa using pw
  exact qt ho hc hd (cT rv) hl λout lJ h1 h2 h3=>fin aK out lJ h1 h2 h3
theorem BI:isSubtype (.type "tuple") (.type "set")=pure false:=by rw[isSubtype_type];kernel_rfl
theorem uy:isSubtype (.type "tuple") (.type "frozenset")=pure false:=by rw[isSubtype_type];kernel_rfl
noncomputable abbrev m8(led:Bool):Obj:={ cls:=.type "set",dict:=none,data:=.set #[] 0 (.fresh 0 0 led) }
noncomputable abbrev dist(ns:ae):ae:=firstMet (λi=>ns.getD i 0) ns.length
section
variable {prog:aE}{w:World}{A:aJ}{E:aB}{s:Shared}
theorem wU{l:Addr}{aK:av}{Q:aB}(hh:A.handled=none)(hl:s.heap.IsTuple l aK.toArray)(hi:IntsAre aK ns)(hb:aK.length+1<scanBound)
  (h:∀(h':Heap) (tk:Nat),h'.SetOf (intKind prog w) s.heap.objs.size (λk=>(dist ns).any (· == k)) (dist ns).length->(∀b o,b<s.heap.objs.size->s.heap.get? b=some o->h'.get? b=some o)->Q (.ref s.heap.objs.size) { s with heap:=h',toks:=tk }) :
  wpAny (model prog w) A (call (.type "set") [.ref l]) Q E s:=by
 have hnl:aK.length=ns.length:=hi.length;obtain⟨c,tl,k1⟩:=F.called_set.mro;have k2:=F.called_set.made;have k3:=F.called_set.sub;have k4:=F.called_set.notType;have k5:=F.called_set.canCreate;have k6:=F.typeCall_set_1 (.ref l);refine wpAny_call (codeAny_of_tree (show wpAny _ _ (callAny (.type "set") _) _ _ _ from aaf ⟨ab_ _ (by decide +kernel),abc F.entry_type_call ?_⟩));rw[Around.under_plain (weight_type_call_type "set" [.ref l] []) rfl]
 repeat (any_goals (first|assumption|wp_step))
 refine abT (code_set_new_1 (.ref l) (E:=E) (Q₁:=λz s₁=>∃led:Bool,z=.ref s.heap.objs.size/\s₁={ s with heap:=s.heap.push (m8 led) }) λled=>⟨led,rfl,rfl⟩) λr s₁ hr=>?_;cases r with
 |error e=>exact hr
 |ok fl =>
  cases fl with
  |next=>exact hr.elim
  |brk=>exact hr.elim
  |cont=>exact hr.elim
  |ret z =>
   obtain⟨led,rfl,rfl⟩:=hr;have g1:(s.heap.push (m8 led)).get? s.heap.objs.size=some (m8 led):=aao _ rfl;have g2:Shared.TypeIs { s with heap:=s.heap.push (m8 led) } (.ref s.heap.objs.size) "set":=⟨_,g1,rfl⟩
   have g3:=F.called_set.init.lookup;have g4:=F.called_set.init.bind (.ref s.heap.objs.size)
   repeat (any_goals (first|assumption|wp_step))
   refine abT (abY (R:=wants (λr s₂=>r=.none/\∃h' tk,s₂={ s with heap:=h',toks:=tk }/\h'.SetOf (intKind prog w) s.heap.objs.size (λk=>(dist ns).any (· == k)) (dist ns).length/\∀b o,b<s.heap.objs.size->s.heap.get? b=some o->h'.get? b=some o) E) F.called_set.init.plain F.entry_set_init (check_set_init_1 g2 ?_)) λr₂ s₂ vv=>?_
   ·obtain⟨ot,Zp,ZC,nt,Zy⟩:=hl;obtain⟨oc,od,odt,CN⟩:=ot;simp only at ZC Zy;subst ZC;subst Zy;have u1:(s.heap.push (m8 led)).get? l=some { cls:=.type "tuple",dict:=od,data:=.seq aK.toArray nt,slots:=CN }:=aag _ Zp;have u2:=BI;have u3:=uy;have u4:(Value.type "tuple" == Value.type "dict")=false:=by decide
    have u5:(s.heap.push (m8 led)).IsTuple l aK.toArray:=⟨_,u1,rfl,nt,rfl⟩
    unfold Builtin.«set.__init__» noKeywords Builtin.Frozenset.updateFrom;generalize hPI:pyIter=PI
    wp_walk
    subst hPI;refine wpAny_pyIter_tuple u5 (aab (wpAny_runValue ?_));have u6:l<s.heap.objs.size:=aah Zp;have u7:A.in1.in1.in1.handled=none:=by simp[hh]
    have hz:(s.heap.push (m8 led)).objs.size=s.heap.objs.size+1:=Heap.size_push ..;have u8:l≠(s.heap.push (m8 led)).objs.size:=by rw[hz];exact aan (aaL u6)
    have u9:s.heap.objs.size∉[(s.heap.push (m8 led)).objs.size,l]:=by
     rw[hz];intro m;simp at m;exact absurd m (aau u6)
    have v1:∀(i:Nat) (v:Value),aK.toArray[i]?=some v->∃t,v=.int ((λi=>ns.getD i 0) i) t:=λi v hv=>hi.int_at i v (by simpa using hv);refine codeAny_set_update_loopS ((Walks.tuple u7 _ l u8 aK.toArray).toS) s.heap.objs.size u9 (λi=>ns.getD i 0) v1 (by rw[List.size_toArray];exact hb) (aK.toArray.size - 0) 0 _ (by left) (aaS _) ⟨⟨_,aao _ rfl,rfl,rfl⟩,u5.push _⟩ ?hS0 ?hR
    case hS0 =>
     have y1:((s.heap.push (m8 led)).push { cls:=.type "tuple_iterator",data:=.fields #[.ref l,.int 0 0] }).get? s.heap.objs.size=some (m8 led):=aag _ g1;exact SetOf_congr ((setObjOf_fresh (knd:=intKind prog w) led).setOf y1 (by unfold scanBound;left)) (λ_=>rfl) rfl
    case hR =>
     intro s' hm AS;obtain⟨h',g',d',tk',VM⟩:=s';cases (show g'=s.gens from hm.gens);cases (show d'=s.drawn from hm.drawn);cases (show VM=s.os from hm.os);have AS:h'.SetOf (intKind prog w) s.heap.objs.size (λk=>(dist ns).any (· == k)) (dist ns).length:=by
      have e:aK.toArray.size=ns.length:=by rw[List.size_toArray,hnl]
      rw[e]at AS;exact AS
     refine aaf (show wpAny _ _ (ret Value.none) _ _ _ from aaf ⟨rfl,h',tk',rfl,AS,λb o hb e=>hm.heap b o (λm=>?_) (aag _ (aag _ e))⟩);rcases List.mem_cons.mp m with m|m
     ·exact aan hb m
     ·have m:b=(s.heap.push (m8 led)).objs.size:=by simpa using m
      rw[hz]at m;exact aan (aaL hb) m
   ·cases r₂ with
    |error e=>exact vv
    |ok R4 =>
     cases R4 with
     |ret r =>
      obtain⟨rfl,h',tk,rfl,AS,Zu⟩:=vv
      repeat (any_goals (first|assumption|wp_step))
      exact h _ _ AS Zu
     |next=>exact vv.elim
     |brk=>exact vv.elim
     |cont=>exact vv.elim
end
theorem vP(ns:ae):dist ns=i5 ns:=by
 unfold dist firstMet i5;have e:(List.range ns.length).map (λi=>ns.getD i 0)=ns:=by
  refine abP (by simp) λi h1 h2=>?_;simp at h1;simp[h1]
 rw[e];rfl
def rLs(K:au):af->Hp->VK->Prop:=λxs H Q=>∃(p:Addr) (ns:ae),xs=[.ref p]/\aY K H p (ns.map V.int)/\ns.length<4000/\Q (.int (i5 ns).length) H
theorem boot_set:bootBuiltins ("set" : Str)=some (.type "set"):=by decide +kernel
theorem GH{e:Expr}{t:TA}{p:Pos}(hc:X.calm=true)(Rc:Gl X ("len" : Str))(Q7:X.mg ("len" : Str)=none)(WM:Gl X ("set" : Str))(Q6:X.mg ("set" : Str)=none)(ha:PA X [e] t)
  (mQ:∀es,starEach (e::es) X.env=(false,eval e X.env)::starEach es X.env):PE X (.Call (.Name ("len" : Str) p) [.Call (.Name ("set" : Str) p') [e] [] pos'] [] pos) (NV (rLs X.K) t):=by
 intro pins s σ H Q I h;refine aaR (eK I Rc Q7 aci ?_ (by decide) (by decide));refine aba ?_ rfl rfl;show wpAny _ _ (spliced ((false,eval (.Call (.Name ("set" : Str) p') [e] [] pos') X.env)::[])) _ _ s;refine abt ?_;refine aaR (eK I WM Q6 boot_set ?_ (by decide) (by decide));refine aaw (dg (ha pos' pins s σ H _ I h) λus s1 bR=>?_) (mQ _) rfl;obtain⟨vs,H1,I1,r1,q1⟩:=bR;obtain⟨a,ns,rfl,hq,hl,q⟩:=q1;obtain⟨u,rfl,ru⟩:=r1.one;cases ru;obtain⟨aK,rv,it,hz⟩:=I1.tuple hq;have hle:aK.length=ns.length:=by rw[<- rv.length];simp
 refine wU (I1.ok.hd hc) it (cT rv) (by unfold scanBound;left) λh' tk hS kp=>abF ?_;rw[vP]at hS;obtain⟨o,es,ep,tb,g1,g2,g3,_,_,g6,g7,g8⟩:=hS;refine call_len_set g1 g2 g3 g7 (by unfold scanBound at g6;omega) ?_;exact⟨.int (i5 ns).length,H1,I1.kept (t':=tk+1+1) λb u z=>kp b u (aah z) z,⟨_,by rw[g8]⟩,q⟩
section
variable {X:Cx}{S:Sx}{k:Nat}{F:ak}{Φ:aT}
theorem Lk.Yu(L:Lk X S k Φ):X.A.units+40<cLine:=by have:=L.room.units;left
def Tc(K:au)(neg:Bool):R2:=λv u H Q=>∃(d d':D) (N N':gj) (k k':br),Rep (aY K H) N k v d/\Rep (aY K H) N' k' u d'/\(∀q p xs f,N q p (.l xs) f->dH K H p xs)/\(∀q p xs f,N' q p (.l xs) f->dH K H p xs)/\dA 40 d=true/\dA 40 d'=true /\
 Q (.bl (if neg then !iU d d' else iU d d')) H
theorem Lj(hu:X.A.units+40<cLine):kC X (compareOp .Eq) (Tc X.K false):=by
 intro pins s σ H x y v u Q I rx ry h;obtain⟨d,d',N,N',k,k',r1,r2,n1,n2,o1,o2,q⟩:=h;exact(alike I n1 n2 40 X.A r1 r2 o1 o2 rx ry hu).rc X.prog X.w X.xe _ ⟨.bl _,H,I,rfl,q⟩
theorem Li(hu:X.A.units+40<cLine):kC X (compareOp .NotEq) (Tc X.K true):=by
 intro pins s σ H x y v u Q I rx ry h;obtain⟨d,d',N,N',k,k',r1,r2,n1,n2,o1,o2,q⟩:=h;exact(alike I n1 n2 40 X.A r1 r2 o1 o2 rx ry hu).ne X.prog X.w X.xe _ ⟨.bl _,H,I,rfl,q⟩
theorem Ce{N N':gj}{k:br}{v v':V}{d d':D}(h:Rep T N k v d)(h':Rep T' N' k' v' d')(f:iS d=true)(f':iS d'=true):jn v=true/\Fp v v'=iU d d':=by
 cases h<;>first | (cases f;done) | (cases h'<;>first | (cases f';done)|exact⟨rfl,by simp[Fp,iU]⟩)
theorem q_{N:gj}{k:br}{v:V}{d:D}(h:Rep T N k v d)(f:iS d=true):jn v=true:=by
 cases h<;>first | (cases f;done)|rfl
theorem sJ{T T':mV}{N N':gj}{k':br}{v:V}{d:D}(hv:Rep T' N' k' v d)(f:iS d=true):∀{k:br} {n:Nat} {xs:af} {ds:aa},aI T N k n xs ds->ds.all iS=true->xs.all jn=true/\TJ v xs=inD d ds
 |_,_,_,_,.nil,_=>⟨rfl,rfl⟩
 |_,_,_,_,.cons h t,fs=>by
  rw[List.all_cons,Bool.and_eq_true]at fs;obtain⟨h1,h2⟩:=sJ hv f t fs.2;obtain⟨g1,g2⟩:=Ce h hv fs.1 f;refine⟨by rw[List.all_cons,g1,h1];rfl,?_⟩;unfold TJ at h2 ⊢;rw[List.any_cons,g2,h2];rfl
def KR(K:au)(op:Bw):R2:=match op with
 |.eq=>Tc K false
 |.ne=>Tc K true
 |.lt=>Cj λi j=>.bl (decide (i<j))
 |.le=>Cj λi j=>.bl (decide (i<=j))
 |.gt=>Cj λi j=>.bl (decide (j<i))
 |.ge=>Cj λi j=>.bl (decide (j<=i))
 |.AK=>VC K false
theorem CT(L:Lk X S k Φ)(op:Bw):kC X (compareOp (VR op)) (KR X.K op):=by
 cases op with
 |eq=>exact Lj L.Yu
 |ne=>exact Li L.Yu
 |lt=>exact P5
 |le=>exact P6
 |gt=>exact P7
 |ge=>exact P8
 |AK=>exact Au
theorem sV{op:CmpOp}{r:Expr}(h:jf r=true):behindInMarks op r=false:=by
 cases r<;>first|rfl | (cases h;done)
theorem nY{op:Bw}{x y d:D}(QX:op=.lt\/op=.le\/op=.gt\/op=.ge)(h:ez op x y=ok d):∃i j,x=.int i/\y=.int j:=by
 cases x with
 |int i=>cases y with
  |int j=>exact⟨i,j,rfl,rfl⟩
  |_=>rcases QX with rfl|rfl|rfl|rfl<;>exact nk h
 |_=>rcases QX with rfl|rfl|rfl|rfl<;>exact nk h
theorem vX{op:Bw}{a b:CE}(hq:tD X F Φ (.cmp op a b) σ H Q):F0 (KR X.K op) (tD X F Φ a) (tD X F Φ b) σ H Q:=by
 obtain⟨R,τ,ρ,d,Si,ev,hq⟩:=hq;obtain⟨x,ex,ev⟩:=aH ev;obtain⟨y,ey,ev⟩:=aH ev;refine tD.intro Si ex λv H1 e1 r1=>tD.intro (Si.go e1) ey λu H2 e2 r2=>?_;have e:=e1.trans e2;have rv:=r1.go e2;have ru:=r2;obtain⟨τ1,f1,p1⟩:=rv;obtain⟨τ2,f2,p2⟩:=ru;have sq:∀{A:ak} {τ:Addr->Option br} (q:br) (p:Addr) (xs:af) (f:Fl),nd X.K R A τ H2 q p (.l xs) f->dH X.K H2 p xs:=λq p xs f h=>h.sq;cases op with
 |eq =>
  obtain⟨hc,ev⟩:=qk ev
  ·subst ev;rw[Bool.and_eq_true]at hc;exact⟨x,y,_,_,_,_,p1,p2,sq,sq,hc.1,hc.2,hq _ H2 e .bl⟩
 |ne =>
  obtain⟨hc,ev⟩:=qk ev
  ·subst ev;rw[Bool.and_eq_true]at hc;exact⟨x,y,_,_,_,_,p1,p2,sq,sq,hc.1,hc.2,hq _ H2 e .bl⟩
 |lt=>obtain⟨i,j,rfl,rfl⟩:=nY (by simp) ev;cases ev;exact⟨_,_,(r1.go e2).isInt,r2.isInt,hq _ H2 e .bl⟩
 |le=>obtain⟨i,j,rfl,rfl⟩:=nY (by simp) ev;cases ev;exact⟨_,_,(r1.go e2).isInt,r2.isInt,hq _ H2 e .bl⟩
 |gt=>obtain⟨i,j,rfl,rfl⟩:=nY (by simp) ev;cases ev;exact⟨_,_,(r1.go e2).isInt,r2.isInt,hq _ H2 e .bl⟩
 |ge=>obtain⟨i,j,rfl,rfl⟩:=nY (by simp) ev;cases ev;exact⟨_,_,(r1.go e2).isInt,r2.isInt,hq _ H2 e .bl⟩
 |AK =>
  simp only[ez]at ev;split at ev
  ·rename_i ds hi;split at ev
   ·rename_i hc;rw[Bool.and_eq_true]at hc;cases ev;cases p2 with
    |tup h rs=>cases hi;obtain⟨g1,g2⟩:=sJ p1 hc.1 rs hc.2;exact⟨_,_,rfl,.inr h,q_ p1 hc.1,g1,by rw[g2];exact hq _ H2 e .bl⟩
    |lst h rs=>cases hi;obtain⟨g1,g2⟩:=sJ p1 hc.1 rs hc.2;exact⟨_,_,rfl,.inl h.sq,q_ p1 hc.1,g1,by rw[g2];exact hq _ H2 e .bl⟩
    |_=>cases hi
   ·cases ev
  ·cases ev
theorem BP{c:CE}{Q:Bool->Hp->Prop}(h:gW X F Φ c σ H Q):tB (tD X F Φ c) σ H Q:=by
 obtain⟨R,τ,ρ,b,Si,ev,hq⟩:=h;unfold xM at ev;obtain⟨d,ed,et⟩:=aH ev;refine tD.intro Si ed λv H' e r=>?_;cases d<;>simp[iZ]at et;cases et;exact⟨_,r.AI,hq H' e⟩
theorem cR{c:CE}{e:Expr}(h:PE X e (tD X F Φ c))(he:∀whole,isTrue e X.env whole=(do let v <- whole;standAt e.pos;holding [v] (truthy v))):PT X e (gW X F Φ c) :=
 PT.imp (KY h he) λ_ _ _ h=>BP h
theorem Af{op:Bw}{a b:CE}{Q:Bool->Hp->Prop}(h:gW X F Φ (.cmp op a b) σ H Q):IJ (F0 (KR X.K op) (tD X F Φ a) (tD X F Φ b)) σ H Q :=
 vX (BP h)
theorem dictAt{pins:aq}{s:Shared}{p:Addr}{cs:aA}{as:aR}(I:Inv X pins σ H s)(h:H p=some (.ext (DO p cs as xs ep))):∃o,s.heap.get? p=some o/\o.cls=.type "dict":=by
 obtain⟨⟨zs,o,es,_,_,_,ho,hx,_⟩,_⟩:=(show cS X.prog X.w H s.heap p (.ext (DO p cs as xs ep)) from I.cA p _ h)
 exact⟨o,ho,hx.1⟩
theorem LI(L:Lk X S k Φ)(t:Ty):fD X (.builtin "isinstance") (λxs H Q=>∃(x:V) (d:D) (N:gj) (k:br),xs=[x,.ty (tyName t)]/\Rep (aY X.K H) N k x d/\(∀q p xs f,N q p (.l xs) f->dH X.K H p xs)/\(∀q p cs as xs ep f,N q p (.d cs as xs ep) f->H p=some (.ext (DO p cs as xs ep)))/\Q (.bl (eD t d)) H):=by
 intro pins s σ H xs us Q I r h;obtain⟨x,d,N,k,rfl,rp,hN,hND,q⟩:=h;obtain⟨u,w',rfl,ru,lI⟩:=vals2 r;cases (show w'=Value.type (tyName t) from lI);have kt:=Ha X.K t;have fin:∀b:Bool,b=eD t d->∀tk,EP X pins σ Q (.bool b) { s with toks:=tk }:=λb e tk=>⟨.bl b,H,I.tok tk,rfl,by rw[e];exact q⟩
 cases rp with
 |bV=>cases ru;exact aa3 PySem.W.kitx_none I.AD True.intro (kt "NoneType" (by simp[kinds])) (λz=>nomatch z) (fin _ (by cases t<;>rfl))
 |bl b=>cases ru;exact aa3 PySem.W.kitx_bool I.AD True.intro (kt "bool" (by simp[kinds])) (λz=>nomatch z) (fin _ (by cases t<;>rfl))
 |int i=>obtain⟨t',rfl⟩:=ru;exact aa3 PySem.W.kitx_int I.AD True.intro (kt "int" (by simp[kinds])) (λz=>nomatch z) (fin _ (by cases t<;>rfl))
 |tup h _ =>
  cases ru;obtain⟨aK,_,⟨o,h1,h2,_⟩,_⟩:=I.tuple h;exact aa3 PySem.W.kitx_tuple I.AD ⟨o,h1,h2⟩ (kt "tuple" (by simp[kinds])) (λz=>nomatch z) (fin _ (by cases t<;>rfl))
 |lst h _ =>
  cases ru;obtain⟨aK,_,⟨o,n,h1,h2,_⟩,_⟩:=I.list (hN _ _ _ _ h);exact aa3 PySem.W.kitx_list I.AD ⟨o,h1,h2⟩ (kt "list" (by simp[kinds])) (λz=>nomatch z) (fin _ (by cases t<;>rfl))
 |cO h _ _ =>
  cases ru;obtain⟨o,h1,h2⟩:∃o,s.heap.get? _=some o/\o.cls=.type "dict":=dictAt I (hND _ _ _ _ _ _ _ h);exact aa3 PySem.W.kitx_dict I.AD ⟨o,h1,h2⟩ (kt "dict" (by simp[kinds])) (λz=>nomatch z) (fin _ (by cases t<;>rfl))
theorem Ik(t:Ty):bootBuiltins (tyName t:Str)=some (.type (tyName t)):=by
 cases t<;>decide +kernel
theorem qP(t:Ty):(tyName t:Str) ≠ "__name__" /\ ((tyName t:Str)==("__debug__" : Str))=false:=by
 cases t<;>decide +kernel
theorem Kx(L:Lk X S k Φ){a:CE}{t:Ty}{e:Expr}{p:Pos}(hf:fV S.sc ("isinstance" : Str)=true)(WO:("isinstance" : Str)∈S.bl)(hg:fV S.sc (tyName t:Str)=true)(WL:(tyName t:Str)∈S.bl)
  (ha:PE X e (tD X F Φ a)) (mQ:∀es,starEach (e::es) X.env=(false,eval e X.env)::starEach es X.env):PE X (.Call (.Name ("isinstance" : Str) p) [e,.Name (tyName t:Str) p'] [] pos) (tD X F Φ (.vo a t)):=by
 have hT:PE X (.Name (tyName t:Str) p') (tC (.ty (tyName t))):=GJ (L.gl hg) (L.bl _ WL) (Ik t) rfl (qP t).1 (qP t).2;refine PE.imp (d9 (LI L t) (L.gl hf) (L.bl _ WO) PyProof.Rows.boot_isinstance (cJ ha (cJ hT eJ) (mQ _)) (he:=mQ _)) λσ H Q hq=>?_;obtain⟨R,τ,ρ,d,Si,ev,hq⟩:=hq;obtain⟨x,ex,ev⟩:=aH ev;cases ev;refine tD.intro Si ex λv H1 e1 r1=>?_;obtain⟨τ1,f1,p1⟩:=r1;exact⟨v,x,_,_,rfl,p1,λq p xs f h=>h.sq,λq p cs as xs ep f h=>h.dat,hq _ H1 e1 .bl⟩
theorem LO:@DI.Bl=@L2.Bl:=rfl
theorem Pq(L:Lk X S k Φ){a b:CE}{e i:Expr}(ha:PE X e (tD X F Φ a))(hb:PE X i (tD X F Φ b))(hp:oq i):PE X (.Subscript e i pos) (tD X F Φ (.ix a b)):=by
 refine PE.imp (Jg (Hb.or LN) ha hb hp) λσ H Q hq=>?_;obtain⟨R,τ,ρ,d,Si,ev,hq⟩:=hq;obtain⟨x,ex,ev⟩:=aH ev;obtain⟨y,ey,ev⟩:=aH ev;refine tD.intro Si ex λv H1 e1 r1=>tD.intro (Si.go e1) ey λu H2 e2 r2=>?_;have ee:=e1.trans e2;have rv:=(r1.go e2).mono (fv':=i7 (.ix a b)) λj hj=>aaC _ hj;have item:∀{q:br} {xs:af} {ds:aa} {τt:Addr->Option br} {j:Int},(∀p q,τt p=some q->H p=none)->aI (aY X.K H2) (nd X.K R (kg (gP X F) τ (i7 (.ix a b))) τt H2) q 0 xs ds->v9 ds j=ok d->∃w,L2.OG xs j=some w/\Q w H2:=by
  intro q xs ds τt j fr rs h;unfold v9 at h;split at h
  ·rename_i d' hd;cases h;cases hx:DI.Bl ds.length j with
   |none=>rw[hx]at hd;cases hd
   |some m =>
    rw[hx]at hd;obtain⟨w,hw,lI⟩:=rs.get (show ds[m]?=some d' from hd);refine⟨w,?_,hq w H2 ee ⟨λ_=>none,λ_ _ h=>by simp at h,lI.lG Si fr⟩⟩;unfold L2.OG;rw[<- LO,rs.length,hx];exact hw
  ·cases h
 cases y with
 |int j =>
  obtain⟨τt,fr,rp⟩:=rv;cases r2.isInt;cases x with
  |tup ds =>
   cases rp with
   | @tup _ p xs _ h rs=>obtain⟨w,h1,h2⟩:=item fr rs ev;exact .inr ⟨p,xs,j,w,rfl,rfl,h,h1,h2⟩
  |lst f ds =>
   cases rp with
   | @lst _ p xs _ _ h rs=>obtain⟨w,h1,h2⟩:=item fr rs ev;exact .inl ⟨p,xs,j,w,rfl,rfl,h.sq,h1,h2⟩
  |_=>exact nk ev
 |_=>cases x<;>cases ev
theorem pI:∀(cs:aD) {ρ:aZ} {ds:aa},cf Φ cs ρ=ok ds->ds.length=cs.length
 |[],_,_,h=>by cases h;rfl
 |c::cs,_,_,h=>by
  obtain⟨x,_,h⟩:=aH h;obtain⟨xs,hx,h⟩:=aH h;cases h;simp[pI cs hx]
theorem Kt{es:aC}{n:Nat}(h:PA X es (uo X F Φ cs))(hl:cs.length<=1000):PE X (.Tuple es n pos) (tD X F Φ (.tup cs)):=by
 refine PE.imp (K4 h) λσ H Q hq=>?_;obtain⟨R,τ,ρ,d,Si,ev,hq⟩:=hq;obtain⟨ds,Ni,ev⟩:=aH ev;cases ev;refine⟨R,τ,ρ,ds,Si,Ni,λvs H1 e1 r1=>?_⟩;obtain⟨τt,fr,rs⟩:=r1;have hz:sizeLine=16777216:=abf;refine⟨by rw[rs.length,pI cs Ni];left,λp hp=>?_⟩;have es:aM H1 (upd H1 p (.tup vs)):=aM.upd hp;exact hq _ _ (e1.trans es) ⟨τt,fr,.tup (aY.of bj) (rs.imp (λ_ _ h=>aY.same es h) λ_ _ _ _ h=>nd.same es h)⟩
theorem Kw{es:aC}(h:PA X es (uo X F Φ cs))(hl:cs.length<=1000):PE X (.List es pos) (tD X F Φ (.lst cs)):=by
 refine PE.imp (K7 h) λσ H Q hq=>?_;obtain⟨R,τ,ρ,d,Si,ev,hq⟩:=hq;obtain⟨ds,Ni,ev⟩:=aH ev;cases ev;refine⟨R,τ,ρ,ds,Si,Ni,λvs H1 e1 r1=>?_⟩;obtain⟨τt,fr,rs⟩:=r1;have hz:sizeLine=16777216:=abf;refine⟨by rw[rs.length,pI cs Ni];left,λp hp=>?_⟩;have es:aM H1 (upd H1 p (.lst vs)):=aM.upd hp;refine hq _ _ (e1.trans es) ⟨λq=>if q=p then some []else τt q,λq z hq=>?_,.lst ⟨bj,by simp⟩ (rs.imp (λ_ _ h=>aY.same es h) λc q xs f h=>?_)⟩
 ·by_cases xA:q=p
  ·subst xA;exact e1.free hp
  ·simp only[xA,if_false]at hq;exact fr q z hq
 ·have h':=nd.same es h;cases f with
  |ow =>
   have xA:q≠p:=by
    intro z;subst z;exact h.1.ne hp
   exact⟨h'.1,by simp only[xA,if_false];exact h'.2⟩
  |fz=>exact h'
  |al=>exact h'
  |sc=>exact h'
theorem Ge(L:Lk X S k Φ){f:Nat}{x:Str}{y:Expr}{ys:aC}{p:Pos}(hf:S.fn f=some x)(hg:fV S.sc x=true)(hn:o4 x=true)(ha:PA X (y::ys) (uo X F Φ cs))
  (mQ:∀es,starEach (y::es) X.env=(false,eval y X.env)::starEach es X.env) (hpl:∀pos,(backTo pos (starEach ys X.env)).any (·.1)=false):PE X (.Call (.Name x p) (y::ys) [] pos) (tD X F Φ (.call f cs)):=by
 obtain⟨a,fd,ps,Fo,hm,hk,hb,hl⟩:=(L.fn f x hf).ex;unfold o4 at hn;simp only[Bool.and_eq_true,Bool.not_eq_true']at hn;refine PE.imp (yO Fo L.room (L.gl hg) hm hk hb .nil (P0 (X:=X)) ha hn.1.1 (mQ _) (hpl _)) λσ H Q hq=>?_;obtain⟨R,τ,ρ,d,Si,ev,hq⟩:=hq;obtain⟨xs,cn,ev⟩:=aH ev;obtain⟨r,er,ev⟩:=aH ev;cases ev;refine⟨R,τ,ρ,xs,Si,cn,λvs H1 e1 r1=>?_⟩;obtain⟨τt,fr,rs⟩:=r1;have fresh:∀p,H p=none->kg (gP X F) τ (dF cs) p:=λp hp=>⟨.inr (Si.same.free hp),λc i e=>absurd hp (Si.th p _ e)⟩
 have hR:∀p,R p->kg (gP X F) τ (dF cs) p:=λp hp=>⟨Si.rf p hp,λc i e=>by rw[Si.rt p hp]at e;cases e⟩
 rw[List.append_nil];refine⟨kg (gP X F) τ (dF cs),aF aW xs,r,by rw[rs.length,<- hl _ _ er,aX,List.length_map],aI.j6 (λ_ _ h=>h) (λk k' p xs f h=>?_) rs _ _,er,λv H2 e2 rr=>?_⟩
 ·cases f with
  |ow=>exact⟨h.1,fresh p (fr p _ h.2)⟩
  |fz=>exact⟨h.1,hR p h.2⟩
  |al=>exact h
  |sc=>exact h
 ·obtain⟨τ2,fr2,rp⟩:=rr;refine hq v H2 (e1.trans e2) ⟨τ2,λp q h=>e1.free (fr2 p q h),Rep.map (q:=[]) (q':=[]) (λ_ _ h=>h) (λc p xs f h=>?_) rp [] rfl⟩;cases f with
  |ow=>exact h
  |fz=>exact⟨h.1,h.2.elim id λz=>fresh p (e1.free z)⟩
  |al=>exact h.2.elim
  |sc=>exact h
def YN(K:au)(f:Bf):af->Hp->VK->Prop:=match f with
 |.len=>λxs H Q=>∃p ys,xs=[.ref p]/\(dH K H p ys\/aY K H p ys)/\Q (.int ys.length) H
 |.abs=>λxs H Q=>∃i,xs=[.int i]/\Q (.int (if i<0 then -i else i)) H
 |.vq=>λxs H Q=>(∃i,xs=[.int i]/\Q (.int i) H)\/∃k,xs=[.bl k]/\Q (.int (if k then 1 else 0)) H
 |.list1=>λxs H Q=>∃p ys,xs=[.ref p]/\(dH K H p ys\/aY K H p ys)/\∀l,H l=none->Q (.ref l) (upd H l (.lst ys))
 |.tuple1=>λxs H Q=>∃p ys,xs=[.ref p]/\((dH K H p ys/\∀l,H l=none->Q (.ref l) (upd H l (.tup ys)))\/(aY K H p ys/\Q (.ref p) H))
 |.j4=>λxs H Q=>∃(p:Addr) (ns:ae),xs=[.ref p]/\dH K H p (ns.map V.int)/\Q (.int ns.sum) H
 |.all1=>λxs H Q=>∃(p:Addr) (bs:List Bool),xs=[.ref p]/\dH K H p (bs.map V.bl)/\Q (.bl (bs.all id)) H
 |.ip=>λxs H Q=>∃(p:Addr) (ns:ae),xs=[.ref p]/\(dH K H p (ns.map V.int)\/aY K H p (ns.map V.int))/\ns.length<64/\∀l,H l=none->Q (.ref l) (upd H l (.lst ((sortI ns).map V.int)))
theorem aI.one{N:gj}{k:br}{n:Nat}{d:D}(h:aI T N k n vs [d]):∃v,vs=[v]/\Rep T N (n::k) v d:=by
 cases h with
 |cons h t=>cases t;exact⟨_,rfl,h⟩
theorem aI.two{N:gj}{k:br}{n:Nat}{d e:D}(h:aI T N k n vs [d,e]):∃v w,vs=[v,w]/\Rep T N (n::k) v d/\Rep T N ((n+1)::k) w e:=by
 cases h with
 |cons h t=>obtain⟨w,rfl,h'⟩:=t.one;exact⟨_,_,rfl,h,h'⟩
theorem aI.ints1{N:gj}{k:br}{n:Nat}{i:Int}(h:aI T N k n vs [.int i]):vs=[.int i]:=by
 obtain⟨v,rfl,z⟩:=h.one;cases z;rfl
noncomputable def Bf.one:Bf->Bool
 |_=>true
theorem JM{f:Bf}{xs:aa}{d:D}(hf:f.one=true)(h:pY f xs=ok d):∃x,xs=[x]:=by
 cases xs with
 |nil=>cases f<;>exact nk h
 |cons x xs=>cases xs with
  |nil=>exact⟨x,rfl⟩
  |cons y ys=>cases f<;>first | (cases hf;done) | (cases x<;>exact nk h)
theorem aI.ofInts{T:mV}{N:gj}{k:br}:∀{ns:ae} {n:Nat} {vs:af},aI T N k n vs (ns.map D.int)->vs=ns.map V.int
 |[],_,_,h=>by cases h;rfl
 |i::ns,_,_,h=>by
  cases h with
  |cons h t=>cases h;rw[aI.ofInts t];rfl
theorem aI.Jk{T:mV}{N:gj}{k:br}:∀{ns:List Bool} {n:Nat} {vs:af},aI T N k n vs (ns.map D.bl)->vs=ns.map V.bl
 |[],_,_,h=>by cases h;rfl
 |i::ns,_,_,h=>by
  cases h with
  |cons h t=>cases h;rw[aI.Jk t];rfl
theorem jP{T:mV}{N:gj}{k:br}:∀(ns:ae) {n:Nat},aI T N k n (ns.map V.int) (ns.map D.int)
 |[],_=>.nil
 |i::ns,_=>.cons (.int i) (jP ns)
theorem Il{f:Bf}(hq:tD X F Φ (.bf f cs) σ H Q):NV (YN X.K f) (uo X F Φ cs) σ H Q:=by
 obtain⟨R,τ,ρ,d,Si,ev,hq⟩:=hq;obtain⟨xs,cn,ev⟩:=aH ev;refine⟨R,τ,ρ,xs,Si,cn,λvs H1 e1 r1=>?_⟩;obtain⟨τt,fr,rs⟩:=r1;cases f with
 |len =>
  obtain⟨x,rfl⟩:=JM rfl ev;obtain⟨v,rfl,rv⟩:=rs.one;cases x with
  |tup ds=>cases ev;obtain⟨_,_,rfl,h,r⟩:=rv.FG;exact⟨_,_,rfl,.inr h,by rw[r.length];exact hq _ H1 e1 .int⟩
  |lst f ds=>cases ev;obtain⟨_,_,rfl,h,r⟩:=rv.wA;exact⟨_,_,rfl,.inl h.sq,by rw[r.length];exact hq _ H1 e1 .int⟩
  |_=>exact nk ev
 |abs =>
  obtain⟨x,rfl⟩:=JM rfl ev;cases x with
  |int i=>cases ev;cases rs.ints1;exact⟨_,rfl,hq _ H1 e1 .int⟩
  |_=>exact nk ev
 |vq =>
  obtain⟨x,rfl⟩:=JM rfl ev;obtain⟨v,rfl,rv⟩:=rs.one;cases x with
  |int i=>cases ev;cases rv;exact .inl ⟨_,rfl,hq _ H1 e1 .int⟩
  |bl i=>cases ev;cases rv;exact .inr ⟨_,rfl,hq _ H1 e1 .int⟩
  |_=>exact nk ev
 |list1 =>
  obtain⟨x,rfl⟩:=JM rfl ev;obtain⟨v,rfl,rv⟩:=rs.one;cases x with
  |tup ds =>
   cases ev;obtain⟨_,_,rfl,h,r⟩:=rv.FG;refine⟨_,_,rfl,.inr h,λl hl=>?_⟩;exact hq _ _ (e1.trans (aM.upd hl)) (cx.xf (e1.free hl) (e1.trans (aM.upd hl)) bj ((r.lG Si fr).imp (λ_ _ h=>aY.same (aM.upd hl) h) λ_ _ _ _ h=>nd.same (aM.upd hl) h))
  |lst f ds =>
   cases ev;obtain⟨_,_,rfl,h,r⟩:=rv.wA;refine⟨_,_,rfl,.inl h.sq,λl hl=>?_⟩;exact hq _ _ (e1.trans (aM.upd hl)) (cx.xf (e1.free hl) (e1.trans (aM.upd hl)) bj ((r.lG Si fr).imp (λ_ _ h=>aY.same (aM.upd hl) h) λ_ _ _ _ h=>nd.same (aM.upd hl) h))
  |_=>exact nk ev
 |tuple1 =>
  obtain⟨x,rfl⟩:=JM rfl ev;obtain⟨v,rfl,rv⟩:=rs.one;cases x with
  |tup ds =>
   cases ev;obtain⟨_,_,rfl,h,r⟩:=rv.FG;exact⟨_,_,rfl,.inr ⟨h,hq _ H1 e1 ⟨λ_=>none,λ_ _ h=>by simp at h,.tup h (r.lG Si fr)⟩⟩⟩
  |lst f ds =>
   cases ev;obtain⟨_,_,rfl,h,r⟩:=rv.wA;refine⟨_,_,rfl,.inl ⟨h.sq,λl hl=>?_⟩⟩;exact hq _ _ (e1.trans (aM.upd hl)) ⟨λ_=>none,λ_ _ h=>by simp at h,.tup (aY.of bj) ((r.lG Si fr).imp (λ_ _ h=>aY.same (aM.upd hl) h) λ_ _ _ _ h=>nd.same (aM.upd hl) h)⟩
  |_=>exact nk ev
 |j4 =>
  obtain⟨x,rfl⟩:=JM rfl ev;obtain⟨v,rfl,rv⟩:=rs.one;cases x with
  |lst f ds =>
   have ev:(match intsOf ds with|some ns=>ok (.int ns.sum)|none=>none)=ok d:=ev;cases hn:intsOf ds with
   |none=>rw[hn]at ev;cases ev
   |some ns =>
    rw[hn]at ev;cases ev;cases dS hn;cases rv with
    |lst h r=>cases r.ofInts;exact⟨_,ns,rfl,h.sq,hq _ H1 e1 .int⟩
  |_=>exact nk ev
 |all1 =>
  obtain⟨x,rfl⟩:=JM rfl ev;obtain⟨v,rfl,rv⟩:=rs.one;cases x with
  |lst f ds =>
   have ev:(match jt ds with|some bs=>ok (.bl (bs.all id))|none=>none)=ok d:=ev;cases hn:jt ds with
   |none=>rw[hn]at ev;cases ev
   |some ns =>
    rw[hn]at ev;cases ev;cases v5 hn;cases rv with
    |lst h r=>cases r.Jk;exact⟨_,ns,rfl,h.sq,hq _ H1 e1 .bl⟩
  |_=>exact nk ev
 |ip =>
  obtain⟨x,rfl⟩:=JM rfl ev;obtain⟨v,rfl,rv⟩:=rs.one;have fin:∀ds,qV ds=ok d->∃ns:ae,ds=ns.map D.int/\ns.length<64/\∀l,H1 l=none->Q (.ref l) (upd H1 l (.lst ((sortI ns).map V.int))):=by
   intro ds e;unfold qV at e;split at e
   ·rename_i ns hn;split at e
    ·rename_i pw;cases e;refine⟨ns,dS hn,pw,λl hl=>hq _ _ (e1.trans (aM.upd hl)) (cx.xf (e1.free hl) (e1.trans (aM.upd hl)) bj (jP _))⟩
    ·cases e
   ·cases e
  cases x with
  |tup ds =>
   obtain⟨ns,rfl,pw,q⟩:=fin ds ev;cases rv with
   |tup h r=>cases r.ofInts;exact⟨_,ns,rfl,.inr h,pw,q⟩
  |lst f ds =>
   obtain⟨ns,rfl,pw,q⟩:=fin ds ev;cases rv with
   |lst h r=>cases r.ofInts;exact⟨_,ns,rfl,.inl h.sq,pw,q⟩
  |_=>exact nk ev
theorem Pr(L:Lk X S k Φ){f:Bf}{y:Expr}{ys:aC}{p:Pos}(hg:fV S.sc (t8 f:Str)=true)(hb:(t8 f:Str)∈S.bl)(ha:PA X (y::ys) (uo X F Φ cs))
  (mQ:∀es,starEach (y::es) X.env=(false,eval y X.env)::starEach es X.env) (hpl:∀pos,(backTo pos (starEach ys X.env)).any (·.1)=false):PE X (.Call (.Name (t8 f:Str) p) (y::ys) [] pos) (tD X F Φ (.bf f cs)):=by
 refine PE.imp (t:=NV (YN X.K f) (uo X F Φ cs)) ?_ λσ H Q hq=>Il hq;cases f with
 |len=>exact d9 tZ (L.gl hg) (L.bl _ hb) aci ha (he:=mQ _) (hpl:=hpl _)
 |abs=>exact d9 EF (L.gl hg) (L.bl _ hb) (by decide +kernel) ha (he:=mQ _) (hpl:=hpl _)
 |vq=>exact lW A7 (L.gl hg) (L.bl _ hb) (by decide +kernel) ha (he:=mQ _) (hpl:=hpl _)
 |list1=>exact lW tY (L.gl hg) (L.bl _ hb) (by decide +kernel) ha (he:=mQ _) (hpl:=hpl _)
 |tuple1=>exact lW qK (L.gl hg) (L.bl _ hb) (by decide +kernel) ha (he:=mQ _) (hpl:=hpl _)
 |j4=>exact d9 (A6 L.calm) (L.gl hg) (L.bl _ hb) (by decide +kernel) ha (he:=mQ _) (hpl:=hpl _)
 |ip=>exact d9 tX (L.gl hg) (L.bl _ hb) (by decide +kernel) ha (he:=mQ _) (hpl:=hpl _)
 |all1=>exact d9 (A8 L.calm) (L.gl hg) (L.bl _ hb) (by decide +kernel) ha (he:=mQ _) (hpl:=hpl _)
theorem Ga(L:Lk X S k Φ){a:CE}{e:Expr}{p:Pos}(hf:fV S.sc ("len" : Str)=true)(WO:("len" : Str)∈S.bl)(hg:fV S.sc ("set" : Str)=true)(WL:("set" : Str)∈S.bl)
  (ha:PE X e (tD X F Φ a)) (mQ:∀es,starEach (e::es) X.env=(false,eval e X.env)::starEach es X.env):PE X (.Call (.Name ("len" : Str) p) [.Call (.Name ("set" : Str) p') [e] [] pos'] [] pos) (tD X F Φ (.km a)):=by
 refine PE.imp (GH L.calm (L.gl hf) (L.bl _ WO) (L.gl hg) (L.bl _ WL) (cJ ha eJ (mQ _)) mQ) λσ H Q hq=>?_;obtain⟨R,τ,ρ,d,Si,ev,hq⟩:=hq;obtain⟨x,ex,ev⟩:=aH ev;refine tD.intro Si ex λv H1 e1 r1=>?_;obtain⟨τ1,f1,rv⟩:=r1;cases x with
 |tup ds =>
  simp only[yW]at ev;split at ev
  ·rename_i ns hn;split at ev
   ·rename_i hl;cases ev;cases dS hn;cases rv with
    |tup h r=>cases r.ofInts;exact⟨_,ns,rfl,h,hl,hq _ H1 e1 .int⟩
   ·cases ev
  ·cases ev
 |_=>exact nk ev
theorem Ku{a:CE}{e:Expr}(h:PE X e (tD X F Φ a)):PE X (.UnaryOp .Not e pos) (tD X F Φ (.not a)):=by
 refine PE.imp (K6 h) λσ H Q hq=>?_;obtain⟨R,τ,ρ,d,Si,ev,hq⟩:=hq;obtain⟨b,eb,ev⟩:=aH ev;obtain⟨x,ex,eb⟩:=aH eb;cases ev;refine tD.intro Si ex λv H1 e1 r1=>?_;cases x<;>simp[iZ]at eb;cases eb;exact⟨_,r1.AI,hq _ H1 e1 .bl⟩
theorem Kj{a:CE}{e:Expr}(h:PT X e (gW X F Φ a)):PT X (.UnaryOp .Not e pos) (gW X F Φ (.not a)):=by
 refine PT.imp (KZ h) λσ H Q hq=>?_;obtain⟨R,τ,ρ,b,Si,ev,hq⟩:=hq;unfold xM at ev;obtain⟨d,ed,ev⟩:=aH ev;obtain⟨c,ec,ed⟩:=aH ed;cases ed;have Xz:b=!c:=by
  have e2:ok (!c)=ok b:=ev;exact(Except.ok.inj (aar e2)).symm
 subst Xz;exact⟨R,τ,ρ,c,Si,ec,λH' e=>hq H' e⟩
theorem Kv{a:CE}{e:Expr}(h:PE X e (tD X F Φ a)):PE X (.UnaryOp .USub e pos) (tD X F Φ (.neg a)):=by
 refine PE.imp (PR J9 h) λσ H Q hq=>?_;obtain⟨R,τ,ρ,d,Si,ev,hq⟩:=hq;obtain⟨x,ex,ev⟩:=aH ev;refine tD.intro Si ex λv H1 e1 r1=>?_;cases x<;>simp[GZ]at ev;cases ev;exact⟨_,r1.isInt,hq _ H1 e1 .int⟩
theorem Ip{c:CE}(hq:tD X F Φ (.and [c]) σ H Q):tD X F Φ c σ H Q:=by
 obtain⟨R,τ,ρ,d,Si,ev,hq⟩:=hq;obtain⟨b,eb,ev⟩:=aH ev;obtain⟨x,ex,eb⟩:=aH eb;cases ev;refine tD.intro Si ex λv H1 e1 r1=>?_;cases x<;>simp[iZ]at eb;cases eb;rw[r1.AI];exact hq _ H1 e1 .bl
theorem Lg{c:CE}(hq:tD X F Φ (.or [c]) σ H Q):tD X F Φ c σ H Q:=by
 obtain⟨R,τ,ρ,d,Si,ev,hq⟩:=hq;obtain⟨b,eb,ev⟩:=aH ev;obtain⟨x,ex,eb⟩:=aH eb;cases ev;refine tD.intro Si ex λv H1 e1 r1=>?_;cases x<;>simp[iZ]at eb;cases eb;rw[r1.AI];exact hq _ H1 e1 .bl
theorem EO{c:CE}{Q:Bool->Hp->Prop}(hq:gW X F Φ (.and [c]) σ H Q):gW X F Φ c σ H Q:=by
 obtain⟨R,τ,ρ,d,Si,ev,hq⟩:=hq;unfold xM at ev;obtain⟨b,eb,ev⟩:=aH ev;obtain⟨x,ex,eb⟩:=aH eb;cases eb;cases ev;exact⟨R,τ,ρ,_,Si,ex,hq⟩
theorem GP{c:CE}{Q:Bool->Hp->Prop}(hq:gW X F Φ (.or [c]) σ H Q):gW X F Φ c σ H Q:=by
 obtain⟨R,τ,ρ,d,Si,ev,hq⟩:=hq;unfold xM at ev;obtain⟨b,eb,ev⟩:=aH ev;obtain⟨x,ex,eb⟩:=aH eb;cases eb;cases ev;exact⟨R,τ,ρ,_,Si,ex,hq⟩
theorem ER{c:CE}(hq:tD X F Φ (.and (c::c'::cs)) σ H Q):IP (tD X F Φ c) (tD X F Φ (.and (c'::cs))) σ H Q:=by
 obtain⟨R,τ,ρ,d,Si,ev,hq⟩:=hq;obtain⟨b,eb,ev⟩:=aH ev;obtain⟨x,ex,eb⟩:=aH eb;refine tD.intro Si ex λv H1 e1 r1=>?_;cases x<;>simp[iZ]at eb;cases eb;refine⟨_,r1.AI,?_⟩;cases b with
 |true =>
  rw[if_pos rfl]at ev ⊢;exact tD.intro (Si.go e1) ev λv H' e r=>hq v H' (e1.trans e) ((r.old e1).mono λi hi=>aap _ hi)
 |false =>
  rw[if_neg (by simp)]at ev ⊢;cases ev;exact hq _ H1 e1 .bl
theorem GQ{c:CE}(hq:tD X F Φ (.or (c::c'::cs)) σ H Q):O7 (tD X F Φ c) (tD X F Φ (.or (c'::cs))) σ H Q:=by
 obtain⟨R,τ,ρ,d,Si,ev,hq⟩:=hq;obtain⟨b,eb,ev⟩:=aH ev;obtain⟨x,ex,eb⟩:=aH eb;refine tD.intro Si ex λv H1 e1 r1=>?_;cases x<;>simp[iZ]at eb;cases eb;refine⟨_,r1.AI,?_⟩;cases b with
 |false =>
  rw[if_neg (by simp)]at ev ⊢;exact tD.intro (Si.go e1) ev λv H' e r=>hq v H' (e1.trans e) ((r.old e1).mono λi hi=>aap _ hi)
 |true =>
  rw[if_pos rfl]at ev ⊢;cases ev;exact hq _ H1 e1 .bl
theorem Ba{c:CE}{Q:Bool->Hp->Prop}(hq:gW X F Φ (.and (c::c'::cs)) σ H Q):Pd (gW X F Φ c) (gW X F Φ (.and (c'::cs))) σ H Q:=by
 obtain⟨R,τ,ρ,d,Si,ev,hq⟩:=hq;unfold xM at ev;obtain⟨x,ex,et⟩:=aH ev;obtain⟨b,eb,ev⟩:=aH ex;refine⟨R,τ,ρ,b,Si,eb,λH1 e1=>?_⟩;cases b with
 |true =>
  rw[if_pos rfl]at ev ⊢;exact⟨R,τ,ρ,d,Si.go e1,by unfold xM;rw[show bz Φ (.and (c'::cs)) ρ=ok x from ev];exact et,λH' e=>hq H' (e1.trans e)⟩
 |false =>
  rw[if_neg (by simp)]at ev ⊢;cases ev;cases et;exact hq H1 e1
theorem CO{c:CE}{Q:Bool->Hp->Prop}(hq:gW X F Φ (.or (c::c'::cs)) σ H Q):Yw (gW X F Φ c) (gW X F Φ (.or (c'::cs))) σ H Q:=by
 obtain⟨R,τ,ρ,d,Si,ev,hq⟩:=hq;unfold xM at ev;obtain⟨x,ex,et⟩:=aH ev;obtain⟨b,eb,ev⟩:=aH ex;refine⟨R,τ,ρ,b,Si,eb,λH1 e1=>?_⟩;cases b with
 |false =>
  rw[if_neg (by simp)]at ev ⊢;exact⟨R,τ,ρ,d,Si.go e1,by unfold xM;rw[show bz Φ (.or (c'::cs)) ρ=ok x from ev];exact et,λH' e=>hq H' (e1.trans e)⟩
 |true =>
  rw[if_pos rfl]at ev ⊢;cases ev;cases et;exact hq H1 e1
theorem jI{Q:af->Hp->Prop}(hq:uo X F Φ [] σ H Q):O9 σ H Q:=by
 obtain⟨R,τ,ρ,d,Si,ev,hq⟩:=hq;cases ev;exact hq _ H (aM.refl H) .nil
theorem fP{c:CE}{Q:af->Hp->Prop}(hq:uo X F Φ (c::cs) σ H Q):IM (tD X F Φ c) (uo X F Φ cs) σ H Q:=by
 obtain⟨R,τ,ρ,d,Si,ev,hq⟩:=hq;obtain⟨x,ex,ev⟩:=aH ev;obtain⟨xs,cn,ev⟩:=aH ev;cases ev;refine tD.intro Si ex λv H1 e1 r1=>⟨R,τ,ρ,xs,Si.go e1,cn,λvs H2 e2 r2=>hq _ H2 (e1.trans e2) (cF.cons e1 e2 (r1.mono λi hi=>aaC _ hi) (r2.mono λi hi=>aap _ hi))⟩
theorem cj{c:CE}{e:Expr}(h:cW S c e=true)(es:aC)(env:Env):starEach (e::es) env=(false,eval e env)::starEach es env:=by
 cases e<;>first|rfl | (cases c<;>exact(aac h).elim)
theorem xV:∀{cs:aD} {es:aC},bU S cs es=true->∀(pos:Pos) (env:Env),(backTo pos (starEach es env)).any (·.1)=false
 |[],[],_,_,_=>rfl
 |[],_::_,h,_,_=>by exact(aac h).elim
 |_::_,[],h,_,_=>by exact(aac h).elim
 |c::cs,e::es,h,pos,env=>by
  replace h:=aL h;rw[cj h.1];have:=xV h.2 pos env;unfold backTo at this ⊢;simp only[List.map_cons,List.any_cons,Bool.false_or];exact this
theorem rT{c:CE}{e:Expr}(h:cW S c e=true):oq e:=by
 intro o i;cases e<;>first|rfl | (cases c<;>exact(aac h).elim)
theorem B4{j:Nat}:PE X (.Constant .none j pos) (tD X F Φ .bV):=PE.imp CD λσ H Q bR=>by obtain⟨R,τ,ρ,d,Si,ev,hq⟩:=bR;cases ev;exact hq _ H (aM.refl H) .bV
theorem IV{b:Bool}{j:Nat}:PE X (.Constant (.bool b) j pos) (tD X F Φ (.bl b)):=PE.imp PY λσ H Q bR=>by obtain⟨R,τ,ρ,d,Si,ev,hq⟩:=bR;cases ev;exact hq _ H (aM.refl H) .bl
theorem B5{i:Int}{j:Nat}:PE X (.Constant (.int i) j pos) (tD X F Φ (.int i)):=PE.imp K9 λσ H Q bR=>by obtain⟨R,τ,ρ,d,Si,ev,hq⟩:=bR;cases ev;exact hq _ H (aM.refl H) .int
theorem LS(L:Lk X S k Φ){y:Expr}{p L0:Pos}(g1:fV S.sc ("range" : Str)=true)(g2:("range" : Str)∈S.bl)(pa:PA X [y] (uo X F Φ es))(AN:bU S es [y]=true)
  (pins:aq) (s:Shared) (σ:St) (H:Hp) (R:ak) (τ:Addr->Option br) (ρ:aZ) (xs items:aa) (I:Inv X pins σ H s) (Si:SI X F R τ ρ σ H) (cn:cf Φ es ρ=ok xs) (xP:eL Φ .jK xs=ok items) (Rr:It->Hp->Prop)
  (hR:∀J H2,aM H H2->Yl X.K J (lQ X F τ (caps++dF es) H2) H2 items->Rr J H2) :
  wpAny (model X.prog X.w) X.A (eval (.Call (.Name ("range" : Str) p) [y] [] L0) X.env) (λv s1=>wpAny (model X.prog X.w) X.A (pyIter v) (Bt X pins σ target Rr) X.xe s1) X.xe s:=by
 match es,AN with
 |[c],AN =>
  replace AN:=aL AN;refine rm (L.gl g1) (L.bl _ g2) pa (cj AN.1 _ _) pins s σ H Rr I ⟨R,τ,ρ,xs,Si,cn,λvs H1 e1 rv=>?_⟩;obtain⟨τt,fr,rs⟩:=rv;obtain⟨n,rfl⟩:∃n,xs=[.int n]:=by
   cases xs with
   |nil=>cases xP
   |cons x t=>cases x<;>first | (cases xP;done) | (cases t with|nil=>exact⟨_,rfl⟩|cons _ _=>cases xP)
  cases rs.ints1
  ·obtain⟨⟨c1,c2⟩,xP⟩:=qk xP;subst xP;have pq:(eH:Int)=1000000:=rfl;refine⟨n,rfl,by left,by left,hR _ H1 e1 ?_⟩;have:=J0 (X:=X) (lo:=0) (n:=n.toNat) (R:=lQ X F τ (caps++dF [c]) H1) (H1:=H1);simpa using this
 |[],AN=>exact(aac AN).elim
 |_::_::_,AN=>exact(aac (aL AN).2).elim
theorem LR(L:Lk X S k Φ){c:CE}{y:Expr}(pe:PE X y (tD X F Φ c))
  (pins:aq) (s:Shared) (σ:St) (H:Hp) (R:ak) (τ:Addr->Option br) (ρ:aZ) (xs items:aa) (I:Inv X pins σ H s) (Si:SI X F R τ ρ σ H) (cn:cf Φ [c] ρ=ok xs) (xP:eL Φ .seq xs=ok items) (Rr:It->Hp->Prop)
  (hR:∀J H2,aM H H2->Yl X.K J (lQ X F τ (caps++dF [c]) H2) H2 items->Rr J H2) :
  wpAny (model X.prog X.w) X.A (eval y X.env) (λv s1=>wpAny (model X.prog X.w) X.A (pyIter v) (Bt X pins σ target Rr) X.xe s1) X.xe s:=by
 obtain⟨x,ex,cn⟩:=aH cn;obtain⟨xs',Xv,cn⟩:=aH cn;cases Xv;cases cn;have Zx:∀i∈i7 c,i∈caps++dF [c]:=λi hi=>aap _ (aaC _ hi);cases x with
 |tup ds =>
  cases xP;refine w_ pe pins s σ H Rr I (tD.intro Si ex λv H1 e1 rv=>?_);obtain⟨τt,fr,rp⟩:=rv;cases rp with
  | @tup _ p ys _ hp rs=>exact⟨p,rfl,⟨ys,hp⟩,hR _ H1 e1 (JZ (q:=[]) hp (aI.j6 (λ_ _ h=>h) (wV Si fr Zx) rs _ _))⟩
 |lst f ds =>
  cases xP;refine sP pe pins s σ H Rr I (tD.intro Si ex λv H1 e1 rv=>?_);obtain⟨τt,fr,rp⟩:=rv;cases rp with
  | @lst _ p ys _ _ hp rs=>exact⟨p,rfl,⟨ys,hp.sq⟩,hR _ H1 e1 (FE (q:=[]) hp.sq (aI.j6 (λ_ _ h=>h) (wV Si fr Zx) rs _ _))⟩
 |_=>cases xP
theorem OM{xs:aa}{J:It}(Si:SI X F R τ ρ σ H)(hs:∀i∈fv,i∈fv')(r:cF X.K (gP X F) R τ fv H H2 vs xs)(y:JR X.K J H2 vs xs items):
  Yl X.K J (lQ X F τ fv' H2) H2 items:=by
 obtain⟨τt,fr,rs⟩:=r;have at':∀H',aM H2 H'->aI (aY X.K H') (nd X.K (lQ X F τ fv' H2) (λ_=>False) (λ_=>none) H') [] 0 vs (aF aW xs):=λH' e =>
  (aI.j6 (T':=aY X.K H2) (λ_ _ h=>h) (wV Si fr hs) rs [] 0).imp (λ_ _ h=>aY.same e h) λ_ _ _ _ h=>nd.same e h
 have st:∀H',aM H2 H'->r_ X.K H2 vs xs H':=λH' e=>⟨⟨_,at' H2 (aM.refl H2),λp o _ h=>e p o h⟩,λ_ _ h=>aY.same e h⟩
 exact⟨λi H' e hi=>y.go i H' _ (st H' e) (at' H' e) hi,λi H' x lK e hi hy=>y.wj i H' _ x lK (st H' e) (at' H' e) hi hy,λi H' e hi=>y.stop i H' _ (st H' e) (at' H' e) hi⟩
theorem LU(L:Lk X S k Φ){p:Nat}{y:Expr}(hp:S.px.pi p S.sc S.bl y=some args)(ht:(decide (1100<=p)||gH target)=true)(hs:mz X F Φ es args)
  (pins:aq) (s:Shared) (σ:St) (H:Hp) (R:ak) (τ:Addr->Option br) (ρ:aZ) (xs items:aa) (I:Inv X pins σ H s) (Si:SI X F R τ ρ σ H) (cn:cf Φ es ρ=ok xs) (xP:eL Φ (.cI p) xs=ok items) (Rr:It->Hp->Prop)
  (hR:∀J H2,aM H H2->Yl X.K J (lQ X F τ (caps++dF es) H2) H2 items->Rr J H2) :
  wpAny (model X.prog X.w) X.A (eval y X.env) (λv s1=>wpAny (model X.prog X.w) X.A (pyIter v) (Bt X pins σ target Rr) X.xe s1) X.xe s:=by
 obtain⟨d,ed,ei⟩:=aH (show bd (Φ p xs) m9=ok items from xP);exact L.pr.i X _ _ k L.pX p y args hp F es target ht hs pins s σ H R τ ρ xs d items I Si cn ed ei Rr λJ H2 vs e2 r yz=>hR J H2 e2 (OM Si (λi hi=>by simp[hi]) r yz)
theorem vU{S':Sx}{ifs:aC}(h3:bO.length<=1)(h4:bU S' bO ifs=true)
  (mT:∀(X':Cx) (F':ak),Lk X' S' k Φ->∀(j:Nat) (c:CE) (e:Expr),bO[j]?=some c->ifs[j]?=some e->PE X' e (tD X' F' Φ c)/\PT X' e (gW X' F' Φ c)) :
  (bO=[]/\ifs=[])\/∃c e,bO=[c]/\ifs=[e]/\∀(X':Cx) (F':ak),Lk X' S' k Φ->PT X' e (gW X' F' Φ c):=by
 cases bO with
 |nil=>cases ifs with
  |nil=>exact .inl ⟨rfl,rfl⟩
  |cons _ _=>exact(aac h4).elim
 |cons c cs=>cases cs with
  |cons _ _=>simp at h3
  |nil=>cases ifs with
   |nil=>exact(aac h4).elim
   |cons e ifs=>cases ifs with
    |cons _ _=>exact(aac (aL h4).2).elim
    |nil=>exact .inr ⟨c,e,rfl,rfl,λX' F' L'=>(mT X' F' L' 0 c e rfl rfl).2⟩
def Sn(S:Sx)(ik:IK)(es:aD)(target iter:Expr):Bool:=match ik with
 |.jK=>bA (eE iter) λw=>decide (w.1=("range" : Str))&&fV S.sc w.1&&decide (w.1∈S.bl)&&bA (one w.2) λy=>bU S es [y]
 |.seq=>bU S es [iter]
 |.cI p=>Tp iter&&(decide (1100<=p)||gH target)&&bA (S.px.pi p S.sc S.bl iter) λxs=>bU S es xs
theorem Dl(L:Lk X S k Φ){ik:IK}(AN:∀l,bU S es l=true->PA X l (uo X F Φ es))
  (mT:∀l,bU S es l=true->∀(j:Nat) (c:CE) (e:Expr),es[j]?=some c->l[j]?=some e->PE X e (tD X F Φ c)/\PT X e (gW X F Φ c)) (hpe:∀l,bU S es l=true->mz X F Φ es l) (h6:Sn S ik es target iter=true) :
  ∀(pins:aq) (s:Shared) (σ:St) (H:Hp) (R:ak) (τ:Addr->Option br) (ρ:aZ) (xs items:aa),Inv X pins σ H s->SI X F R τ ρ σ H->cf Φ es ρ=ok xs->eL Φ ik xs=ok items->∀(Rr:It->Hp->Prop),
   (∀J H2,aM H H2->Yl X.K J (lQ X F τ (caps++dF es) H2) H2 items->Rr J H2) ->
   wpAny (model X.prog X.w) X.A (eval iter X.env) (λv s1=>wpAny (model X.prog X.w) X.A (pyIter v) (Bt X pins σ target Rr) X.xe s1) X.xe s:=by
 cases ik with
 |jK =>
  obtain⟨⟨x,as⟩,hv,h6⟩:=bp h6;obtain⟨p,L0,rfl⟩:=cC hv;obtain⟨MB,g3⟩:=aL h6;obtain⟨MA,g2⟩:=aL MB;obtain⟨Mz,g1⟩:=aL MA;obtain rfl:x=_:=aad Mz;obtain⟨y,hu,Hz⟩:=bp g3;obtain rfl:as=[y]:=bS hu;exact LS L g1 (aad g2) (AN _ Hz) Hz
 |seq =>
  have Ww:=mT _ h6;cases es with
  |nil=>exact(aac h6).elim
  |cons c cs=>cases cs with
   |cons _ _=>exact(aac (aL h6).2).elim
   |nil=>exact LR L (Ww 0 c _ rfl rfl).1
 |cI p =>
  obtain⟨h6,g3⟩:=aL h6;obtain⟨xs,ha,Hz⟩:=bp g3;exact LU L ha (aL h6).2 (hpe _ Hz)
mutual
theorem bC:∀(c:CE) (X:Cx) (S:Sx) (F:ak) (L:Lk X S k Φ) (e:Expr),cW S c e=true->PE X e (tD X F Φ c)/\PT X e (gW X F Φ c)
 |.cI p cs,X,S,F,L,e,h=>by
  obtain⟨args,ha,hb⟩:=bp (aL h).2;exact L.pr.e X _ _ k L.pX p e args ha F cs (jJ cs X S F L args hb)
 |.bV,X,S,F,L,e,h=>by
  obtain⟨c,hv,h_1⟩:=bp h;obtain⟨j,p,rfl⟩:=BD hv;obtain rfl:=AF h_1;exact⟨B4,cR B4 λ_=>rfl⟩
 |.bl b,X,S,F,L,e,h=>by
  obtain⟨c,hv,h_1⟩:=bp h;obtain⟨j,p,rfl⟩:=BD hv;obtain rfl:=Dt h_1;exact⟨IV,cR IV λ_=>rfl⟩
 |.int i,X,S,F,L,e,h=>by
  obtain⟨c,hv,h_1⟩:=bp h;obtain⟨j,p,rfl⟩:=BD hv;obtain rfl:=AG h_1;exact⟨B5,cR B5 λ_=>rfl⟩
 |.v i,X,S,F,L,e,h=>by
  obtain⟨x,hv,h'⟩:=bp h;obtain⟨p,rfl⟩:=i8 hv;have:=Vn (F:=F) L h;exact⟨this,cR this λ_=>rfl⟩
 |.glo x i,X,S,F,L,e,h=>by
  obtain⟨y,hv,h_1⟩:=bp h;obtain⟨pos,rfl⟩:=i8 hv;obtain⟨h_2,h3⟩:=aL h_1;obtain⟨qE,h2⟩:=aL h_2;obtain⟨DR,h1⟩:=aL qE;obtain rfl:=aad DR;obtain⟨u,hm,r⟩:=L.cs _ _ (aad h2);have this:PE X (.Name y pos) (tD X F Φ (.glo y i)):=PE.imp (sR (v:=.int i) (L.gl h1) hm r (je h3)) λσ H Q bR=>by obtain⟨R,τ,ρ,d,Si,ev,hq⟩:=bR;cases ev;exact hq _ H (aM.refl H) .int
  exact⟨this,cR this λ_=>rfl⟩
 |.glt x zs,X,S,F,L,e,h=>by
  obtain⟨y,hv,h_1⟩:=bp h;obtain⟨pos,rfl⟩:=i8 hv;obtain⟨h_2,h3⟩:=aL h_1;obtain⟨qE,h2⟩:=aL h_2;obtain⟨DR,h1⟩:=aL qE;obtain rfl:=aad DR;obtain⟨u,hm,a,o,aK,n,rfl,q1,q2,q3,q4,q5⟩:=L.cs _ _ (aad h2);have this:PE X (.Name y pos) (tD X F Φ (.glt y zs)):=PE.imp (sR (v:=.ref a) (L.gl h1) hm rfl (je h3)) λσ H Q bR=>by
   obtain⟨R,τ,ρ,d,Si,ev,hq⟩:=bR;cases ev;exact hq _ H (aM.refl H) ⟨λ_=>none,λ_ _ h=>by simp at h,.tup (.inr ⟨o,aK,n,q1,q2,q3,q4,q5⟩) (jP zs)⟩
  exact⟨this,cR this λ_=>rfl⟩
 |.bin op a b,X,S,F,L,e,h=>by
  obtain⟨⟨l,o,r⟩,hv,h_1⟩:=bp h;obtain⟨pos,rfl⟩:=FL hv;obtain⟨h_2,h2⟩:=aL h_1;obtain⟨qE,h1⟩:=aL h_2;obtain rfl:o=P9 op:=aad qE;have:=Ky (F:=F) (pos:=pos) L (op:=op) (bC a X S F L _ h1).1 (bC b X S F L _ h2).1;exact⟨this,cR this λ_=>rfl⟩
 |.neg a,X,S,F,L,e,h=>by
  obtain⟨⟨o,x⟩,hv,h_1⟩:=bp h;obtain⟨pos,rfl⟩:=BA hv;obtain⟨h_2,h1⟩:=aL h_1;obtain rfl:o=.USub:=aad h_2;have:=Kv (F:=F) (Φ:=Φ) (pos:=pos) (bC a X S F L _ h1).1;exact⟨this,cR this λ_=>rfl⟩
 |.not a,X,S,F,L,e,h=>by
  obtain⟨⟨o,x⟩,hv,h_1⟩:=bp h;obtain⟨pos,rfl⟩:=BA hv;obtain⟨h_2,h1⟩:=aL h_1;obtain rfl:o=.Not:=aad h_2;exact⟨Ku (bC a X S F L _ h1).1,Kj (bC a X S F L _ h1).2⟩
 |.and cs,X,S,F,L,e,h=>by
  obtain⟨⟨o,vs⟩,hv,h_1⟩:=bp h;obtain⟨pos,rfl⟩:=uv hv;obtain⟨h_2,h1⟩:=aL h_1;obtain rfl:o=.And:=aad h_2;exact⟨(lN cs X S F L vs h1 pos).1,(lN cs X S F L vs h1 pos).2.pt⟩
 |.or cs,X,S,F,L,e,h=>by
  obtain⟨⟨o,vs⟩,hv,h_1⟩:=bp h;obtain⟨pos,rfl⟩:=uv hv;obtain⟨h_2,h1⟩:=aL h_1;obtain rfl:o=.Or:=aad h_2;exact⟨(oK cs X S F L vs h1 pos).1,(oK cs X S F L vs h1 pos).2.pt⟩
 |.cmp op a b,X,S,F,L,e,h=>by
  obtain⟨⟨l,os,rs⟩,hv,h_1⟩:=bp h;obtain⟨pos,rfl⟩:=sk hv;obtain⟨h_2,h2⟩:=aL h_1;obtain⟨qE,h1⟩:=aL h_2;obtain⟨r,hr,Xa⟩:=bp h2;obtain⟨RD,h3⟩:=aL Xa;obtain rfl:os=[VR op]:=aad qE;obtain rfl:rs=[r]:=bS hr;exact⟨PE.imp (sS (CT L op) (bC a X S F L _ h1).1 (bC b X S F L _ RD).1 (sV h3)) λ_ _ _ qE=>vX qE,PT.imp (sM (CT L op) (bC a X S F L _ h1).1 (bC b X S F L _ RD).1 (sV h3)) λ_ _ _ qE=>Af qE⟩
 |.vo a t,X,S,F,L,e,h=>by
  obtain⟨⟨f,as⟩,hv,h_1⟩:=bp h;obtain⟨p,pos,rfl⟩:=cC hv;obtain⟨h_2,h5⟩:=aL h_1;obtain⟨qE,h2⟩:=aL h_2;obtain⟨DR,h1⟩:=aL qE;obtain rfl:f=_:=aad DR;obtain⟨⟨e,g⟩,hw,Hv⟩:=bp h5;obtain rfl:as=[e,g]:=i9 hw;obtain⟨Rz,h6⟩:=aL Hv;obtain⟨x,hn,MB⟩:=bp h6;obtain⟨p',rfl⟩:∃p,g=.Name x p:=i8 hn;obtain⟨MA,h4⟩:=aL MB;obtain⟨Mz,h3⟩:=aL MA;obtain rfl:=aad Mz;have:=Kx (F:=F) (p:=p) (p':=p') (pos:=pos) L h1 (aad h2) h3 (aad h4) (bC a X S F L _ Rz).1 (λes=>cj Rz es _);exact⟨this,cR this λ_=>rfl⟩
 |.call f cs,X,S,F,L,e,h=>by
  obtain⟨⟨x,as⟩,hv,h_1⟩:=bp h;obtain⟨p,pos,rfl⟩:=cC hv;obtain⟨h_2,h4⟩:=aL h_1;obtain⟨qE,h3⟩:=aL h_2;obtain⟨h1,h2⟩:=aL qE;obtain⟨⟨y,ys⟩,hu,tF⟩:=bp h4;obtain rfl:as=y::ys:=wD hu;cases cs with
  |nil=>exact(aac tF).elim
  |cons c JJ =>
   have RB:=aL tF;have:=Ge (F:=F) (p:=p) (pos:=pos) L (aad h1) h2 h3 (fQ (c::JJ) X S F L (y::ys) tF) (λes=>cj RB.1 es _) (λpos=>xV RB.2 pos _);exact⟨this,cR this λ_=>rfl⟩
 |.bf f cs,X,S,F,L,e,h=>by
  obtain⟨⟨x,as⟩,hv,h_1⟩:=bp h;obtain⟨p,pos,rfl⟩:=cC hv;obtain⟨h_2,h4⟩:=aL h_1;obtain⟨qE,h3⟩:=aL h_2;obtain⟨DR,h2⟩:=aL qE;obtain rfl:x=_:=aad DR;obtain⟨⟨y,ys⟩,hu,tF⟩:=bp h4;obtain rfl:as=y::ys:=wD hu;cases cs with
  |nil=>exact(aac tF).elim
  |cons c JJ =>
   have RB:=aL tF;have:=Pr (F:=F) (p:=p) (pos:=pos) L h2 (aad h3) (fQ (c::JJ) X S F L (y::ys) tF) (λes=>cj RB.1 es _) (λpos=>xV RB.2 pos _);exact⟨this,cR this λ_=>rfl⟩
 |.km a,X,S,F,L,e,h=>by
  obtain⟨⟨x,as⟩,hv,h_1⟩:=bp h;obtain⟨p,pos,rfl⟩:=cC hv;obtain⟨h_2,h4⟩:=aL h_1;obtain⟨qE,h2⟩:=aL h_2;obtain⟨DR,h1⟩:=aL qE;obtain rfl:x=_:=aad DR;obtain⟨y,hu,tF⟩:=bp h4;obtain rfl:as=[y]:=bS hu;obtain⟨⟨z,bs⟩,hw,h4_3⟩:=bp tF;obtain⟨p',pos',rfl⟩:=cC hw;obtain⟨W7,h5⟩:=aL h4_3;obtain⟨W6,h6⟩:=aL W7;obtain⟨W5,h3⟩:=aL W6;obtain rfl:z=_:=aad W5;obtain⟨u,Wq,Hv⟩:=bp h5;obtain rfl:bs=[u]:=bS Wq;have:=Ga (F:=F) (p:=p) (p':=p') (pos:=pos) (pos':=pos') L h1 (aad h2) h3 (aad h6) (bC a X S F L _ Hv).1 (λes=>cj Hv es _);exact⟨this,cR this λ_=>rfl⟩
 |.ix a b,X,S,F,L,e,h=>by
  obtain⟨⟨l,r⟩,hv,h_1⟩:=bp h;obtain⟨pos,rfl⟩:=nH hv;obtain⟨h1,h2⟩:=aL h_1;have:=Pq (F:=F) (pos:=pos) L (bC a X S F L _ h1).1 (bC b X S F L _ h2).1 (rT h2);exact⟨this,cR this λ_=>rfl⟩
 |.tup cs,X,S,F,L,e,h=>by
  obtain⟨es,hv,h_1⟩:=bp h;obtain⟨n,pos,rfl⟩:=kP hv;obtain⟨h1,h2⟩:=aL h_1;have:=Kt (F:=F) (n:=n) (pos:=pos) (fQ cs X S F L es h1) (aad h2);exact⟨this,cR this λ_=>rfl⟩
 |.lst cs,X,S,F,L,e,h=>by
  obtain⟨es,hv,h_1⟩:=bp h;obtain⟨pos,rfl⟩:=FI hv;obtain⟨h1,h2⟩:=aL h_1;have:=Kw (F:=F) (pos:=pos) (fQ cs X S F L es h1) (aad h2);exact⟨this,cR this λ_=>rfl⟩
 |.comp n t caps ik es bO elt,X,S,F,L,e,h=>by
  obtain⟨⟨j7,gens,sc⟩,hv,h_1⟩:=bp h;obtain⟨pos,rfl⟩:=BC hv;obtain⟨⟨target,iter,ifs,a⟩,hg,h_2⟩:=bp h_1;obtain rfl:gens=_:=bS hg;obtain⟨qE,h6⟩:=aL h_2;obtain⟨DR,h5⟩:=aL qE;obtain⟨h_5,h4⟩:=aL DR;obtain⟨h_6,h3⟩:=aL h_5;obtain⟨h_7,h2⟩:=aL h_6;obtain⟨h_8,h1⟩:=aL h_7;obtain rfl:a=0:=aad h_8;have mT:=λ(X':Cx) (F':ak) (L':Lk X' (S.inner target caps sc) k Φ)=>ja bO X' _ F' L' ifs h4;have this:PE X (.ListComp j7 [⟨target,iter,ifs,0⟩] sc pos) (tD X F Φ (.comp n t caps ik es bO elt)) :=
   Gd L (rS h1) h2 (λX' F' L'=>(bC elt X' _ F' L' j7 h5).1) (vU (aad h3) h4 mT) (Dl L (λl=>fQ es X S F L l) (λl=>ja es X S F L l) (λl=>jJ es X S F L l) h6)
  exact⟨this,cR this λ_=>rfl⟩
theorem ja:∀(cs:aD) (X:Cx) (S:Sx) (F:ak) (L:Lk X S k Φ) (es:aC),bU S cs es=true->∀(j:Nat) (c:CE) (e:Expr),cs[j]?=some c->es[j]?=some e->PE X e (tD X F Φ c)/\PT X e (gW X F Φ c)
 |[],X,S,F,L,_,_=>λj c e h _=>by simp at h
 |_::_,X,S,F,L,[],h=>by exact(aac h).elim
 |c::cs,X,S,F,L,e::es,h=>λj c' e' hc he=>by
  replace h:=aL h;cases j with
  |zero=>simp at hc he;subst hc he;exact bC c X S F L e h.1
  |succ j=>exact ja cs X S F L es h.2 j c' e' (by simpa using hc) (by simpa using he)
theorem jJ:∀(cs:aD) (X:Cx) (S:Sx) (F:ak) (L:Lk X S k Φ) (es:aC),bU S cs es=true->mz X F Φ cs es
 |[],X,S,F,L,[],_=>trivial
 |[],X,S,F,L,_::_,h=>by exact(aac h).elim
 |_::_,X,S,F,L,[],h=>by exact(aac h).elim
 |c::cs,X,S,F,L,e::es,h=>by
  replace h:=aL h;exact⟨(bC c X S F L e h.1).1,λl=>cj h.1 l _,rT h.1,jJ cs X S F L es h.2⟩
theorem fQ:∀(cs:aD) (X:Cx) (S:Sx) (F:ak) (L:Lk X S k Φ) (es:aC),bU S cs es=true->PA X es (uo X F Φ cs)
 |[],X,S,F,L,[],_=>PA.imp eJ λ_ _ _ h=>jI h
 |[],X,S,F,L,_::_,h=>by exact(aac h).elim
 |_::_,X,S,F,L,[],h=>by exact(aac h).elim
 |c::cs,X,S,F,L,e::es,h=>by
  replace h:=aL h;exact PA.imp (cJ (bC c X S F L e h.1).1 (fQ cs X S F L es h.2) (cj h.1 es _)) λ_ _ _ h=>fP h
theorem lN:∀(cs:aD) (X:Cx) (S:Sx) (F:ak) (L:Lk X S k Φ) (es:aC),bU S cs es=true->∀pos,PE X (.BoolOp .And es pos) (tD X F Φ (.and cs))/\PW X (.BoolOp .And es pos) (gW X F Φ (.and cs))
 |[],X,S,F,L,_,_,pos=>⟨λ_ _ _ _ _ _ ⟨_,_,_,_,_,ev,_⟩=>(by cases ev),λ_ _ _ _ _ _ _ bR=>by obtain⟨_,_,_,_,_,ev,_⟩:=bR;cases ev⟩
 |[c],X,S,F,L,[e],h,pos=>by
  replace h:=aL h;exact⟨PE.imp (CB (bC c X S F L e h.1).1) λ_ _ _ h=>Ip h,PW.imp (GA (bC c X S F L e h.1).2) λ_ _ _ h=>EO h⟩
 |[_],X,S,F,L,[],h,_=>by exact(aac h).elim
 |[_],X,S,F,L,_::_::_,h,_=>by exact(aac (aL h).2).elim
 |_::_::_,X,S,F,L,[],h,_=>by exact(aac h).elim
 |_::_::_,X,S,F,L,[_],h,_=>by exact(aac (aL h).2).elim
 |c::c'::cs,X,S,F,L,e::e'::es,h,pos=>by
  replace h:=aL h;have r:=lN (c'::cs) X S F L (e'::es) h.2 pos;exact⟨PE.imp (K_ (bC c X S F L e h.1).1 r.1) λ_ _ _ h=>ER h,PW.imp (KW (bC c X S F L e h.1).2 r.2) λ_ _ _ h=>Ba h⟩
theorem oK:∀(cs:aD) (X:Cx) (S:Sx) (F:ak) (L:Lk X S k Φ) (es:aC),bU S cs es=true->∀pos,PE X (.BoolOp .Or es pos) (tD X F Φ (.or cs))/\PW X (.BoolOp .Or es pos) (gW X F Φ (.or cs))
 |[],X,S,F,L,_,_,pos=>⟨λ_ _ _ _ _ _ ⟨_,_,_,_,_,ev,_⟩=>(by cases ev),λ_ _ _ _ _ _ _ bR=>by obtain⟨_,_,_,_,_,ev,_⟩:=bR;cases ev⟩
 |[c],X,S,F,L,[e],h,pos=>by
  replace h:=aL h;exact⟨PE.imp (CB (bC c X S F L e h.1).1) λ_ _ _ h=>Lg h,PW.imp (KU (bC c X S F L e h.1).2) λ_ _ _ h=>GP h⟩
 |[_],X,S,F,L,[],h,_=>by exact(aac h).elim
 |[_],X,S,F,L,_::_::_,h,_=>by exact(aac (aL h).2).elim
 |_::_::_,X,S,F,L,[],h,_=>by exact(aac h).elim
 |_::_::_,X,S,F,L,[_],h,_=>by exact(aac (aL h).2).elim
 |c::c'::cs,X,S,F,L,e::e'::es,h,pos=>by
  replace h:=aL h;have r:=oK (c'::cs) X S F L (e'::es) h.2 pos;exact⟨PE.imp (PU (bC c X S F L e h.1).1 r.1) λ_ _ _ h=>GQ h,PW.imp (PL (bC c X S F L e h.1).2 r.2) λ_ _ _ h=>CO h⟩
end
theorem gG(L:Lk X S k Φ)(c:CE)(e:Expr)(h:cW S c e=true):PE X e (tD X F Φ c)/\PT X e (gW X F Φ c):=bC c X S F L e h
theorem oJ(L:Lk X S k Φ)(cs:aD)(es:aC)(h:bU S cs es=true):mz X F Φ cs es:=jJ cs X S F L es h
theorem sy(L:Lk X S k Φ)(cs:aD)(es:aC)(h:bU S cs es=true):PA X es (uo X F Φ cs):=fQ cs X S F L es h
end
section
variable {X:Cx}{S:Sx}{k:Nat}{F:ak}{Φ:aT}
theorem wR(L:Lk X S k Φ)(c:CE)(e:Expr)(h:cW S c e=true):PE X e (tK X F Φ c):=by
 by_cases hv:∃i,c=.v i
 ·obtain⟨i,rfl⟩:=hv;obtain⟨x,hx,ha⟩:=bp h;obtain⟨p,rfl⟩:=i8 hx;obtain⟨hb,h3⟩:=aL ha;obtain⟨h1,h2⟩:=aL hb;unfold o4 at h3;simp only[Bool.and_eq_true,Bool.not_eq_true']at h3;refine PE.imp (oV (i:=i) (by rw[L.N];exact aad h1) (L.SV h2) h3.1.1 h3.1.2) λσ H Q hq=>?_;obtain⟨R,τ,ρ,r,Si,ev,hq⟩:=hq;simp only[kr]at ev;split at ev
  ·rename_i d hd;split at ev
   ·cases ev;obtain⟨v,τ',hv,fC,rk⟩:=Si.move hd;exact⟨v,hv,hq v H R τ' (aM.refl H) (λ_ h=>h) fC rk⟩
   ·rename_i ho;cases ev;obtain⟨v,hv,rp⟩:=Si.rep i d hd;exact⟨v,hv,hq v H R τ (aM.refl H) (λ_ h=>h) Si (AO rp (by simpa using ho))⟩
  ·cases ev
 ·refine PE.imp (gG (F:=F) L c e h).1 λσ H Q hq=>?_;obtain⟨R,τ,ρ,r,Si,ev,hq⟩:=hq;have Xz:bd (bz Φ c ρ) (λd=>ok (keep c d ρ))=ok r:=by
   cases c<;>first|exact ev|exact absurd ⟨_,rfl⟩ hv
  obtain⟨d,ed,er⟩:=aH Xz;cases er;refine tD.intro Si ed λv H' e' r'=>?_;obtain⟨R',τ',h1,h2,h3⟩:=Jq Si e' r';exact hq v H' R' τ' e' h1 h2 h3
end
structure Kp(R:ak)(H:Hp)(R':ak)(H':Hp):Prop where
 r:∀p,R p->R' p
 l:∀p (o:HO),R p->H p=some o->H' p=some o
 t:∀p xs,H p=some (.tup xs)->H' p=some (.tup xs)
 z:∀p o u,H p=some (.i4 o u)->H' p=some (.i4 o u)
theorem Kp.refl(R:ak)(H:Hp):Kp R H R H:=⟨λ_ h=>h,λ_ _ _ h=>h,λ_ _ h=>h,λ_ _ _ h=>h⟩
theorem Kp.of(e:aM H H')(h:∀p,R p->R' p):Kp R H R' H':=⟨h,λp xs _ h=>e _ _ h,λp xs h=>e _ _ h,λp o u h=>e _ _ h⟩
theorem Kp.trans{R2:Addr->Prop}(a:Kp R H R1 H1)(b:Kp R1 H1 R2 H2):Kp R H R2 H2 :=
 ⟨λp h=>b.r p (a.r p h),λp xs h e=>b.l p xs (a.r p h) (a.l p xs h e),λp xs h=>b.t p xs (a.t p xs h),λp o u h=>b.z p o u (a.z p o u h)⟩
theorem Kp.Pl(a:Kp R H R' H'){p:Addr}(h:aY K H p xs):aY K H' p xs:=by
 rcases h with (h|⟨o,h⟩)|h
 ·exact .inl (.inl (a.t p xs h))
 ·exact .inl (.inr ⟨o,a.z p o _ h⟩)
 ·exact .inr h
theorem Kp.nd{K:au}{R R':ak}{H H':Hp}(a:Kp R H R' H'){q:br}{p:Addr}{xs:Nd}{f:Fl}(h:DI.nd K R (λ_=>False) (λ_=>none) H q p xs f):DI.nd K R' (λ_=>False) (λ_=>none) H' q p xs f:=by
 cases f with
 |ow=>exact nomatch h.2
 |fz=>exact⟨h.1.at λo e=>a.l p o h.2 e,a.r p h.2⟩
 |al=>exact h.2.elim
 |sc =>
  obtain⟨ys,rfl,h⟩:=h.IW;exact h.elim (λ⟨o,h⟩=>.inl ⟨o,a.z p o _ h⟩) .inr
theorem Kp.rep(a:Kp R H R' H'){k:br}{v:V}{d:D}(h:Rep (aY K H) (DI.nd K R (λ_=>False) (λ_=>none) H) k v d):Rep (aY K H') (DI.nd K R' (λ_=>False) (λ_=>none) H') k v d :=
 h.imp (λ_ _ h=>a.Pl h) λ_ _ _ _ h=>a.nd h
theorem Kp.Vu(a:Kp R H R' H'){k:br}{n:Nat}{v:af}{d:aa}(h:aI (aY K H) (DI.nd K R (λ_=>False) (λ_=>none) H) k n v d):aI (aY K H') (DI.nd K R' (λ_=>False) (λ_=>none) H') k n v d :=
 h.imp (λ_ _ h=>a.Pl h) λ_ _ _ _ h=>a.nd h
def EV(X:Cx)(F:ak)(H':Hp)(v:V)(d:D):Prop:=∃τt:Addr->Option br,(∀p q,τt p=some q->X.H₀ p=none)/\Rep (aY X.K H') (nd X.K (gP X F) (λ_=>False) τt H') [] v d
theorem i6.ret{v:V}{d:D}(Si:SI X F R τ ρ σ H)(h:i6 X R τ H v d):EV X F H v d:=by
 obtain⟨τt,ht,rp⟩:=h;exact⟨τt,λp q e=>(ht p q e).2.2.1,rp.imp (λ_ _ h=>h) λ_ _ _ _ h=>h.mono (λh=>Si.rf _ h) id id⟩
def mX(X:Cx)(F:ak)(D:Ends)(R:ak)(H:Hp):Fo×aZ->Prop
 | (.nx,ρ')=>∀σ' H' R' τ',SI X F R' τ' ρ' σ' H'->Kp R H R' H'->D.nx σ' H'
 | (.bk,ρ')=>∀σ' H' R' τ',SI X F R' τ' ρ' σ' H'->Kp R H R' H'->D.bk σ' H'
 | (.ct,ρ')=>∀σ' H' R' τ',SI X F R' τ' ρ' σ' H'->Kp R H R' H'->D.ct σ' H'
 | (.rt d,_)=>∀v H',aM X.H₀ H'->EV X F H' v d->D.rt v H'
def qT(X:Cx)(F:ak)(Φ:aT)(c:CS):TS:=λD σ H=>∃R τ ρ r,SI X F R τ ρ σ H/\qG Φ c ρ=ok r/\mX X F D R H r
def oG(X:Cx)(F:ak)(Φ:aT)(cs:ag):TS:=λD σ H=>∃R τ ρ r,SI X F R τ ρ σ H/\bI Φ cs ρ=ok r/\mX X F D R H r
noncomputable def LD(sc:Scope)(x:Str):Bool:=decide (sc.names.lookup x=some .local)||decide (sc.names.lookup x=some .cell)
def qI(S:Sx)(i:Nat):Expr->Bool
 |.Name x _=>decide (S.N[i]?=some x)&&LD S.sc x
 |_=>false
def YV:Expr->Bool
 |.Name x _=>o4 x
 |_=>true
def Ez(S:Sx):aO->aC->Bool
 |[],es=>match es with
  |[]=>true
  |_::_=>false
 |i::is,es=>match es with
  |[]=>false
  |e::es=>qI S i e&&Ez S is es
def xW(S:Sx):Tg->Expr->Bool
 |.nm i,e=>qI S i e
 |.tp is,e=>bA (Aa e) λes=>Ez S is es
noncomputable def jl:Expr->Bool
 |.ListComp _ _ _ _=>true
 |_=>false
noncomputable def isTup:Expr->Bool
 |.Tuple _ _ _=>true
 |_=>false
noncomputable def Vh(S:Sx)(tg v:Expr):Bool:=match tg,v with
 |.Name x p,.ListComp _ _ sc pos=>(S.sc.names.lookup x==some .local)&&(p.line==pos.line)&&!(sc.names.any λ(n,k)=>n==x&&(k==.local||k==.cell))
 |_,_=>false
noncomputable def J6:Expr->Option (Str×Pos)
 |.Name x p=>some (x,p)
 |_=>none
theorem yq{e:Expr}{x:Str}{p:Pos}(h:J6 e=some (x,p)):e=.Name x p:=by
 cases e<;>first|exact nk h | (cases h;done) | (cases h;rfl)
def Ey(S:Sx)(i j:Nat)(tg v:Expr):Bool :=
 bA (Aa tg) λts=>bA (two ts) λt=>bA (J6 t.1) λx=>bA (J6 t.2) λy=>bA (Aa v) λvs=>bA (two vs) λw =>
  decide (S.N[i]?=some x.1)&&decide (S.N[j]?=some y.1)&&decide (i≠j)&&decide (S.sc.names.lookup x.1=some .local)&&decide (S.sc.names.lookup y.1=some .local)&&decide (x.1≠y.1) &&
   decide (x.2.line=y.2.line)&&!([w.1,w.2].all (foldedForSure 8))&&!([w.1,w.2].all (constantsAlone 8))&&decide (([w.1,w.2].any λe=>match e with|.Starred ..=>true|_=>false)=false)
def NG(S:Sx)(it:CI)(e:Expr):Bool:=match it with
 |.jK a=>bA (eE e) λw=>decide (w.1=("range" : Str))&&fV S.sc w.1&&decide (w.1∈S.bl)&&bA (one w.2) λy=>cW S a y
 |.seq a=>cW S a e&&jf e
 |.CA p es=>Tp e&&bA (S.px.pi p S.sc S.bl e) λxs=>bU S es xs
noncomputable def CV:CI->Bool
 |.CA p _=>decide (1100<=p)
 |_=>true
noncomputable def BE:Stmt->Option (aC×Expr)
 |.Assign ts v _=>some (ts,v)
 |_=>none
theorem nI{s:Stmt}{ts:aC}{v:Expr}(h:BE s=some (ts,v)):∃p,s=.Assign ts v p:=by
 cases s<;>first|exact nk h | (cases h;done) | (cases h;exact⟨_,rfl⟩)
noncomputable def OU:Stmt->Option (Option Expr)
 |.Return v _=>some v
 |_=>none
theorem yp{s:Stmt}{v:Option Expr}(h:OU s=some v):∃p,s=.Return v p:=by
 cases s<;>first|exact nk h | (cases h;done) | (cases h;exact⟨_,rfl⟩)
noncomputable def OW:Stmt->Option Expr
 |.Expr v _=>some v
 |_=>none
theorem oD{s:Stmt}{v:Expr}(h:OW s=some v):∃p,s=.Expr v p:=by
 cases s<;>first|exact nk h | (cases h;done) | (cases h;exact⟨_,rfl⟩)
noncomputable def J7:Stmt->Option (Expr×ba×ba)
 |.If t x y _=>some (t,x,y)
 |_=>none
theorem sj{s:Stmt}{t:Expr}{x y:ba}(h:J7 s=some (t,x,y)):∃q,s=.If t x y q:=by
 cases s<;>first|exact nk h | (cases h;done) | (cases h;exact⟨_,rfl⟩)
noncomputable def OT:Stmt->Option (Expr×ba×ba)
 |.While t x y _=>some (t,x,y)
 |_=>none
theorem FH{s:Stmt}{t:Expr}{x y:ba}(h:OT s=some (t,x,y)):∃q,s=.While t x y q:=by
 cases s<;>first|exact nk h | (cases h;done) | (cases h;exact⟨_,rfl⟩)
noncomputable def J8:Stmt->Option (Expr×Expr×ba×ba)
 |.For tg it x y _=>some (tg,it,x,y)
 |_=>none
theorem yr{s:Stmt}{it:Expr}{x y:ba}(h:J8 s=some (tg,it,x,y)):∃q,s=.For tg it x y q:=by
 cases s<;>first|exact nk h | (cases h;done) | (cases h;exact⟨_,rfl⟩)
noncomputable def yt:Expr->Option (Expr×Str×Pos)
 |.Attribute o a p=>some (o,a,p)
 |_=>none
theorem uw{e o:Expr}{a:Str}{p:Pos}(h:yt e=some (o,a,p)):e=.Attribute o a p:=by
 cases e<;>first|exact nk h | (cases h;done) | (cases h;rfl)
noncomputable def so:Expr->Option (Expr×aC×List Keyword×Pos)
 |.Call f as ks p=>some (f,as,ks,p)
 |_=>none
theorem qO{e f:Expr}{ks:List Keyword}{p:Pos}(h:so e=some (f,as,ks,p)):e=.Call f as ks p:=by
 cases e<;>first|exact nk h | (cases h;done) | (cases h;rfl)
noncomputable def isNil{α:Type}:List α->Bool
 |[]=>true
 |_::_=>false
theorem k9{α:Type}{l:List α}(h:isNil l=true):l=[]:=by cases l<;>first|rfl|cases h
noncomputable def Hg:Stmt->Bool
 |.Raise _ _ _=>true
 |_=>false
theorem zE{i:Nat}{e:Expr}(h:qI S i e=true):∃x p,e=.Name x p:=by
 cases e<;>first|exact⟨_,_,rfl⟩|exact(aac h).elim
theorem Hh{e:Expr}(h:isNm e=true):∃x p,e=.Name x p:=by cases e<;>first|exact nk h | (cases h;done)|exact⟨_,_,rfl⟩
theorem AH{e:Expr}(h:jl e=true):∃x g sc p,e=.ListComp x g sc p:=by cases e<;>first|exact nk h | (cases h;done)|exact⟨_,_,_,_,rfl⟩
mutual
noncomputable def pW(S:Sx):CS->Stmt->Bool
 |.asg t e,s0=>bA (BE s0) λz=>bA (one z.1) λtg=>cW S e z.2&&xW S t tg&&!(isTup z.2&&isTup tg)&&(!jl z.2||isNm tg)
 |.par i j a b,s0=>bA (BE s0) λz=>bA (one z.1) λtg=>cW S (.tup [a,b]) z.2&&Ey S i j tg z.2
 |.ret e,s0=>bA (OU s0) λz=>bA z λv=>cW S e v
 |.rs _,s0=>Hg s0
 |.mut p i es,s0=>bA (S.px.pm p S.sc S.bl s0) λz=>qI S i z.1&&YV z.1&&bU S es z.2
 |.app i e,s0=>bA (OW s0) λc=>bA (so c) λz=>isNil z.2.2.1&&bA (yt z.1) λa=>decide (a.2.1=("append" : Str))&&qI S i a.1&&YV a.1&&(a.2.2.endLine==z.2.2.2.line)&&bA (one z.2.1) λv=>cW S e v
 |.ex e,s0=>bA (OW s0) λv=>cW S e v&&!jl v
 |.ifs c a b,s0=>bA (J7 s0) λz=>cW S c z.1&&iX S a z.2.1&&iX S b z.2.2
 |.IE c b,s0=>bA (OT s0) λz=>isNil z.2.2&&cW S c z.1&&iX S b z.2.1
 |.fr t it b,s0=>bA (J8 s0) λz=>isNil z.2.2.2&&xW S t z.1&&NG S it z.2.1&&(gH z.1||CV it)&&iX S b z.2.2.1
noncomputable def iX(S:Sx):ag->ba->Bool
 |[],ss=>match ss with
  |[]=>true
  |_::_=>false
 |c::cs,ss=>match ss with
  |[]=>false
  |s::ss=>pW S c s&&iX S cs ss
end
structure Ft(px:Px)(Φ:aT):Prop where
 m:∀(X:Cx) (sc:Scope) (bl:ao) (k:Nat),PX X sc bl k->X.N.Nodup->(∀x,X.fn x=true)->∀(p:Nat) (st:Stmt) (x:Str) (pos:Pos) (args:aC),px.pm p sc bl st=some (.Name x pos,args)->∀(i:Nat),X.N[i]?=some x->L2.Loc X.env.scope x->PE X (.Name x pos) (wL i) ->
  ∀(F:ak) (cs:aD),mz X F Φ cs args->PS X st (qT X F Φ (.mut p i cs))
structure qe(X:Cx)(S:Sx)(k:Nat)(Φ:aT):Prop extends Lk X S k Φ where
 ql:∀x,X.fn x=true
 px:PassesOwn (model X.prog X.w) X.A X.env X.xe
 fk:S.sc.kind=.function
 pm:Ft S.px Φ
section
variable {X:Cx}{S:Sx}{k:Nat}{F:ak}{Φ:aT}
theorem qe.loc(L:qe X S k Φ){x:Str}(h:LD S.sc x=true):L2.Loc X.env.scope x:=by
 unfold L2.Loc;rw[L.sc];unfold LD at h;rw[Bool.or_eq_true]at h;exact h.imp aad aad
theorem IQ(L:qe X S k Φ){x:Str}{p:Pos}{l:Nat}{elt:Expr}{gens:List Comprehension}{sc:Scope}:swapsWith (.ListComp elt gens sc pos) (some (.Name x p)) l X.env=pure (Vh S (.Name x p) (.ListComp elt gens sc pos)):=by
 have hb:X.env.blockKind=.function:=by unfold Env.blockKind;rw[L.sc,L.fk];rfl
 have hk:(X.env.kindOf x==some .local)=(S.sc.names.lookup x==some .local):=by
  unfold Env.kindOf;rw[L.sc]
 unfold swapsWith Vh;simp only[hb,hk];rfl
theorem jr{c:CE}{e:Expr}(h:cW S c e=true)(hc:jl e=false)(t:Option Expr)(l:Nat)(env:Env):swapsWith e t l env=pure false:=by
 cases e<;>first|rfl | (cases hc;done) | (cases c<;>exact(aac h).elim)
def Xm:aO->Iw
 |[]=>MF
 |i::is=>DZ (pA i) (Xm is)
theorem Cz(L:qe X S k Φ){i:Nat}{e:Expr}(h:qI S i e=true):PG X e (pA i):=by
 cases e<;>try (exact(aac h).elim;done)
 replace h:=aL h;exact sQ L.nd (by rw[L.N];exact aad h.1) (L.loc h.2) (.inl (L.ql _))
theorem GY{i:Nat}{e:Expr}(h:qI S i e=true)(es:aC)(env:Env):assignEach (e::es) env=(false,assign e env)::assignEach es env:=by
 cases e<;>first|rfl | (exact(aac h).elim;done)
theorem Cy(L:qe X S k Φ):∀{is:aO} {es:aC},Ez S is es=true->OI X es (Xm is)/\(assignEach es X.env).length=is.length/\(assignEach es X.env).findIdx? (·.1)=none
 |[],[],_=>⟨yM,rfl,rfl⟩
 |[],_::_,h=>by exact(aac h).elim
 |_::_,[],h=>by exact(aac h).elim
 |i::is,e::es,h=>by
  replace h:=aL h;obtain⟨h1,h2,h3⟩:=Cy L h.2;have he:=GY h.1 es X.env;refine⟨uX (Cz L h.1) h1 (by rw[he];rfl),by rw[he];simp[h2],?_⟩;rw[he,List.findIdx?_cons];simp[h3]
theorem uL{H:Hp}{R:ak}{Q:St->Hp->Prop}:∀{is:aO} {vs:af} {ds:aa} {kp:br} {n:Nat} {σ:St} {τ:Addr->Option br} {ρ ρ':aZ},aI (aY X.K H) (nd X.K R (λ_=>False) (λ_=>none) H) kp n vs ds->SI X F R τ ρ σ H->iP is ds ρ=ok ρ' ->
  (∀σ' τ',SI X F R τ' ρ' σ' H->Q σ' H)->Xm is vs σ H Q
 |[],_,_,_,_,σ,τ,_,_,.nil,Si,e,hq=>by
  cases e;exact⟨rfl,hq σ τ Si⟩
 |[],_,_,_,_,_,_,_,_,.cons _ _,_,e,_=>by cases e
 |_::_,_,_,_,_,_,_,_,_,.nil,_,e,_=>by cases e
 |i::is,_,_,_,_,σ,τ,ρ,_,.cons (v:=v) (d:=d) h t,Si,e,hq=>by
  change (if _ then _ else _)=_ at e;split at e
  ·rename_i hi;obtain⟨τ',fC⟩:=Si.set (i:=i) (jM (τ':=τ) (Rep.lZ h)) hi;exact⟨_,_,rfl,uL t fC e hq⟩
  ·cases e
theorem yx(L:qe X S k Φ){t:Tg}(h:xW S t tg=true):∃g,PG X tg g/\∀(v:V) (σ:St) (H:Hp) (Q:St->Hp->Prop) (R:ak) (τ:Addr->Option br) (ρ ρ':aZ) (d:D),SI X F R τ ρ σ H->i6 X R τ H v d->bT t d ρ=ok ρ' ->
  (∀σ' τ',SI X F R τ' ρ' σ' H->Q σ' H)->g v σ H Q:=by
 cases t with
 |nm i =>
  refine⟨pA i,Cz L h,λv σ H Q R τ ρ ρ' d Si rk e hq=>?_⟩;simp only[bT]at e;split at e
  ·rename_i hi;cases e;obtain⟨τ',fC⟩:=Si.set rk hi;exact hq _ τ' fC
  ·cases e
 |tp is =>
  obtain⟨es,hx,ha⟩:=bp h;obtain⟨nn,pp,rfl⟩:=kP hx;obtain⟨h1,h2,h3⟩:=Cy L ha;refine⟨_,Cw L.calm h1 h2 h3,λv σ H Q R τ ρ ρ' d Si rk e hq=>?_⟩;cases d<;>try (simp[bT]at e;done)
  rename_i ds;simp only[bT]at e;split at e
  ·cases e
  ·rename_i ho;obtain⟨τt,ht,rp⟩:=rk;cases rp with
   | @tup _ p xs _ hp rs =>
    have mK:aI (aY X.K H) (nd X.K R (λ_=>False) (λ_=>none) H) [] 0 xs ds:=aI.without (P:=d_) (λ_ _ h=>h) (λk k' p xs f hf h=>by
     cases f with
     |ow=>cases hf
     |fz=>exact h
     |al=>exact h.2.elim
     |sc=>exact h) rs (by simpa using ho) _ _
    refine⟨p,xs,rfl,hp,?_,uL mK Si e hq⟩;rw[rs.length];have:∀(is:aO) (ds:aa) (ρ ρ':aZ),iP is ds ρ=ok ρ'->ds.length=is.length:=by
     intro is;induction is with
     |nil=>intro ds ρ ρ' e;cases ds with|nil=>rfl|cons _ _=>cases e
     |cons i is ih=>intro ds ρ ρ' e;cases ds with
      |nil=>cases e
      |cons d ds =>
       change (if _ then _ else _)=_ at e;split at e
       ·simp[ih ds _ _ e]
       ·cases e
    exact this _ _ _ _ e
end
section
variable {X:Cx}{S:Sx}{k:Nat}{F:ak}{Φ:aT}
theorem BS(L:qe X S k Φ){t:Tg}{e:CE}{v:Expr}(he:cW S e v=true)(ht:xW S t tg=true)(hp:(isTup v&&isTup tg)=false)(QM:swapsWithSole [tg] v pos.line X.env=pure false):PS X (.Assign [tg] v pos) (qT X F Φ (.asg t e)):=by
 obtain⟨g,hg,vx⟩:=yx (F:=F) L ht;have IH:(∃x p,tg=.Name x p)\/∃es n p,tg=.Tuple es n p:=by
  cases t with
  |nm i=>cases tg<;>first|exact .inl ⟨_,_,rfl⟩|exact(aac ht).elim
  |tp is=>cases tg<;>first|exact .inr ⟨_,_,_,rfl⟩|exact(aac ht).elim
 have each:(assignEach [tg] X.env).map (·.2)=[assign tg X.env]:=by
  rcases IH with ⟨x,p,rfl⟩|⟨es,n,p,rfl⟩<;>rfl
 have hw:swappedStores [tg] v X.env=pure none:=by
  rcases IH with ⟨x,p,rfl⟩|⟨es,n,p,rfl⟩
  ·first|rfl | (cases v<;>rfl)
  ·cases v<;>first|rfl|exact absurd hp (by simp[isTup])
 refine PS.imp (K1 (wR (F:=F) L.toLk e v he) hg QM hw each) λD σ H hq=>?_;obtain⟨R,τ,ρ,r,Si,ev,hq⟩:=hq;obtain⟨r1,Br,ev⟩:=aH ev;obtain⟨ρ',eρ,ev⟩:=aH ev;cases ev;exact⟨R,τ,ρ,r1,Si,Br,λv H' R' τ' es hR fC rk=>vx v σ H' _ R' τ' r1.2 ρ' r1.1 fC rk eρ λσ' sf NO=>hq σ' H' R' sf NO (Kp.of es hR)⟩
theorem F5(L:qe X S k Φ){i n:Nat}{t:Tg}{ik:IK}{x:Str}{p Pm:Pos}{gens:List Comprehension}{sc:Scope}
  (he:cW S (.comp n t caps ik es bO elt) (.ListComp j7 gens sc pos)=true) (hn:qI S i (.Name x p)=true) (QM:swapsWith (.ListComp j7 gens sc pos) (some (.Name x p)) Pm.line X.env=pure true) :
  PS X (.Assign [.Name x p] (.ListComp j7 gens sc pos) Pm) (qT X F Φ (.asg (.nm i) (.comp n t caps ik es bO elt))):=by
 intro pins s σ H D I hq;obtain⟨R,τ,ρ,r,Si,ev,hq⟩:=hq;obtain⟨r1,Br,ev⟩:=aH ev;obtain⟨ρ',eρ,ev⟩:=aH ev;cases ev;have Br:bd (bz Φ (.comp n t caps ik es bO elt) ρ) (λd=>ok (keep (.comp n t caps ik es bO elt) d ρ))=ok r1:=Br;obtain⟨d,ed,Br⟩:=aH Br;cases Br;have hg:=Cz L hn;rw[exec_Assign_Name_used _ _ _ _ QM];refine aab (ace (aab ?_));obtain⟨⟨e0,g0,s0⟩,hv0,L7⟩:=bp he;cases hv0;obtain⟨⟨target,iter,ifs,a⟩,Rc,hz⟩:=bp L7;obtain rfl:gens=_:=bS Rc;obtain⟨hz,h6⟩:=aL hz;obtain⟨hz,h5⟩:=aL hz;obtain⟨hz,h4⟩:=aL hz;obtain⟨hz,h3⟩:=aL hz;obtain⟨hz,h2⟩:=aL hz;obtain⟨hz,h1⟩:=aL hz;obtain rfl:a=0:=aad hz;have hC:=vU (aad h3) h4 (λ(X':Cx) (F':ak) (L':Lk X' (S.inner target caps sc) k Φ)=>ja bO X' _ F' L' ifs h4);have run:wpAny (model X.prog X.w) X.A (comprehension (.ListComp j7 [⟨target,iter,ifs,0⟩] sc pos) sc X.env (firstIterPos [⟨target,iter,ifs,0⟩] pos) (newList []) false (eval iter X.env) (some (assign (.Name x p) X.env))) (λ_ s'=>SP X pins D .next s') X.xe s:=by
  refine vW (F:=F) (k:=k) L.toLk (rS h1) h2 (λX' F' L'=>(gG (F:=F') L' elt j7 h5).1) hC ?_ (use:=some (assign (.Name x p) X.env)) (Post:=λ_ s'=>SP X pins D .next s') I Si ed ?_
  ·exact Dl L.toLk (λl=>sy (F:=F) L.toLk es l) (λl=>ja es X S F L.toLk l) (λl=>oJ L.toLk es l) h6
  ·intro acc C H1 s1 m Bn hc IX sm rt;obtain⟨c1,c2,c3,c4,c5⟩:=hc;obtain⟨R',τ',hR,fC,rk⟩:=Jq (e:=.comp n t caps ik es bO elt) Si sm rt;have I1:Inv X pins σ H1 s1:=IX s1.heap (.refl ..);obtain⟨oC,esC,epC,hoC,ZA,hrC⟩:=Bn;have cfs:C∉X.fs:=λz=>by
    obtain⟨_,o,ho,_⟩:=I1.ok.kn.mem z;exact absurd (aal (aah ho) c2) (aax _)
   have I2:Inv X ((C,oC)::pins) σ H1 s1:=I1.jN λq hq=>by
    rcases List.mem_cons.mp hq with rfl|hq
    ·exact⟨hoC,c5,c1,cfs,λv z=>by rw[ZA]at z;cases z⟩
    ·exact I1.pin q (aap _ hq)
   simp only[bT]at eρ;split at eρ
   ·rename_i hi;cases eρ;obtain⟨τ2,Bc⟩:=fC.set rk hi;show wpAny _ _ (assign (.Name x p) X.env (.ref acc)) _ _ _;refine aav (hg ((C,oC)::pins) s1 σ H1 (.ref acc) (.ref acc) (λσ' H'=>σ'=σ.set i (some (.ref acc))/\H'=H1) I2 rfl ⟨rfl,rfl⟩) (λ_ s2 h2=>?_) λ_ _ z=>z;obtain⟨σ',H',I3,rfl,rfl⟩:=h2;have hC3:=(I3.pin (C,oC) (aap _ aai)).1;refine⟨m,⟨oC,esC,epC,hC3,ZA,hrC⟩,λh' Dz=>?_⟩;have I4:Inv X pins (σ.set i (some (.ref acc))) H' s2:=I3.jN λq hq=>I3.pin q (aap _ (aae _ hq));have I5:=I4.turned (t':=s2.toks) (h':=h') (it:=C) (λb o hb e=>(Dz.2 b hb).trans e) c5 c1 (.inr c2) c3 c4;exact⟨_,H',I5,hq _ H' R' τ2 Bc (Kp.of sm hR)⟩
   ·cases eρ
 exact aab (aav run (λ_ s' h=>aaf (aaf h)) λ_ _ z=>z)
theorem Kl(L:qe X S k Φ){e:CE}{v:Expr}(he:cW S e v=true):PS X (.Return (some v) pos) (qT X F Φ (.ret e)):=by
 refine PS.imp (w6 (wR (F:=F) L.toLk e v he)) λD σ H hq=>?_;obtain⟨R,τ,ρ,r,Si,ev,hq⟩:=hq;obtain⟨r1,Br,ev⟩:=aH ev;cases ev;exact⟨R,τ,ρ,r1,Si,Br,λv H' R' τ' es hR fC rk=>hq v H' fC.same (rk.ret fC)⟩
theorem Pk(L:qe X S k Φ){e:CE}{v:Expr}(he:cW S e v=true)(hnc:jl v=false):PS X (.Expr v pos) (qT X F Φ (.ex e)):=by
 refine PS.imp (nN (gG (F:=F) L.toLk e v he).1 (jr he hnc _ _ _)) λD σ H hq=>?_;obtain⟨R,τ,ρ,r,Si,ev,hq⟩:=hq;obtain⟨d,ed,ev⟩:=aH ev;cases ev;exact tD.intro Si ed λv H' es rv=>hq σ H' R τ (Si.go es) (Kp.of es λ_ h=>h)
theorem mX.from{D:Ends}{r:Fo×aZ}(h:mX X F D R H r)(kp:Kp R H R1 H1):mX X F D R1 H1 r:=by
 obtain⟨fo,ρ'⟩:=r;cases fo with
 |nx=>exact λσ' H' R' τ' Si k2=>h σ' H' R' τ' Si (kp.trans k2)
 |bk=>exact λσ' H' R' τ' Si k2=>h σ' H' R' τ' Si (kp.trans k2)
 |ct=>exact λσ' H' R' τ' Si k2=>h σ' H' R' τ' Si (kp.trans k2)
 |rt d=>exact h
theorem Pj(L:qe X S k Φ){c:CE}{a b:ag}{t:Expr}{x y:ba}(hc:cW S c t=true)(ha:iY X x (oG X F Φ a))(hb:iY X y (oG X F Φ b)):PS X (.If t x y pos) (qT X F Φ (.ifs c a b)):=by
 refine PS.imp (Cp (gG (F:=F) L.toLk c t hc).2 ha hb) λD σ H hq=>?_;obtain⟨R,τ,ρ,r,Si,ev,hq⟩:=hq;obtain⟨w,ew,ev⟩:=aH ev;refine⟨R,τ,ρ,w,Si,ew,λH1 e1=>?_⟩;cases w with
 |true=>rw[if_pos rfl]at ev ⊢;exact⟨R,τ,ρ,r,Si.go e1,ev,hq.from (Kp.of e1 λ_ h=>h)⟩
 |false=>rw[if_neg (by simp)]at ev ⊢;exact⟨R,τ,ρ,r,Si.go e1,ev,hq.from (Kp.of e1 λ_ h=>h)⟩
theorem BR(L:qe X S k Φ){c:CE}{b:ag}{t:Expr}{x:ba}(hc:cW S c t=true)(hb:iY X x (oG X F Φ b)):PS X (.While t x [] pos) (qT X F Φ (.IE c b)):=by
 refine PS.imp (Cn L.px (gG (F:=F) L.toLk c t hc).2 hb) λD σ H hq=>?_;obtain⟨R,τ,ρ,r,Si,ev,hq⟩:=hq;obtain⟨n,hn⟩:=lY ev;refine⟨λm σ' H'=>∃R' τ' ρ',SI X F R' τ' ρ' σ' H'/\Kp R H R' H'/\dq m _ ρ'=ok r,⟨n,R,τ,ρ,Si,Kp.refl R H,hn⟩,?_⟩;rintro m σ1 H1 ⟨R1,τ1,ρ1,yi,k1,e1⟩;cases m with
 |zero=>simp[dq]at e1
 |succ m =>
  rw[dq]at e1;obtain⟨st,es,e1⟩:=aH e1;obtain⟨w,ew,es⟩:=aH es;refine⟨R1,τ1,ρ1,w,yi,ew,λH2 e2=>?_⟩;cases w with
  |false =>
   rw[if_neg (by simp)]at es ⊢;cases es;cases e1;exact hq σ1 H2 R1 τ1 (yi.go e2) (k1.trans (Kp.of e2 λ_ h=>h))
  |true =>
   rw[if_pos rfl]at es ⊢;obtain⟨⟨fo,ρ2⟩,eb,es⟩:=aH es;refine⟨λσ' H'=>∃R' τ' ρ',SI X F R' τ' ρ' σ' H'/\Kp R H R' H'/\dq m _ ρ'=ok r,λσ' H' h=>⟨m,aa5 m,h⟩,R1,τ1,ρ1,(fo,ρ2),yi.go e2,eb,?_⟩;have k2:Kp R H R1 H2:=k1.trans (Kp.of e2 λ_ h=>h);cases fo with
   |nx=>cases es;exact λσ' H' R' τ' fC k3=>⟨R',τ',ρ2,fC,k2.trans k3,e1⟩
   |ct=>cases es;exact λσ' H' R' τ' fC k3=>⟨R',τ',ρ2,fC,k2.trans k3,e1⟩
   |bk=>cases es;cases e1;exact λσ' H' R' τ' fC k3=>hq σ' H' R' τ' fC (k2.trans k3)
   |rt d=>cases es;cases e1;exact hq
def lH(X:Cx)(F:ak)(Φ:aT)(t:Tg)(b:ag)(R1:ak)(H1:Hp)(r:Fo×aZ)(items:List DI.D)(i:Nat)(σ:St)(H:Hp):Prop :=
 ∃R' τ' ρ',SI X F R' τ' ρ' σ H/\Kp R1 H1 R' H/\dJ (λd ρ=>bT t d ρ) (λρ=>bI Φ b ρ) (items.drop i) ρ'=ok r
theorem pC{g:TG}{t:Tg}{b:ag}{D:Ends}{r:Fo×aZ}{items:List DI.D}{q:br}
  (vx:∀(v:V) (σ:St) (H:Hp) (Q:St->Hp->Prop) (R:ak) (τ:Addr->Option br) (ρ ρ':aZ) (d:DI.D),SI X F R τ ρ σ H->i6 X R τ H v d->bT t d ρ=ok ρ'->(∀σ' τ',SI X F R τ' ρ' σ' H->Q σ' H)->g v σ H Q)
  (rs:aI (aY X.K H1) (nd X.K R1 (λ_=>False) (λ_=>none) H1) q 0 xs items) (hq:mX X F D R1 H1 r) (i:Nat) (x:V) (σ:St) (H:Hp) (hx:xs[i]?=some x) (h:lH X F Φ t b R1 H1 r items i σ H) :
  g x σ H λσ2 H2=>oG X F Φ b { D with nx:=lH X F Φ t b R1 H1 r items (i+1),ct:=lH X F Φ t b R1 H1 r items (i+1),bk:=D.nx } σ2 H2:=by
 obtain⟨R',τ',ρ',Si,kp,ef⟩:=h;obtain⟨d,hd,rd⟩:=rs.tH hx;have hi:i<items.length:=by
  by_cases hi:i<items.length
  ·exact hi
  ·rw[List.getElem?_eq_none (by left)]at hd;cases hd
 have pk:items.drop i=d::items.drop (i+1):=by
  rw[List.drop_eq_getElem_cons hi];rw[List.getElem?_eq_getElem hi]at hd;cases hd;rfl
 rw[pk,dJ]at ef;obtain⟨ρ1,e1,ef⟩:=aH ef;obtain⟨⟨fo,ρ2⟩,e2,ef⟩:=aH ef;refine vx x σ H _ R' τ' ρ' ρ1 d Si (jM (Rep.lZ (kp.rep rd))) e1 λσ' sf fC=>⟨R',sf,ρ1,(fo,ρ2),fC,e2,?_⟩
 cases fo with
 |nx=>exact λσ3 H3 R3 τ3 yh k3=>⟨R3,τ3,ρ2,yh,kp.trans k3,ef⟩
 |ct=>exact λσ3 H3 R3 τ3 yh k3=>⟨R3,τ3,ρ2,yh,kp.trans k3,ef⟩
 |bk=>cases ef;exact λσ3 H3 R3 τ3 yh k3=>hq σ3 H3 R3 τ3 yh (kp.trans k3)
 |rt d=>cases ef;exact hq
theorem nU{t:Tg}{b:ag}{D:Ends}{r:Fo×aZ}{items:List DI.D}{n:Nat}(hn:n=items.length)(hq:mX X F D R1 H1 r)(σ:St)(H:Hp)(h:lH X F Φ t b R1 H1 r items n σ H):D.nx σ H:=by
 obtain⟨R',τ',ρ',Si,kp,ef⟩:=h;subst hn;rw[List.drop_length,dJ]at ef;cases ef;exact hq σ H R' τ' Si kp
theorem zh(ρ:aZ):i4 [] ρ=ρ:=by
 unfold i4;apply List.ext_getElem?;intro i;rw[List.getElem?_mapIdx];cases ρ[i]? with
 |none=>rfl
 |some o=>simp
theorem nS{v:V}{d:DI.D}(Si:SI X F R τ ρ σ H)(es:aM H H')(r:cx X.K (gP X F) R τ fv H H' v d):
  ∃R' τ',(∀p,R p->R' p)/\SI X F R' τ' (if bc bZ d then i4 fv ρ else ρ) σ H'/\Rep (aY X.K H') (nd X.K R' (λ_=>False) (λ_=>none) H') [] v (aS aW d):=by
 by_cases ha:bc bZ d=true
 ·rw[if_pos ha];exact tI Si es r
 ·rw[if_neg ha];have r':cx X.K (gP X F) R τ [] H H' v d:=by
   obtain⟨τt,fr,rp⟩:=r;exact⟨τt,fr,Rep.kN (P:=bZ) (λ_ _ h=>h) (λk p xs f hf h=>by
    cases f with
    |ow=>exact h
    |fz=>exact h
    |al=>cases hf
    |sc=>exact h) rp (by simpa using ha)⟩
  have:=tI Si es r';rw[zh]at this;exact this
theorem D0{ds:List DI.D}(Si:SI X F R τ ρ σ H)(es:aM H H')(r:cF X.K (gP X F) R τ fv H H' vs ds):
  ∃R' τ',(∀p,R p->R' p)/\SI X F R' τ' (if aQ bZ ds then i4 fv ρ else ρ) σ H'/\aI (aY X.K H') (nd X.K R' (λ_=>False) (λ_=>none) H') [] 0 vs (aF aW ds):=by
 by_cases ha:aQ bZ ds=true
 ·rw[if_pos ha];exact vG Si es r
 ·rw[if_neg ha];have r':cF X.K (gP X F) R τ [] H H' vs ds:=by
   obtain⟨τt,fr,rp⟩:=r;exact⟨τt,fr,aI.kN (P:=bZ) (λ_ _ h=>h) (λk p xs f hf h=>by
    cases f with
    |ow=>exact h
    |fz=>exact h
    |al=>cases hf
    |sc=>exact h) rp (by simpa using ha)⟩
  have:=vG Si es r';rw[zh]at this;exact this
def wiP(X:Cx)(F:ak)(Φ:aT)(p:Nat)(cs:aD):TI:=λσ H Rr=>∃R τ ρ xs d items,SI X F R τ ρ σ H/\cf Φ cs ρ=ok xs/\Φ p xs=ok d/\m9 d=ok items /\
 ∀J H2 vs,aM H H2->cF X.K (gP X F) R τ (dF cs) H H2 vs xs->JR X.K J H2 vs xs items->Rr J H2
theorem F4(L:qe X S k Φ){t:Tg}{p:Nat}{b:ag}{x:ba}(ht:xW S t tg=true)(hi:S.px.pi p S.sc S.bl iter=some args)(hc:bU S cs args=true)(DB:Tp iter=true)(htu:(decide (1100<=p)||gH tg)=true)(hb:iY X x (oG X F Φ b)):PS X (.For tg iter x [] pos) (qT X F Φ (.fr t (.CA p cs) b)):=by
 obtain⟨g,hg,vx⟩:=yx (F:=F) L ht;have kb:∀y,foldedSetIterable iter X.env y=pure y:=by
  intro y;cases iter<;>first|rfl | (cases DB;done)
 have pi:PI X tg iter (wiP X F Φ p cs):=λpins s σ H Rr I ⟨R,τ,ρ,xs,d,items,Si,cn,ed,ei,hR⟩ =>
  L.pr.i X _ _ k L.toLk.pX p iter args hi F cs tg htu (oJ L.toLk cs args hc) pins s σ H R τ ρ xs d items I Si cn ed ei Rr hR
 refine PS.imp (lU L.px L.calm pi hg hb kb) λD σ H hq=>?_;obtain⟨R,τ,ρ,r,Si,ev,hq⟩:=hq;obtain⟨⟨items,ρ1⟩,ei,ef⟩:=aH ev;obtain⟨xs,cn,ei⟩:=aH ei;obtain⟨d,ed,ei⟩:=aH ei;obtain⟨Wa,ei',ei⟩:=aH ei;cases ei;refine⟨R,τ,ρ,xs,d,items,Si,cn,ed,ei',λJ H2 vs e2 Gu yz=>?_⟩;obtain⟨R',τ',hR,fC,rs⟩:=D0 Si e2 Gu;have y8:=hq.from (Kp.of e2 hR);refine⟨λi m σ' H'=>m=items.length - i/\i<=items.length/\lH X F Φ t b R' H2 r items i σ' H',⟨_,rfl,aaS _,R',τ',_,fC,Kp.refl R' H2,by rw[List.drop_zero];exact ef⟩,?_⟩;rintro i m σ1 H1 ⟨rfl,Jx,hf⟩;obtain⟨R1,τ1,ρ2,yi,k1,e1⟩:=id hf;have E_:=k1.Vu rs;have Vj:r_ X.K H2 vs xs H1:=⟨⟨R',rs,k1.l⟩,λa ys h=>k1.Pl h⟩
 by_cases iR:i<items.length
 ·refine .inr ⟨yz.go i H1 R1 Vj E_ iR,λσ' H'=>lH X F Φ t b R' H2 r items (i+1) σ' H',λσ' H' h=>⟨items.length - (i+1),by left,rfl,iR,h⟩,λv H3 hy=>?_⟩;obtain⟨e3,dd,hd,rd⟩:=yz.wj i H1 R1 v H3 Vj E_ iR hy;have pk:items.drop i=dd::items.drop (i+1):=by
   rw[List.drop_eq_getElem_cons iR];rw[List.getElem?_eq_getElem iR]at hd;cases hd;rfl
  rw[pk,dJ]at e1;obtain⟨ρ3,eb,e1⟩:=aH e1;obtain⟨⟨fo,ρ4⟩,e4,e1⟩:=aH e1;have k3:Kp R' H2 R1 H3:=k1.trans (Kp.of e3 λ_ h=>h);refine vx v σ1 H3 _ R1 τ1 ρ2 ρ3 dd (yi.go e3) (jM rd) eb λσ' sf NO=>⟨R1,sf,ρ3,(fo,ρ4),NO,e4,?_⟩
  cases fo with
  |nx=>exact λσ3 H4 R3 τ3 yh k4=>⟨R3,τ3,ρ4,yh,k3.trans k4,e1⟩
  |ct=>exact λσ3 H4 R3 τ3 yh k4=>⟨R3,τ3,ρ4,yh,k3.trans k4,e1⟩
  |bk=>cases e1;exact λσ3 H4 R3 τ3 yh k4=>y8 σ3 H4 R3 τ3 yh (k3.trans k4)
  |rt d=>cases e1;exact y8
 ·exact .inl ⟨yz.stop i H1 R1 Vj E_ (by left),nU (n:=i) (by left) y8 σ1 H1 hf⟩
theorem aI.ints{T:mV}{N:gj}:∀(is:ae) {k:br} {n:Nat},aI T N k n (is.map V.int) (is.map DI.D.int)
 |[],_,_=>.nil
 |i::is,_,_=>.cons (.int i) (aI.ints is)
theorem Kn(L:qe X S k Φ){t:Tg}{it:CI}{b:ag}{x:ba}(ht:xW S t tg=true)(hi:NG S it iter=true)(hnp:(gH tg||CV it)=true)(hb:iY X x (oG X F Φ b)):PS X (.For tg iter x [] pos) (qT X F Φ (.fr t it b)):=by
 obtain⟨g,hg,vx⟩:=yx (F:=F) L ht;have kb:∀y,foldedSetIterable iter X.env y=pure y:=by
  intro y;cases iter<;>first|rfl | (cases it<;>first|exact(aac hi).elim|exact(aac (aL hi).2).elim)
 have jK:∀{lo:Int} {n:Nat} {D:Ends} {R:ak} {τ:Addr->Option br} {ρ:aZ} {σ:St} {H H1:Hp} {r:Fo×aZ},SI X F R τ ρ σ H->aM H H1->mX X F D R H r ->
   dJ (λd ρ=>bT t d ρ) (λρ=>bI Φ b ρ) ((List.range n).map λ(k:Nat)=>DI.D.int (lo+(k:Int))) ρ=ok r ->
   ∃W:Nat->Nat->L2.St->Hp->Prop,(∃m,W 0 m σ H1)/\∀i m σ H,W i m σ H ->
    ((Bd lo n).stop i H/\D.nx σ H)\/((Bd lo n).go i H/\∃N:L2.St->Hp->Prop,(∀σ' H',N σ' H'->∃m',m'<m/\W (i+1) m' σ' H')/\∀x H',(Bd lo n).wj i H x H'->g x σ H' λσ2 H2=>oG X F Φ b { D with nx:=N,ct:=N,bk:=D.nx } σ2 H2):=by
  intro lo n D R τ ρ σ H H1 r Si e1 hq ef;have rs:aI (aY X.K H1) (nd X.K R (λ_=>False) (λ_=>none) H1) [] 0 ((List.range n).map λ(k:Nat)=>V.int (lo+(k:Int))) ((List.range n).map λ(k:Nat)=>DI.D.int (lo+(k:Int))):=by
   have:=aI.ints (T:=aY X.K H1) (N:=nd X.K R (λ_=>False) (λ_=>none) H1) ((List.range n).map λ(k:Nat)=>lo+(k:Int)) (k:=[]) (n:=0);rw[List.map_map,List.map_map]at this;exact this
  have y8:=hq.from (Kp.of e1 (R':=R) λ_ h=>h);refine AW (lH X F Φ t b R H1 r _) ⟨R,τ,ρ,Si.go e1,Kp.refl R H1,by rw[List.drop_zero];exact ef⟩ (λi σ' H' Ra h=>?_) (λσ' H' h=>nU (by simp) y8 σ' H' h);exact pC vx rs y8 i (.int (lo+i)) σ' H' (by rw[List.getElem?_map,List.getElem?_range Ra];rfl) h
 intro pins s σ H D I Fe;cases it with
 |CA p cs =>
  obtain⟨DB,hz⟩:=aL hi;obtain⟨args,ha,L6⟩:=bp hz;exact F4 L ht ha L6 DB (by rw[Bool.or_comm];exact hnp) hb pins s σ H D I Fe
 |jK a =>
  obtain⟨R,τ,ρ,r,Si,ev,hq⟩:=Fe;obtain⟨⟨items,ρ1⟩,ei,ef⟩:=aH ev;obtain⟨⟨y,as⟩,hv,hz⟩:=bp hi;obtain⟨p,L0,rfl⟩:=cC hv;obtain⟨Zj,L6⟩:=aL hz;obtain⟨hz3,h2⟩:=aL Zj;obtain⟨hz4,h1⟩:=aL hz3;obtain rfl:y=_:=aad hz4;obtain⟨e,hu,h3⟩:=bp L6;obtain rfl:as=[e]:=bS hu;have pa:PA X [e] (uo X F Φ [a]):=PA.imp (cJ (gG (F:=F) L.toLk a e h3).1 eJ (cj h3 _ _)) λ_ _ _ h=>by
   have:=fP h;obtain⟨R,τ,ρ,d,Si,ev,hq⟩:=this;exact⟨R,τ,ρ,d,Si,ev,λv H' e r=>jI (hq v H' e r)⟩
  refine lU L.px L.calm (rm (L.gl h1) (L.bl _ (aad h2)) pa (cj h3 _ _)) hg hb kb pins s σ H D I ?_;obtain⟨d,ed,ei⟩:=aH ei;cases d<;>try (simp at ei;done)
  rename_i n;simp at ei;obtain⟨⟨c1,c2⟩,rfl,rfl⟩:=ei;have pq:(eH:Int)=1000000:=rfl;refine⟨R,τ,ρ,[.int n],Si,by show bd (bz Φ a ρ) _=_;rw[ed];rfl,λvs H1 e1 rv=>?_⟩;obtain⟨τt,fr,rs⟩:=rv;cases rs.ints1
  ·refine⟨n,rfl,by left,by left,?_⟩;refine jK (lo:=0) Si e1 hq ?_;simpa using ef
 |seq a =>
  obtain⟨R,τ,ρ,r,Si,ev,hq⟩:=Fe;obtain⟨⟨items,ρ1⟩,ei,ef⟩:=aH ev;replace hi:=aL hi;obtain⟨d,ed,ei⟩:=aH ei;have pe:=(gG (F:=F) L.toLk a iter hi.1).1;cases d<;>try (simp at ei;done)
  ·rename_i ds;simp at ei;obtain⟨rfl,rfl⟩:=ei;refine lU L.px L.calm (w_ pe) hg hb kb pins s σ H D I (tD.intro Si ed λv H1 e1 rv=>?_);obtain⟨R',τ',hR,fC,rp⟩:=nS Si e1 rv;rw[aS]at rp;cases rp with
   | @tup _ p xs _ hp rs =>
    have y8:=hq.from (Kp.of e1 hR);refine⟨p,rfl,⟨xs,hp⟩,zm (xs:=xs) (lH X F Φ t b R' H1 r (aF aW ds)) ⟨R',τ',_,fC,Kp.refl R' H1,by rw[List.drop_zero];exact ef⟩ (λi σ' H' _ h=>?_) (λi x σ' H' hx h=>pC vx rs y8 i x σ' H' hx h) (λσ' H' h=>nU (rs.length) y8 σ' H' h)⟩;obtain⟨R2,τ2,ρ2,_,kp,_⟩:=h;exact kp.Pl hp
  ·rename_i f ds;simp at ei;obtain⟨rfl,rfl⟩:=ei;refine lU L.px L.calm (sP pe) hg hb kb pins s σ H D I (tD.intro Si ed λv H1 e1 rv=>?_);obtain⟨R',τ',hR,fC,rp⟩:=nS Si e1 rv;rw[aS]at rp;obtain⟨p,xs,rfl,hp,rs⟩:=rp.wA;have y8:=hq.from (Kp.of e1 hR);refine⟨p,rfl,⟨xs,hp.sq⟩,vH (xs:=xs) (lH X F Φ t b R' H1 r (aF aW ds)) ⟨R',τ',_,fC,Kp.refl R' H1,by rw[List.drop_zero];exact ef⟩ (λi σ' H' _ h=>?_) (λi x σ' H' hx h=>pC vx rs y8 i x σ' H' hx h) (λσ' H' h=>nU (rs.length) y8 σ' H' h)⟩;obtain⟨R2,τ2,ρ2,_,kp,_⟩:=h;exact(kp.nd hp).sq
theorem xr{ρ':aZ}{p:Addr}{q:br}{n:Nd}{o:HO}(Si:SI X F R' τ' ρ' σ H1)(es:aM H H1)(hR:∀p,R p->R' p)(hp:fZ H1 p n)(ht:τ' p=some q):Kp R H R' (upd H1 p o):=by
 obtain⟨o0,Of,QU,Oe⟩:=fZ.some hp;exact⟨hR,λa u ha e=>by
  have ne:a≠p:=λz=>by subst z;rw[Si.rt _ (hR _ ha)]at ht;cases ht
  rw[aV ne];exact es _ _ e,λa zs e=>by
  have e1:=es _ _ e;have ne:a≠p:=λz=>by subst z;rw[Of]at e1;cases e1;exact QU _ rfl
  rw[aV ne];exact e1,λa o u e=>by
  have e1:=es _ _ e;have ne:a≠p:=λz=>by subst z;rw[Of]at e1;cases e1;exact Oe _ _ rfl
  rw[aV ne];exact e1⟩
theorem i6.go{v:V}{d:DI.D}(h:i6 X R τ H v d)(e:aM H H'):i6 X R τ H' v d :=
 let ⟨τt,h1,h2⟩:=h;⟨τt,λp q z=>let ⟨a,b,c,d⟩:=h1 p q z;⟨a,b,c,aM.ne e d⟩,h2.imp (λ_ _ h=>aY.same e h) λ_ _ _ _ h=>nd.same e h⟩
theorem YU(L:qe X S k Φ){i:Nat}{o:Expr}(h:qI S i o=true)(hv:∀x p,o=.Name x p->o4 x=true):∃x p,o=.Name x p/\X.N[i]?=some x/\L2.Loc X.env.scope x/\PE X o (wL i):=by
 cases o<;>try (exact(aac h).elim;done)
 rename_i x p;have hn:=hv x p rfl;replace h:=aL h;unfold o4 at hn;simp only[Bool.and_eq_true,Bool.not_eq_true']at hn;have hN:X.N[i]?=some x:=by rw[L.N];exact aad h.1
 have hl:=L.loc h.2;exact⟨x,p,rfl,hN,hl,oV hN (hl.imp id .inl) hn.1.1 hn.1.2⟩
theorem HE{e:CE}{r:DI.D×aZ}{i:Nat}{ds:List DI.D}(h:kr Φ e ρ=ok r)(ho:r.2[i]?=some (some (.lst .ow ds))):ρ[i]?=some (some (.lst .ow ds)):=by
 by_cases hv:∃j,e=.v j
 ·obtain⟨j,rfl⟩:=hv;simp only[kr]at h;split at h
  ·split at h
   ·cases h;by_cases ka:i=j
    ·subst ka;rw[List.getElem?_set]at ho;simp at ho
    ·rw[List.getElem?_set_ne (Ne.symm ka)]at ho;exact ho
   ·cases h;exact ho
  ·cases h
 ·have h':bd (bz Φ e ρ) (λd=>ok (keep e d ρ))=ok r:=by
   cases e<;>first|exact h|exact absurd ⟨_,rfl⟩ hv
  obtain⟨d,_,er⟩:=aH h';cases er;unfold keep at ho;split at ho
  ·obtain⟨d',h1,h2⟩:=zi _ _ _ _ ho;split at h2
   ·cases d'<;>simp[aS]at h2;rename_i f ds';cases f<;>simp[aW]at h2
   ·rw[h2];exact h1
  ·exact ho
theorem Ko(L:qe X S k Φ){i:Nat}{e:CE}{x:Str}{v:Expr}{p p1 p2:Pos}(hn:qI S i (.Name x p)=true)(hx:o4 x=true)(he:cW S e v=true)(DE:(p1.endLine==p2.line)=true):PS X (.Expr (.Call (.Attribute (.Name x p) ("append" : Str) p1) [v] [] p2) pos) (qT X F Φ (.app i e)):=by
 obtain⟨_,_,z,hN,hl,pe⟩:=YU L hn (λy q e=>by cases e;exact hx);cases z;refine PS.imp (nN (CG abE PySem.F.slot_list_append PySem.F.type_list_append Ax pe (cJ (wR (F:=F) L.toLk e v he) eJ (cj he _ _)) (hfew:=by rw[cj he];rfl) (hline:=DE) (hs:=cj he _ _))) λD σ H hq=>?_;obtain⟨R,τ,ρ,r,Si,ev,hq⟩:=hq;obtain⟨r1,Br,ev⟩:=aH ev;split at ev
 ·rename_i ds ho;split at ev
  ·rename_i hc;cases ev;have ho:=GO ho;obtain⟨a,xs,hv,ha,hxl,hta,_⟩:=Si.own (HE Br ho);refine⟨.ref a,hv,.inl ⟨rfl,_,dH.of ha⟩,R,τ,ρ,r1,Si,Br,λw H1 R1 τ1 es hR yi rk=>?_⟩;obtain⟨a1,UI,L9,JA,Wm,Dy,E_⟩:=yi.own ho;rw[hv]at L9;cases L9;have hz:sizeLine=16777216:=abf;have pq:eH=1000000:=rfl;refine⟨a,UI,w,rfl,rfl,JA,by left,?_⟩;obtain⟨τ2,Bc⟩:=yi.put (m:=ds.length) (g:=λys=>ys++[w]) ho hv JA Dy E_ rk λrs r=>aI.IT rs (by simpa using r);exact hq σ _ R1 τ2 Bc (xr (n:=.l _) yi es hR JA Dy)
  ·cases ev
 ·cases ev
end
section
variable {X:Cx}{S:Sx}{k:Nat}{F:ak}{Φ:aT}
theorem K2(x:Str)(p:Pos):(Expr.Name x p).pos=p:=rfl
theorem wO{x y:Str}{px py pt NY:Pos}{kt:Nat}{a b:Expr}(hk:env.scope.kind=.function)(hx:env.scope.names.lookup x=some .local)(hy:env.scope.names.lookup y=some .local)(Zk:x≠y)(hl:px.line=py.line)
  (h1:[a,b].all (foldedForSure 8)=false) (h2:[a,b].all (constantsAlone 8)=false) (h3:([a,b].any λe=>match e with|.Starred ..=>true|_=>false)=false) :
  swappedStores [.Tuple [.Name x px,.Name y py] kt pt] (.Tuple [a,b] k2 NY) env=pure (some [x,y]):=by
 have hb:env.blockKind=.function:=by unfold Env.blockKind;rw[hk];rfl
 have kx:env.kindOf x=some .local:=hx;have ky:env.kindOf y=some .local:=hy;have e1:([x,y].eraseDups.length != [x,y].length)=false:=by
  have:¬ (y==x)=true:=by simp;exact λz=>Zk z.symm
  have h':(y==x)=false:=by simpa using this
  simp[List.eraseDups_cons,List.filter,h',Zk]
 unfold swappedStores;simp only[hb,h3,List.filterMap_cons,List.filterMap_nil,kx,ky,hl,K2,List.head?_cons,Option.map_some,Option.getD_some,h1,h2];simp only[beq_self_eq_true,Bool.and_self,if_true];rw[if_neg (by simp)];refine(ab9 ?_).trans ?_
 ·intro z;exact aac (h3.symm.trans z)
 rw[if_neg (by
  rw[e1];simp),if_neg Bool.false_ne_true,if_neg Bool.false_ne_true]
theorem oT{kp:br}{v:V}{d:DI.D}(h:Rep (aY X.K H) (nd X.K R A τ H) kp v d)(hf:bc anyF d=false):i6 X R' τ' H v d :=
 ⟨λ_=>none,λ_ _ h=>by simp at h,Rep.without (P:=anyF) (λ_ _ h=>h) (λk k' p xs f hf h=>by cases hf) h hf _⟩
theorem Km(L:qe X S k Φ){i j:Nat}{a b:CE}{v:Expr}(he:cW S (.tup [a,b]) v=true)(hp:Ey S i j tg v=true):PS X (.Assign [tg] v pos) (qT X F Φ (.par i j a b)):=by
 obtain⟨ts,L9,q1⟩:=bp hp;obtain⟨kt,pt,rfl⟩:=kP L9;obtain⟨⟨t1,t2⟩,hv2,q2⟩:=bp q1;obtain rfl:ts=[t1,t2]:=i9 hv2;obtain⟨⟨x,px⟩,hv3,q3⟩:=bp q2;obtain rfl:t1=_:=yq hv3;obtain⟨⟨y,py⟩,hv4,q4⟩:=bp q3;obtain rfl:t2=_:=yq hv4;obtain⟨vs,hv5,q5⟩:=bp q4;obtain⟨k2,NY,rfl⟩:=kP hv5;obtain⟨⟨ea,eb⟩,hv6,q6⟩:=bp q5;obtain rfl:vs=[ea,eb]:=i9 hv6
 ·obtain⟨q7,Hx⟩:=aL q6;obtain⟨q8,h9⟩:=aL q7;obtain⟨q9,h8⟩:=aL q8;obtain⟨VH,h7⟩:=aL q9;obtain⟨q11,h6⟩:=aL VH;obtain⟨q12,h5⟩:=aL q11;obtain⟨q13,h4⟩:=aL q12;obtain⟨q14,h3⟩:=aL q13;obtain⟨h1,h2⟩:=aL q14;replace h1:S.N[i]?=some x:=aad h1;replace h2:S.N[j]?=some y:=aad h2;replace h3:=aad h3;replace h4:=aad h4;replace h5:=aad h5;replace h6:=aad h6;replace h7:=aad h7;replace h8:=je h8;replace h9:=je h9;replace Hx:=aad Hx;replace he:=aL he;have pa:=sy (F:=F) L.toLk [a,b] [ea,eb] he.1;refine PS.imp (K0 L.calm L.nd (by rw[L.N];exact h1) (by rw[L.N];exact h2) h3 (by rw[L.sc];exact h4) (by rw[L.sc];exact h5) pa (wO (by rw[L.sc];exact L.fk) (by rw[L.sc];exact h4) (by rw[L.sc];exact h5) h6 h7 h8 h9 Hx)) λD σ H hq=>?_;obtain⟨R,τ,ρ,r,Si,ev,hq⟩:=hq;obtain⟨d1,ed1,ev⟩:=aH ev;obtain⟨d2,ed2,ev⟩:=aH ev;simp only[Jt]at ev;obtain⟨⟨f1,f2,l1,l2⟩,rfl⟩:=ev;refine⟨R,τ,ρ,[d1,d2],Si,by show bd (bz Φ a ρ) _=_;rw[ed1];show bd (bd (bz Φ b ρ) _) _=_;rw[ed2];rfl,λvs H1 e1 rv=>?_⟩;obtain⟨τt,fr,rs⟩:=rv;obtain⟨v1,v2,rfl,r1,r2⟩:=rs.two
  ·obtain⟨τ1,S1⟩:=(Si.go e1).set (i:=i) (oT r1 f1) l1;obtain⟨τ2,S2⟩:=S1.set (i:=j) (oT r2 f2) (by simpa using l2);exact⟨v1,v2,rfl,hq _ H1 R τ2 S2 (Kp.of e1 λ_ h=>h)⟩
mutual
theorem BV(L:qe X S k Φ):∀(c:CS) (st:Stmt),pW S c st=true->PS X st (qT X F Φ c)
 |.asg t e,st,h=>by
  obtain⟨⟨IH,v⟩,v1,q1⟩:=bp h;obtain⟨pos,rfl⟩:=nI v1;obtain⟨tg,v2,q2⟩:=bp q1;obtain rfl:IH=[tg]:=bS v2;obtain⟨q3,h4⟩:=aL q2;obtain⟨q4,h3⟩:=aL q3;obtain⟨h1,h2⟩:=aL q4;have h1:cW S e v=true:=h1;replace h3:(isTup v&&isTup tg)=false:=je h3;cases hc:jl v with
  |false=>exact BS L h1 h2 h3 (jr h1 hc _ _ _)
  |true =>
   have h4:(!jl v||isNm tg)=true:=h4;rw[hc]at h4;obtain⟨x,p,rfl⟩:=Hh h4;obtain⟨j7,gens,sc,OR,rfl⟩:=AH hc;cases e<;>try (exact(aac h1).elim)
   cases t with
   |tp is=>exact(aac h2).elim
   |nm i =>
    cases hb:Vh S (.Name x p) (.ListComp j7 gens sc OR)with
    |true=>exact F5 L h1 h2 (by rw[IQ L,hb])
    |false=>exact BS L h1 h2 h3 (by
      show swapsWith (.ListComp j7 gens sc OR) (some (.Name x p)) pos.line X.env=_;rw[IQ L,hb])
 |.par i j a b,st,h=>by
  obtain⟨⟨IH,v⟩,v1,q1⟩:=bp h;obtain⟨pos,rfl⟩:=nI v1;obtain⟨tg,v2,q2⟩:=bp q1;obtain rfl:IH=[tg]:=bS v2;exact Km L (aL q2).1 (aL q2).2
 |.ret e,st,h=>by
  obtain⟨z,v1,q1⟩:=bp h;obtain⟨pos,rfl⟩:=yp v1;obtain⟨v,v2,q2⟩:=bp q1;obtain rfl:z=some v:=v2;exact Kl L q2
 |.rs c,st,h=>λ_ _ _ _ _ _ bR=>by obtain⟨R,τ,ρ,r,Si,ev,hq⟩:=bR;cases ev
 |.ex e,st,h=>by
  obtain⟨v,v1,q1⟩:=bp h;obtain⟨pos,rfl⟩:=oD v1;exact Pk L (aL q1).1 (je (aL q1).2)
 |.mut p i es,st,h=>by
  obtain⟨⟨o,args⟩,ha,q1⟩:=bp h;obtain⟨q2,h3⟩:=aL q1;obtain⟨h1,h2⟩:=aL q2;obtain⟨x,pp,rfl,hN,hl,pe⟩:=YU L h1 (λy q e=>by cases e;exact h2);exact L.pm.m X _ _ k L.toLk.pX L.nd L.ql p st x pp args ha i hN hl pe F es (oJ L.toLk es args h3)
 |.app i e,st,h=>by
  obtain⟨c,v1,q1⟩:=bp h;obtain⟨pos,rfl⟩:=oD v1;obtain⟨⟨fn,as,ks,p2⟩,v2,q2⟩:=bp q1;obtain rfl:c=_:=qO v2;obtain⟨q3,q4⟩:=aL q2;obtain rfl:ks=[]:=k9 q3;obtain⟨⟨o,a,p1⟩,v3,q5⟩:=bp q4;obtain rfl:fn=_:=uw v3;obtain⟨q6,q7⟩:=aL q5;obtain⟨v,v4,h4⟩:=bp q7;obtain rfl:as=[v]:=bS v4;obtain⟨q8,h5⟩:=aL q6;obtain⟨q9,h2⟩:=aL q8;obtain⟨VH,h1⟩:=aL q9;obtain rfl:a=_:=aad VH;obtain⟨x,p,rfl⟩:∃x p,o=.Name x p:=zE h1;exact Ko L h1 h2 h4 h5
 |.ifs c a b,st,h=>by
  obtain⟨⟨t,x,y⟩,v1,q1⟩:=bp h;obtain⟨pos,rfl⟩:=sj v1;obtain⟨q2,h3⟩:=aL q1;obtain⟨h1,h2⟩:=aL q2;exact Pj L h1 (il L a _ h2) (il L b _ h3)
 |.IE c b,st,h=>by
  obtain⟨⟨t,x,y⟩,v1,q1⟩:=bp h;obtain⟨pos,rfl⟩:=FH v1;obtain⟨q2,h3⟩:=aL q1;obtain⟨h1,h2⟩:=aL q2;obtain rfl:y=[]:=k9 h1;exact BR L h2 (il L b _ h3)
 |.fr t it b,st,h=>by
  obtain⟨⟨tg,iter,x,y⟩,v1,q1⟩:=bp h;obtain⟨pos,rfl⟩:=yr v1;obtain⟨q2,h5⟩:=aL q1;obtain⟨q3,h4⟩:=aL q2;obtain⟨q4,h3⟩:=aL q3;obtain⟨h1,h2⟩:=aL q4;obtain rfl:y=[]:=k9 h1;exact Kn L h2 h3 h4 (il L b _ h5)
theorem il(L:qe X S k Φ):∀(cs:ag) (qj:ba),iX S cs qj=true->iY X qj (oG X F Φ cs)
 |[],[],_=>iY.imp GC λD σ H bR=>by obtain⟨R,τ,ρ,r,Si,ev,hq⟩:=bR;cases ev;exact hq σ H R τ Si (Kp.refl R H)
 |[],_::_,h=>by exact(aac h).elim
 |_::_,[],h=>by exact(aac h).elim
 |c::cs,st::qj,h=>by
  replace h:=aL h;have h1:PS X st (qT X F Φ c):=BV L c st h.1;have h2:iY X qj (oG X F Φ cs):=il L cs qj h.2;refine iY.imp (jb h1 h2) λD σ H hq=>?_;obtain⟨R,τ,ρ,r,Si,ev,hq⟩:=hq;obtain⟨⟨fo,ρ1⟩,e1,ev⟩:=aH ev;refine⟨R,τ,ρ,(fo,ρ1),Si,e1,?_⟩;cases fo with
  |nx=>exact λσ' H' R' τ' fC kp=>⟨R',τ',ρ1,r,fC,ev,hq.from kp⟩
  |bk=>cases ev;exact hq
  |ct=>cases ev;exact hq
  |rt d=>cases ev;exact hq
end
end
variable {mg:Str->Option Value}{ps:ao}{qual:Str}
theorem vI{x:Str}{f:Addr}{fd:FuncData}{k:Nat}{N bl:ao}{cs:List (Str×GK)}{px:Px}{ql:Nat->Option Str}{m:aw}{body:ag}
  (Fu:Bv K x qual st f fd) (Sc:fK N ps (aN st)) (DM:iX ⟨aN st,N,ql,bl,cs,px⟩ body (bJ st)=true) (DB:qc px Φ) (QW:Ft px Φ)
  (vB:∀y∈bl,mg y=none) (mT:∀y i,(y,i)∈cs->∃u,mg y=some u/\yn K i u)
  (wq:∀g y,ql g=some y->∃(f:Addr) (fd:FuncData) (ps:ao),gL P w K mg base z5 k f fd ps (EY K ps.length (Φ g))/\mg y=some (.ref f)/\PySem.W.keepIn K (.ref f)=true/\Binds K fd ps []/\∀ds r,Φ g ds=ok r->ds.length=ps.length)
  (hm:∀ds r,m ds=ok r->ds.length=ps.length/\sI Φ N.length body ds=ok r):gL P w K mg base z5 (k+1) f fd ps (EY K ps.length m):=by
 refine Fu.ok (N:=N) Sc (λvs H Q E ⟨_,_,_,h,_⟩=>h) λgi A outer s H vs Q E hr wm=>?_;obtain⟨F,ds,r,hl,rs,er,hq⟩:=wm;obtain⟨Om,xy⟩:=hm ds r er
 let X:=(jq z5 P w K mg base N qual (aN st) f gi A outer s H E).Fb
 have L:qe X ⟨aN st,N,ql,bl,cs,px⟩ k Φ:=⟨⟨rfl,rfl,Sc.nd,rfl,hr,vB,λg y h=>⟨wq g y h⟩,mT,DB⟩,λ_=>rfl,PassesOwn.never,Sc.kind,QW⟩
 refine⟨oG X F Φ body,il L body _ DM,?_⟩;unfold sI at xy;obtain⟨⟨fo,ρ'⟩,eb,xy⟩:=aH xy;have hpl:ps.length<=N.length:=by have:=aaX List.length Sc.pre;rw[List.length_take]at this;left
 have Hl:vs.length=ds.length:=rs.length;refine⟨λp=>F p/\H p≠none,λ_=>none,_,(fo,ρ'),⟨?_,λi d hi=>?_,λ_ _=>rfl,λp h=>h.2,λp h=>.inl h.1,λ_ _ h=>by simp at h,λ_ _ h=>by simp at h,aM.refl H⟩,eb,?_⟩
 ·unfold L2.start;simp[Hl]
 ·have Rb:i<ds.length:=by
   by_cases iu:i<ds.length
   ·exact iu
   ·rw[List.getElem?_append_right (by simpa using iu)]at hi;rw[List.getElem?_replicate]at hi;split at hi<;>simp at hi
  rw[List.getElem?_append_left (by simpa using Rb),List.getElem?_map]at hi;have hd:ds[i]?=some d:=by
   cases q:ds[i]? with
   |none=>rw[q]at hi;cases hi
   |some z=>rw[q]at hi;simp at hi;rw[hi]
  obtain⟨v,hv,rv⟩:=rs.get hd;refine⟨v,?_,rv.imp (q:=[0+i]) (q':=[i]) (λ_ _ h=>h) λc p xs f h=>?_⟩
  ·unfold L2.start;rw[List.getElem?_append_left (by rw[List.length_map,Hl];exact Rb),List.getElem?_map,hv];rfl
  ·cases f with
   |ow=>exact nomatch h.2
   |fz=>exact⟨h.1,h.2,h.1.ne⟩
   |al=>exact h.2.elim
   |sc=>exact h
 ·cases fo with
  |nx =>
   cases xy;exact λσ' H' R' τ' fC kp=>hq .bV H' fC.same ⟨λ_=>none,λ_ _ h=>by simp at h,.bV⟩
  |bk=>simp at xy
  |ct=>simp at xy
  |rt d =>
   cases xy;exact λv H' es rr=>hq v H' es rr
structure Ent(P:aE)(w:World)(K:au)(mg:aU)(base:Heap)(k:Nat)(y:Str)(m:aw):Prop where
 ex:∃(f:Addr) (fd:FuncData) (ps:ao),gL P w K mg base z5 k f fd ps (EY K ps.length m)/\mg y=some (.ref f)/\PySem.W.keepIn K (.ref f)=true/\Binds K fd ps []/\∀ds r,m ds=ok r->ds.length=ps.length
theorem Ent.up{k k':Nat}{y:Str}{m:aw}(h:Ent P w K mg base k y m)(hk:k<=k'):Ent P w K mg base k' y m:=by
 obtain⟨f,fd,ps,h1,h2⟩:=h.ex;exact⟨f,fd,ps,h1.mono hk,h2⟩
theorem ent{x:Str}{f:Addr}{fd:FuncData}{k:Nat}{N bl:ao}{cs:List (Str×GK)}{px:Px}{ql:Nat->Option Str}{m:aw}{body:ag}
  (Fu:Bv K x qual st f fd) (hmg:mg x=some (.ref f)) (hb:Binds K fd ps []) (Sc:fK N ps (aN st)) (DM:iX ⟨aN st,N,ql,bl,cs,px⟩ body (bJ st)=true) (DB:qc px Φ) (QW:Ft px Φ) (vB:∀y∈bl,mg y=none) (mT:∀y i,(y,i)∈cs->∃u,mg y=some u/\yn K i u)
  (wq:∀g y,ql g=some y->Ent P w K mg base k y (Φ g)) (hm:∀ds r,m ds=ok r->ds.length=ps.length/\sI Φ N.length body ds=ok r):Ent P w K mg base (k+1) x m :=
 ⟨f,fd,ps,vI Fu Sc DM DB QW vB mT (λg y h=>(wq g y h).ex) hm,hmg,Fu.kp,hb,λds r h=>(hm ds r h).1⟩
noncomputable def cm{α:Type}(P:α->Prop):List α->Prop
 |[]=>True
 |a::l=>P a/\cm P l
theorem cm.mem{α:Type}{P:α->Prop}:∀{l:List α},cm P l->∀a∈l,P a
 |[],_,_,h=>by cases h
 |_::_,h,_,hm=>(List.mem_cons.mp hm).elim (λe=>e▸h.1) (cm.mem h.2 _)
theorem cm.tab{β:Type}{P:Nat->β->Prop}:∀{l:List (Nat×β)},cm (λp=>P p.1 p.2) l->∀g y,l.lookup g=some y->P g y
 |[],_,_,_,h=>by cases h
 | (k,b)::l,h,g,y,e=>by
  rw[List.lookup_cons]at e;cases hg:g==k with
  |true=>rw[hg]at e;cases e;rw[eq_of_beq hg];exact h.1
  |false=>rw[hg]at e;exact cm.tab h.2 g y e
theorem cm.two{β γ:Type}{P:β->γ->Prop}{l:List (β×γ)}(h:cm (λp=>P p.1 p.2) l)(y:β)(i:γ)(hm:(y,i)∈l):P y i:=cm.mem h _ hm
theorem Qs{α:Type}{l:List α}(h:l.length=1):∃a,l=[a]:=List.length_eq_one_iff.mp h
theorem Qr{α:Type}{l:List α}(h:l.length=2):∃a b,l=[a,b]:=by
 cases l with
 |nil=>cases h
 |cons a l=>obtain⟨b,rfl⟩:=Qs (Nat.succ.inj h);exact⟨a,b,rfl⟩
theorem Qq{α:Type}{l:List α}(h:l.length=3):∃a b c,l=[a,b,c]:=by
 cases l with
 |nil=>cases h
 |cons a l=>obtain⟨b,c,rfl⟩:=Qr (Nat.succ.inj h);exact⟨a,b,c,rfl⟩
theorem V0{α:Type}{l:List α}(h:l.length=4):∃a b c d,l=[a,b,c,d]:=by
 cases l with
 |nil=>cases h
 |cons a l=>obtain⟨b,c,d,rfl⟩:=Qq (Nat.succ.inj h);exact⟨a,b,c,d,rfl⟩
noncomputable def pf:aa->Option (ae)
 |[]=>some []
 |.int i::ds=>(pf ds).map (i :: ·)
 |_::_=>none
theorem pd:∀ns:ae,pf (ns.map D.int)=some ns
 |[]=>rfl
 |n::ns=>by simp[pf,pd ns]
theorem vc:∀{ds:aa} {ns:ae},pf ds=some ns->ds=ns.map D.int
 |[],ns,h=>by simp[pf]at h;subst h;rfl
 |d::ds,ns,h=>by
  cases d<;>simp[pf]at h;obtain⟨ms,h1,rfl⟩:=h;rw[vc h1];rfl
def sZ:aw
 |[.lst .sc ds]=>match pf ds with
  |some ns=>if ns.length<=63 then ok (.bl true)else none
  |none=>none
 |_=>none
theorem G7(h:ns.length<=63):sZ [.lst .sc (ns.map D.int)]=ok (.bl true):=by
 simp[sZ,pd,h]
theorem C9{n:Nat}{b:ag}(h:∀ns:ae,ns.length<=63->sI Φ n b [.lst .sc (ns.map D.int)]=ok (.bl true)):∀ds r,sZ ds=ok r->ds.length=1/\sI Φ n b ds=ok r:=by
 intro ds r e
 match ds,e with
 |[.lst .sc ds],e =>
  simp only[sZ]at e;split at e
  ·rename_i ns Bn;split at e
   ·rename_i hl;cases e;obtain rfl:=vc Bn;exact⟨rfl,h ns hl⟩
   ·cases e
  ·cases e
theorem LH(K:au)(H:Hp)(a:Addr)(ns:ae)(m:aw)(hm:m [.lst .sc (ns.map D.int)]=ok (.bl true))(hO:Iz H)(hS:dH K H a (ns.map V.int)):EY K 1 m [.ref a] H (λv _=>v=.bl true) λ_ _ _=>False:=by
 refine⟨λ_=>True,_,.bl true,rfl,.cons (.lst ?_ (aI.ints ns)) .nil,hm,λv H' _ bR=>by obtain⟨τt,_,rp⟩:=bR;cases rp;rfl⟩;rcases hS with (h|h)|h
 ·rcases hO a with z|⟨o,xs,z⟩
  ·rw[h]at z;cases z
  ·rw[h]at z;cases z
 ·exact .inl h
 ·exact .inr h
section
variable {X:Cx}{pins:aq}{σ:St}{H:Hp}{s:Shared}{h':Heap}
theorem yu(I:Inv X pins σ H s)(hf:∀b∈ch,qf X pins H b)(k:∀b u,b∉ch->s.heap.get? b=some u->h'.get? b=some u):Inv X pins σ H { s with heap:=h',toks:=t' }:=by
 have Jm:∀b u,H b=some u->b∉ch:=λb u e z=>by rw[(hf b z).1]at e;cases e
 refine I.step (g':=s.gens) (d':=s.drawn) (ch:=ch) (λb hb=>⟨(hf b hb).2.2.2.1,(hf b hb).2.1,(hf b hb).2.2.2.2.1,(hf b hb).2.2.2.2.2⟩) (λb o _ _ hc e _=>k b o hc e) (λb o _ _ hc e _=>⟨o.slots,k b o hc e⟩) (λ_ _ _ _ n=>n)
  (λb o hc e=>⟨o,k b o hc e⟩) (λ_ _ e=>e) (λ_ _ _ e=>e) (λb ps e=>⟨#[],by rw[e];simp⟩) (λm hm=>?_) (λb u e=>?_) I.bare
 ·obtain⟨o,es,ep,ho,r⟩:=hm;exact⟨o,es,ep,k _ o (λz=>(hf _ z).2.1 rfl) ho,r⟩
 ·refine(I.cA b u e).i_ (λc v hc q=>k c v ?_ q) (λ_ q=>q) λ_ _ q=>q;rcases hc with z|z
  ·rw[z];exact Jm b u e
  ·exact Jm c _ z
theorem yv{T:Addr}{o:HO}(I:Inv X pins σ H s)(hf:∀b∈ch,qf X pins H b)(k:∀b u,b∉ch->s.heap.get? b=some u->h'.get? b=some u)(hT:s.heap.objs.size<=T)(new:cS X.prog X.w (upd H T o) h' T o):
  Inv X pins σ (upd H T o) { s with heap:=h',toks:=t' }:=by
 have Jm:∀b u,H b=some u->b∉ch:=λb u e z=>by rw[(hf b z).1]at e;cases e
 have hn:H T=none:=I.cA.fresh hT;have ne:∀b (u:Obj),s.heap.get? b=some u->b≠T:=λb u e z=>absurd (aah e) (by rw[z];exact Nat.not_lt.mpr hT);have up:∀b u,H b=some u->upd H T o b=some u:=λb u e=>by rw[aV (b_ e hn)];exact e
 refine I.step (g':=s.gens) (d':=s.drawn) (ch:=ch) (λb hb=>⟨(hf b hb).2.2.2.1,(hf b hb).2.1,(hf b hb).2.2.2.2.1,(hf b hb).2.2.2.2.2⟩) (λb o _ _ hc e _=>k b o hc e) (λb o _ _ hc e _=>⟨o.slots,k b o hc e⟩) (λb u _ e n=>by rw[aV (ne b u e)];exact n)
  (λb o hc e=>⟨o,k b o hc e⟩) (λ_ _ e=>up _ _ e) (λ_ _ _ e=>up _ _ e) (λb ps e=>⟨#[],by rw[up _ _ e];simp⟩) (λm hm=>?_) (y9 (λb u e=>?_) hn new) I.bare
 ·obtain⟨o,es,ep,ho,r⟩:=hm;exact⟨o,es,ep,k _ o (λz=>(hf _ z).2.1 rfl) ho,r⟩
 ·refine(I.cA b u e).i_ (λc v hc q=>k c v ?_ q) (λ_ q=>q) λ_ _ q=>q;rcases hc with z|z
  ·rw[z];exact Jm b u e
  ·exact Jm c _ z
end
def Ye(K:au)(a b:Addr):It :=
  ⟨λi H=>∃xs ys x y,dH K H a xs/\dH K H b ys/\xs[i]?=some x/\ys[i]?=some y,
   λi H v H'=>∃T x y,(∀xs,dH K H a xs->xs[i]?=some x)/\(∀ys,dH K H b ys->ys[i]?=some y)/\H T=none/\v=.ref T/\H'=upd H T (.tup [x,y]),
   λi H=>∃xs ys,dH K H a xs/\dH K H b ys/\(xs.length<=i\/ys.length<=i)⟩
theorem sr{h:Heap}{T:Addr}{x y:V}{u v:Value}(rx:RelV x u)(ry:RelV y v)(e:h.get? T=some { cls:=.type "tuple",data:=.seq #[u,v] }):cS P w H h T (.tup [x,y]) :=
 ⟨by rw[sizeLine_eq];simp,[u,v],.cons rx (.cons ry .nil),⟨_,e,rfl,_,rfl⟩⟩
theorem cV{h:Heap}{a b:Addr}{u:Obj}(ha:h.get? a=some o)(hb:h.get? b=some u)(hc:o.cls≠u.cls):a≠b:=λz=>by
 subst z;rw[ha]at hb;cases hb;exact hc rfl
theorem BG{tp:Pos}{a b z TI TO:Addr}(hTT:TI≠TO)(Ov:i1≠i2):
  Turn P w K (.Tuple elts n1 tp) (Ye K a b) [z,TI,TO,i1,i2] z (λi h=>IsZip h z TI TO .none/\IsPair h TI (.ref i1) (.ref i2)/\(∃x y,IsPair h TO x y)/\h.IsListIter i1 a i/\h.IsListIter i2 b i):=by
 have apart:∀{h:Heap} {x y:Value} {xs ys:aP} {i:Nat},IsZip h z TI TO .none->IsPair h TI (.ref i1) (.ref i2)->IsPair h TO x y->h.IsListIter i1 a i->h.IsListIter i2 b i->h.IsList a xs->h.IsList b ys->ZipApart z TI TO i1 i2 a b:=by
  intro h x y xs ys i hz hI hO l1 l2 ha hb;obtain⟨o1,e1,c1,_⟩:=l1;obtain⟨o2,e2,c2,_⟩:=l2;obtain⟨oa,ea,ca,_⟩:=ha;obtain⟨ob,eb,cb,_⟩:=hb;exact⟨cV hI hz (by simp),cV hO hz (by simp),cV e1 hz (by rw[c1];simp),cV e2 hz (by rw[c2];simp),hTT,cV hI e1 (by rw[c1];simp),cV hI e2 (by rw[c2];simp),cV hO e1 (by rw[c1];simp),cV hO e2 (by rw[c2];simp),Ov,
   cV ea hz (by rw[ca];simp),cV ea hO (by rw[ca];simp),cV ea e1 (by rw[ca,c1];simp),cV ea e2 (by rw[ca,c2];simp),cV eb hz (by rw[cb];simp),cV eb hO (by rw[cb];simp),cV eb e1 (by rw[cb,c1];simp),cV eb e2 (by rw[cb,c2];simp)⟩
 refine⟨by simp,λi h st c hc=>?_,λi h h' st k=>?_,?_,?_,λA i s Q E st hQ=>wpAny_pyIter_zip st.1 hQ⟩
 ·obtain⟨hz,hI,⟨x,y,hO⟩,⟨o1,e1,_,d1⟩,⟨o2,e2,_,d2⟩⟩:=st;simp only[List.mem_cons,List.not_mem_nil,or_false]at hc;rcases hc with rfl|rfl|rfl|rfl|rfl
  ·exact⟨_,hz,λv q=>by cases q⟩
  ·exact⟨_,hI,λv q=>by cases q⟩
  ·exact⟨_,hO,λv q=>by cases q⟩
  ·exact⟨o1,e1,λv q=>by rw[d1]at q;cases q⟩
  ·exact⟨o2,e2,λv q=>by rw[d2]at q;cases q⟩
 ·obtain⟨hz,hI,⟨x,y,hO⟩,l1,l2⟩:=st;exact⟨k z (by simp) _ hz,k TI (by simp) _ hI,⟨x,y,k TO (by simp) _ hO⟩,l1.at λo e=>k i1 (by simp) o e,l2.at λo e=>k i2 (by simp) o e⟩
 ·intro X hP hw hK hc i pins s σ H E I hf st hg;subst hP hw hK;obtain⟨xs,ys,x,y,q1,q2,ex,ey⟩:=hg;obtain⟨hz,hI,⟨x0,y0,hO⟩,l1,l2⟩:=st;obtain⟨aK,rv,p,_⟩:=I.list q1;obtain⟨its',Bj,p',_⟩:=I.list q2;obtain⟨u,hu,ru⟩:=rv.get ex;obtain⟨u',QL,ru'⟩:=Bj.get ey;have D:=apart hz hI hO l1 l2 p.isList p'.isList;refine wpAny_pyNext_zip_item D hz hI hO l1 l2 p.isList p'.isList (x:=u) (y:=u') (by simpa using hu) (by simpa using QL) λh1 z1 o1 a1 b1 t1 Pf k1=>⟨_,rfl,?_⟩
  refine wpAny_letOwnedTupleGo_zip z1 λh2 z2 EZ=>?_;have zne:s.heap.objs.size≠z:=aau (aah hz);have kk:∀c o,c∉[z,TI,TO,i1,i2]->s.heap.get? c=some o->h2.get? c=some o:=λc o hc e=>by
   simp only[List.mem_cons,List.not_mem_nil,or_false,not_or]at hc;exact EZ.extBut c o hc.1 (k1 c o hc.1 hc.2.2.1 hc.2.2.2.1 hc.2.2.2.2 e)
  have hT:h2.get? s.heap.objs.size=some { cls:=.type "tuple",data:=.seq #[u,u'] }:=EZ.extBut _ _ zne t1;have hn:H s.heap.objs.size=none:=I.cA.fresh (aak _);refine⟨.ref s.heap.objs.size,upd H s.heap.objs.size (.tup [x,y]),yv (s:=s) (h':=h2) (t':=s.toks) I hf kk (aak _) (sr ru ru' hT),rfl,⟨_,x,y,λzs hz=>by rw[I.k7 hz q1];exact ex,λzs hz=>by rw[I.k7 hz q2];exact ey,hn,rfl,rfl⟩,⟨z2,EZ.extBut _ _ D.TIz (k1 _ _ D.TIz D.TITO D.TIi1 D.TIi2 hI),⟨_,_,EZ.extBut _ _ D.TOz o1⟩,a1.extBut EZ.extBut D.i1z,b1.extBut EZ.extBut D.i2z⟩,λc hc=>?_⟩;rw[aV]
  ·exact(hf c hc).1
  ·intro z;subst z;simp only[List.mem_cons,List.not_mem_nil,or_false]at hc;rcases hc with e|e|e|e|e
   ·exact absurd (aah hz) (by rw[<- e];exact aax _)
   ·exact absurd (aah hI) (by rw[<- e];exact aax _)
   ·exact absurd (aah hO) (by rw[<- e];exact aax _)
   ·obtain⟨_,w,_⟩:=l1;exact absurd (aah w) (by rw[<- e];exact aax _)
   ·obtain⟨_,w,_⟩:=l2;exact absurd (aah w) (by rw[<- e];exact aax _)
 ·intro X hP hw hK hc i pins s σ H E I hf st hg;subst hP hw hK;obtain⟨xs,ys,q1,q2,hl⟩:=hg;obtain⟨hz,hI,⟨x0,y0,hO⟩,l1,l2⟩:=st;obtain⟨aK,rv,p,_⟩:=I.list q1;obtain⟨its',Bj,p',_⟩:=I.list q2;have e1:=rv.length;have e2:=Bj.length;refine wpAny_pyNext_zip_end (I.ok.hd hc) (apart hz hI hO l1 l2 p.isList p'.isList) hz hI hO l1 l2 p.isList p'.isList (by simp;left) λh1 k1=>⟨rfl,yu (t':=s.toks) I hf λc o hc e=>?_⟩
  simp only[List.mem_cons,List.not_mem_nil,or_false,not_or]at hc;exact k1 c o hc.1 hc.2.2.1 hc.2.2.2.1 hc.2.2.2.2 e
variable {ta:TA}
theorem K3{tp p:Pos}(hg:Gl X "zip")(hm:X.mg "zip" = none)(ha:PA X [e1,e2] ta)(hs:∀es,starEach (e1::es) X.env=(false,eval e1 X.env)::starEach es X.env)(Oc:∀es,starEach (e2::es) X.env=(false,eval e2 X.env)::starEach es X.env):
  PI X (.Tuple elts n1 tp) (.Call (.Name "zip" p) [e1,e2] [] pos) (λσ H R=>ta σ H λvs H1=>∃a b,vs=[.ref a,.ref b]/\(∃xs,dH X.K H1 a xs)/\(∃ys,dH X.K H1 b ys)/\R (Ye X.K a b) H1):=by
 intro pins s σ H R I h;refine Call_ (eK I hg hm boot_zip (aaw (dg (ha pos pins s σ H _ I h) λus s1 bR=>?_) (hs _) (by rw[Oc];rfl)));obtain⟨vs,H1,I1,r1,q1⟩:=bR;obtain⟨a,b,e,⟨xs,q1⟩,⟨ys,q2⟩,q⟩:=q1;subst e;obtain⟨u,v,rfl,ru,rv⟩:=vals2 r1;cases ru;cases rv;obtain⟨aK,_,p1,_⟩:=I1.list q1;obtain⟨its',_,p2,_⟩:=I1.list q2;refine call_zip_2 p1.isList p2.isList λh' z t o l1 l2 sz k=>wpAny_pyIter_zip z ?_;refine⟨s1.heap.objs.size+4,[s1.heap.objs.size+4,s1.heap.objs.size+2,s1.heap.objs.size+3,s1.heap.objs.size,s1.heap.objs.size+1],_,_,H1,rfl,I1.kept (t':=s1.toks) k,BG (aan (aa5 _)) (aan (aa5 _)),⟨z,t,⟨_,_,o⟩,l1,l2⟩,λb hb=>?_,q⟩;have jQ:s1.heap.objs.size<=b:=by
  simp only[List.mem_cons,List.not_mem_nil,or_false]at hb;rcases hb with rfl|rfl|rfl|rfl|rfl<;>first|exact Nat.le_add_right .. |exact aak _
 exact I1.AV jQ (I1.cA.fresh jQ)
def js(sc:Scope)(bl:ao)(e:Expr):Option (aC):=match eE e with
 |some z=>match two z.2 with
  |some _=>if z.1=("zip" : Str)/\fV sc z.1=true/\z.1∈bl then some z.2 else none
  |none=>none
 |none=>none
theorem rV{sc:Scope}{bl:ao}{e:Expr}(h:js sc bl e=some args):∃p pos a b,e=.Call (.Name ("zip" : Str) p) [a,b] [] pos/\args=[a,b]/\fV sc ("zip" : Str)=true/\("zip" : Str)∈bl:=by
 unfold js at h;cases hv:eE e with
 |none=>rw[hv]at h;exact nk h
 |some z =>
  obtain⟨x,as⟩:=z;rw[hv]at h;obtain⟨p,pos,rfl⟩:=cC hv;have h:(match two as with|some _=>if x=("zip" : Str)/\fV sc x=true/\x∈bl then some as else none|none=>none)=some args:=h;cases hw:two as with
  |none=>rw[hw]at h;exact nk h
  |some w =>
   obtain⟨a,b⟩:=w;rw[hw]at h;have h:(if x=("zip" : Str)/\fV sc x=true/\x∈bl then some as else none)=some args:=h;obtain rfl:=i9 hw;by_cases hc:x=("zip" : Str)/\fV sc x=true/\x∈bl
   ·rw[if_pos hc]at h;cases h;obtain⟨rfl,h1,h2⟩:=hc;exact⟨_,_,_,_,rfl,rfl,h1,h2⟩
   ·rw[if_neg hc]at h;cases h
theorem oX{a b:Expr}(h:mz X F Φ cs [a,b]):(∃c d,cs=[c,d]/\PE X a (tD X F Φ c)/\PE X b (tD X F Φ d))/\PA X [a,b] (uo X F Φ cs)/\(∀es,starEach (a::es) X.env=(false,eval a X.env)::starEach es X.env)/\(∀es,starEach (b::es) X.env=(false,eval b X.env)::starEach es X.env):=by
 match cs,h with
 |[c,d],h =>
  obtain⟨h1,h2,_,h3,h4,_,_⟩:=h;exact⟨⟨c,d,rfl,h1,h3⟩,PA.imp (cJ h1 (PA.imp (cJ h3 (PA.imp eJ λ_ _ _ h=>jI h) (h4 _)) λ_ _ _ h=>fP h) (h2 _)) λ_ _ _ h=>fP h,h2,h4⟩
 |[],h=>exact h.elim
 |[_],h=>exact h.2.2.2.elim
 |_::_::_::_,h=>exact h.2.2.2.2.2.2.elim
theorem Rep.UT{k:br}{v:V}{d:D}(e:aM H H')(h:Rep (aY K H) (nd K R (λ_=>False) (λ_=>none) H) k v d):Rep (aY K H') (nd K R (λ_=>False) (λ_=>none) H') k' v d :=
 (Rep.lZ h (k':=k')).imp (λ_ _ h=>aY.same e h) λ_ _ _ _ h=>nd.same e h
theorem FD{p q:Addr}{f g:Fl}{a b:aa}:JR K (Ye K p q) H2 [.ref p,.ref q] [.lst f a,.lst g b] (aF aW (List.zipWith (λx y=>.tup [x,y]) a b)):=by
 have len:(aF aW (List.zipWith (λx y=>D.tup [x,y]) a b)).length=min a.length b.length:=by rw[aX];simp
 have two:∀{H':Hp} {R':ak},aI (aY K H') (nd K R' (λ_=>False) (λ_=>none) H') [] 0 [.ref p,.ref q] (aF aW [.lst f a,.lst g b]) ->
   ∃xs ys,dH K H' p xs/\dH K H' q ys/\aI (aY K H') (nd K R' (λ_=>False) (λ_=>none) H') [0] 0 xs (aF aW a)/\aI (aY K H') (nd K R' (λ_=>False) (λ_=>none) H') [1] 0 ys (aF aW b):=by
  intro H' R' h;rw[aF,aS,aF,aS,aF]at h;cases h with
  |cons h t=>cases t with
   |cons h' t=>cases h with
    |lst h r=>cases h' with
     |lst h' r'=>exact⟨_,_,h.sq,h'.sq,r,r'⟩
 refine⟨λi H' R' _ h hi=>?_,λi H' R' x lK _ h hi hy=>?_,λi H' R' _ h hi=>?_⟩
 ·obtain⟨xs,ys,h1,h2,r1,r2⟩:=two h;rw[len]at hi;have l1:=r1.length;have l2:=r2.length;rw[aX,List.length_map]at l1 l2;exact⟨xs,ys,xs[i]'(by left),ys[i]'(by left),h1,h2,aam _,aam _⟩
 ·obtain⟨xs,ys,h1,h2,r1,r2⟩:=two h;obtain⟨T,u,v,g1,g2,hn,rfl,rfl⟩:=hy;obtain⟨d1,e1,p1⟩:=r1.tH (g1 xs h1);obtain⟨d2,e2,p2⟩:=r2.tH (g2 ys h2);have es:aM H' (upd H' T (.tup [u,v])):=aM.upd hn;refine⟨es,.tup [d1,d2],?_,.tup (aY.of bj) (.cons (p1.UT es) (.cons (p2.UT es) .nil))⟩;rw[aX,List.getElem?_map]at e1 e2 ⊢;obtain⟨c1,q1,rfl⟩:=Option.map_eq_some_iff.mp e1;obtain⟨c2,q2,rfl⟩:=Option.map_eq_some_iff.mp e2;rw[List.getElem?_zipWith,q1,q2];simp[aS,aF]
 ·obtain⟨xs,ys,h1,h2,r1,r2⟩:=two h;rw[len]at hi;have l1:=r1.length;have l2:=r2.length;rw[aX,List.length_map]at l1 l2;exact⟨xs,ys,h1,h2,by left⟩
theorem JY{n:Nat}(hΦ:Φ n=FC){sc:Scope}{bl:ao}{k:Nat}(L:PX X sc bl k){e:Expr}(he:js sc bl e=some args)(ht:gH tg=true)(hs:mz X F Φ cs args)
  {pins:aq} {s:Shared} {xs:aa} {d:D} (I:Inv X pins σ H s) (Si:SI X F R τ ρ σ H) (cn:cf Φ cs ρ=ok xs) (ed:Φ n xs=ok d) (ei:m9 d=ok items) (Rr:It->Hp->Prop)
  (hR:∀J H2 vs,aM H H2->cF X.K (gP X F) R τ (dF cs) H H2 vs xs->JR X.K J H2 vs xs items->Rr J H2) :
  wpAny (model X.prog X.w) X.A (eval e X.env) (λv s1=>wpAny (model X.prog X.w) X.A (pyIter v) (Bt X pins σ tg Rr) X.xe s1) X.xe s:=by
 obtain⟨p,pos,a,b,rfl,rfl,h1,h2⟩:=rV he;cases tg<;>try (cases ht;done)
 obtain⟨_,pa,s1,s2⟩:=oX hs;refine K3 (L.gl h1) (L.bl _ h2) pa s1 s2 pins s σ H Rr I ⟨R,τ,ρ,xs,Si,cn,λvs H1 e1 rv=>?_⟩;have Vp:=rv;obtain⟨τt,fr,rs⟩:=rv;rw[hΦ]at ed;unfold FC at ed;split at ed
 ·cases ed;cases ei;obtain⟨v,w,rfl,rx,ry⟩:=rs.two;cases rx with
  |lst hx _=>cases ry with
   |lst hy _=>exact⟨_,_,rfl,⟨_,hx.sq⟩,⟨_,hy.sq⟩,hR _ H1 _ e1 Vp FD⟩
 ·cases ed
section
variable {X:Cx}
end
def fg(f:Str)(sc:Scope)(bl:ao)(e:Expr):Option (aC):=match eE e with
 |some z=>match one z.2 with
  |some _=>if z.1=f/\fV sc z.1=true/\z.1∈bl then some z.2 else none
  |none=>none
 |none=>none
theorem hZ{f:Str}{sc:Scope}{bl:ao}{e:Expr}(h:fg f sc bl e=some args):∃p pos a,e=.Call (.Name f p) [a] [] pos/\args=[a]/\fV sc f=true/\f∈bl:=by
 unfold fg at h;cases hv:eE e with
 |none=>rw[hv]at h;exact nk h
 |some z =>
  obtain⟨x,as⟩:=z;rw[hv]at h;obtain⟨p,pos,rfl⟩:=cC hv;have h:(match one as with|some _=>if x=f/\fV sc x=true/\x∈bl then some as else none|none=>none)=some args:=h;cases hw:one as with
  |none=>rw[hw]at h;exact nk h
  |some a =>
   rw[hw]at h;have h:(if x=f/\fV sc x=true/\x∈bl then some as else none)=some args:=h;obtain rfl:=bS hw;by_cases hc:x=f/\fV sc x=true/\x∈bl
   ·rw[if_pos hc]at h;cases h;obtain⟨rfl,h1,h2⟩:=hc;exact⟨_,_,_,rfl,rfl,h1,h2⟩
   ·rw[if_neg hc]at h;cases h
theorem A_:bootBuiltins "enumerate" = some (.type "enumerate"):=by decide +kernel
noncomputable def bN(k:Nat):aa->aa
 |[]=>[]
 |x::xs=>.tup [.int k,x]::bN (k+1) xs
theorem lp:∀(a:aa) (k i:Nat),(bN k a)[i]?=(a[i]?).map λx=>.tup [.int ((k+i:Nat):Int),x]
 |[],k,i=>by simp[bN]
 |x::xs,k,0=>by simp[bN]
 |x::xs,k,i+1=>by
  rw[bN,List.getElem?_cons_succ,List.getElem?_cons_succ,lp xs (k+1) i,show k+1+i=k+(i+1) by left]
theorem ll:∀(a:aa) (k:Nat),(bN k a).length=a.length
 |[],k=>rfl
 |x::xs,k=>by rw[bN,List.length_cons,List.length_cons,ll xs]
theorem yP{a:Expr}(h:mz X F Φ cs [a]):PA X [a] (uo X F Φ cs)/\(∀es,starEach (a::es) X.env=(false,eval a X.env)::starEach es X.env):=by
 match cs,h with
 |[c],h =>
  obtain⟨h1,h2,_,_⟩:=h;exact⟨PA.imp (cJ h1 (PA.imp eJ λ_ _ _ h=>jI h) (h2 _)) λ_ _ _ h=>fP h,h2⟩
 |[],h=>exact h.elim
 |_::_::_,h=>exact h.2.2.2.elim
section
variable {prog:aE}{w:World}{A:aJ}{E:aB}{s:Shared}
def uh(h:Heap)(vs:av)(nss:aA):Prop:=vs.length=nss.length/\∀(i:Nat) (ns:ae),nss[i]?=some ns->∃t aK,vs[i]?=some (.ref t)/\IsTup h t aK.toArray/\IntsAre aK ns/\ns≠[]
theorem vh{fin:Bool}{Q:Bool->Shared->Prop}:∀{aK Dk:av} {ns ms:ae} (i:Nat),IntsAre aK ns->IntsAre Dk ms->fin=decide (aK.length<Dk.length)->Q (HT.lexLt ns ms) s->PySem.W.KatLex prog w A true fin Q (aK.zip Dk) i s
 |_,_,_,_,i,.nil,.nil,hf,h=>by subst hf;exact h
 |_,_,_,_,i,.nil,.cons _ _ _,hf,h=>by subst hf;exact h
 |_,_,_,_,i,.cons _ _ _,.nil,hf,h=>by subst hf;exact h
 |_,_,_,_,i,.cons (ns:=ns) a t h1,.cons (ns:=ms) b u h2,hf,h=>by
  rw[HT.dP]at h;refine PySem.W.kat_cons (wpAny_eqBool_int (PySem.W.kat_go (λe=>?_) λe=>?_))
  ·have e:a=b:=by simpa using e
   rw[if_pos e]at h;exact PySem.W.kat_yes (vh (i+1) h1 h2 (by rw[hf];simp) h)
  ·have e:¬ a=b:=by simpa using e
   rw[if_neg e]at h;refine PySem.W.kat_no ?_;rw[Bool.true_and];cases i==0 with
   |true=>exact oneLt_int h
   |false=>exact PySem.W.kat_one _ _ (lt_int h)
theorem uh.mono{h:Heap}{vs:av}{nss:aA}(k:∀b o,h.get? b=some o->h'.get? b=some o)(t:uh h vs nss):uh h' vs nss :=
 ⟨t.1,λi ns e=>let ⟨a,aK,e1,⟨o,ho,r⟩,e3⟩:=t.2 i ns e;⟨a,aK,e1,⟨o,k _ _ ho,r⟩,e3⟩⟩
end
noncomputable def cP(ns:ae):D:=.tup (ns.map D.int)
theorem aI.SE{T:mV}{N:gj}{q:br}:∀{n:Nat} {vs ws:af} {ds es:aa},aI T N q n vs ds->aI T N q (n+ds.length) ws es->aI T N q n (vs++ws) (ds++es)
 |_,_,_,_,_,.nil,h=>h
 |n,_,_,_,_,.cons (ds:=ds) h t,h'=>.cons h (aI.SE t (by
   rw[List.length_cons,Nat.add_comm ds.length 1,<- Nat.add_assoc]at h';exact h'))
theorem F6{p a:Addr}{ys:af}{o:HO}(hp:H p=some (.lst xs))(h:aY K H a ys):aY K (upd H p o) a ys:=by
 rcases h with (h|⟨o',h⟩)|h
 ·exact .inl (.inl (by rw[aV (λz=>by subst z;rw[hp]at h;cases h)];exact h))
 ·exact .inl (.inr ⟨o',by rw[aV (λz=>by subst z;rw[hp]at h;cases h)];exact h⟩)
 ·exact .inr h
theorem yT{n i:Nat}{xs:aa}{r:Fo×aZ}(ev:xh Φ n i (pb cs xs ρ)=ok r)(ha:aQ bZ xs=false):∃d d',ρ[i]?=some (some d)/\Φ n (d::xs)=ok d'/\r=(.nx,ρ.set i (some d')):=by
 unfold pb at ev;rw[if_neg (by rw[ha];exact Bool.false_ne_true)]at ev;unfold xh at ev;split at ev
 ·rename_i d hd;obtain⟨d',h1,h2⟩:=aH ev;cases h2;exact⟨d,d',hd,h1,rfl⟩
 ·cases ev
theorem C2{n i:Nat}{xs:aa}{r:Fo×aZ}(ev:xh Φ n i (pb cs xs ρ)=ok r)(ha:aQ bZ xs=true):∃d d',Φ n (d::aF aW xs)=ok d':=by
 unfold pb at ev;rw[if_pos ha]at ev;unfold xh at ev;split at ev
 ·rename_i d hd;obtain⟨d',h1,h2⟩:=aH ev;exact⟨d,d',h1⟩
 ·cases ev
def Le:D->Option (aa)
 |.lst f ds=>if d_ f then some ds else none
 |_=>none
theorem CM{d:D}(h:Le d=some ds):d=.lst .ow ds:=by
 cases d<;>first|exact nk h | (cases h;done)|skip
 rename_i f es;have h:(if d_ f then some es else none)=some ds:=h;cases f<;>first | (cases h;rfl) | (cases h;done)
def xJ(xs:aa):O D:=match two xs with
 |some z=>match Le z.1 with
  |some ds=>match Le z.2 with
   |some es=>if aQ anyF es=false/\ds.length+es.length<=eH then ok (.lst .ow (ds++es))else none
   |none=>none
  |none=>none
 |none=>none
theorem zo{x y d:D}(h:xJ [x,y]=ok d):∃ds es,x=.lst .ow ds/\y=.lst .ow es/\aQ anyF es=false/\ds.length+es.length<=eH/\d=.lst .ow (ds++es):=by
 have h:(match Le x with|some ds=>(match Le y with|some es=>if aQ anyF es=false/\ds.length+es.length<=eH then ok (.lst .ow (ds++es))else none|none=>none)|none=>none)=ok d:=h;cases h1:Le x with
 |none=>rw[h1]at h;exact nk h
 |some ds=>cases h2:Le y with
  |none=>rw[h1,h2]at h;cases h
  |some es =>
   rw[h1,h2]at h;obtain⟨⟨h3,h4⟩,h5⟩:=qk h;exact⟨ds,es,CM h1,CM h2,h3,h4,h5.symm⟩
def mI(m:Str)(st:Stmt):Option (Expr×aC):=match OW st with
 |some c=>match so c with
  |some z=>match yt z.1 with
   |some y=>if y.2.1=m/\z.2.2.1=[]/\(y.2.2.endLine==z.2.2.2.line)=true then some (y.1,z.2.1)else none
   |none=>none
  |none=>none
 |none=>none
theorem oB{m:Str}{o:Expr}(h:mI m st=some (o,as)):∃p1 p2 pos,st=.Expr (.Call (.Attribute o m p1) as [] p2) pos/\(p1.endLine==p2.line)=true:=by
 unfold mI at h;cases h1:OW st with
 |none=>rw[h1]at h;exact nk h
 |some c =>
  obtain⟨pos,rfl⟩:=oD h1;rw[h1]at h;cases h2:so c with
  |none=>simp only[h2]at h;cases h
  |some z =>
   obtain⟨f,NL,ks,p2⟩:=z;obtain rfl:=qO h2;simp only[h2]at h;cases h3:yt f with
   |none=>simp only[h3]at h;cases h
   |some y =>
    obtain⟨o',a,p1⟩:=y;obtain rfl:=uw h3;simp only[h3]at h;by_cases hc:a=m/\ks=[]/\(p1.endLine==p2.line)=true
    ·rw[if_pos hc]at h;cases h;obtain⟨rfl,rfl,hl⟩:=hc;exact⟨p1,p2,pos,rfl,hl⟩
    ·rw[if_neg hc]at h;cases h
def xX(_:Scope)(_:ao)(st:Stmt):Option (Expr×aC):=match mI ("extend" : Str) st with
 |some z=>match one z.2 with
  |some _=>some z
  |none=>none
 |none=>none
theorem M9{n:Nat}(hΦ:Φ n=xJ){sc:Scope}{bl:ao}{k:Nat}(L:PX X sc bl k)(hN:X.N.Nodup)(wq:∀x,X.fn x=true){x:Str}(he:xX sc bl st=some (.Name x pos,args))
  {i:Nat} (hi:X.N[i]?=some x) (hl:L2.Loc X.env.scope x) (pe:PE X (.Name x pos) (wL i)) (hs:mz X F Φ cs args):PS X st (qT X F Φ (.mut n i cs)):=by
 unfold xX at he;cases h1:mI ("extend" : Str) st with
 |none=>rw[h1]at he;exact nk he
 |some z =>
  rw[h1]at he;obtain⟨o,as⟩:=z;cases h2:one as with
  |none=>simp only[h2]at he;cases he
  |some v =>
   simp only[h2]at he;cases he;obtain rfl:=bS h2;obtain⟨p1,p2,pos',rfl,DE⟩:=oB h1;cases cs with
   |nil=>exact hs.elim
   |cons c cs=>cases cs with
    |cons _ _=>exact hs.2.2.2.elim
    |nil =>
     refine PS.imp (nN (CG abE PySem.F.slot_list_extend PySem.F.type_list_extend Aw pe (cJ hs.1 eJ (hs.2.1 _)) (hfew:=by rw[hs.2.1];rfl) (hline:=DE) (hs:=hs.2.1 _))) λD σ H hq=>?_;obtain⟨R,τ,ρ,r,Si,ev,hq⟩:=hq;obtain⟨xs,cn,ev⟩:=aH ev;obtain⟨y,ey,cn⟩:=aH cn;cases cn;have key:∃ds es,y=.lst .ow es/\ρ[i]?=some (some (.lst .ow ds))/\aQ anyF es=false/\ds.length+es.length<=eH/\r=(.nx,ρ.set i (some (.lst .ow (ds++es)))):=by
      cases hz:aQ bZ [y]with
      |true =>
       obtain⟨d,d',h⟩:=C2 ev hz;rw[hΦ]at h;obtain⟨ds,es,_,h3,_⟩:=zo h;cases y<;>first|exact nk h3 | (cases h3;done)|skip
       rename_i f Oy;cases f<;>cases h3
      |false =>
       obtain⟨d,d',h,h',rfl⟩:=yT ev hz;rw[hΦ]at h';obtain⟨ds,es,rfl,rfl,h3,h4,rfl⟩:=zo h';exact⟨ds,es,rfl,h,h3,h4,rfl⟩
     obtain⟨ds,es,rfl,ho,hf,hc,rfl⟩:=key;obtain⟨a,xs,hv,ha,hxl,hta,_⟩:=Si.own ho;refine⟨.ref a,hv,.inl ⟨rfl,_,dH.of ha⟩,tD.intro Si ey λu H1 e1 ru=>?_⟩;have yi:=Si.go e1;obtain⟨a1,UI,L9,JA,Wm,Dy,E_⟩:=yi.own ho;rw[hv]at L9;cases L9;obtain⟨τt,fr,rp⟩:=ru;obtain⟨b,zs,rfl,hb,rz⟩:=rp.wA;have hz:sizeLine=16777216:=abf;have pq:eH=1000000:=rfl;have hzl:=rz.length;refine⟨a,b,UI,zs,rfl,rfl,JA,hb.1,by left,?_⟩;obtain⟨τ2,Bc⟩:=yi.put (m:=0) (g:=λys=>ys++zs) (v:=.int 0) (d:=.int 0) ho hv JA Dy E_ ⟨λ_=>none,λ_ _ h=>by simp at h,.int 0⟩ λrs _=>aI.SE rs (rz.without (P:=anyF) (λ_ _ h=>F6 JA h) (λ_ _ _ _ _ h=>by cases h) hf _ _);exact hq σ _ R τ2 Bc (xr (n:=.l _) yi e1 (λ_ h=>h) JA Dy)
section
variable {X:Cx}{F R:ak}{τ:Addr->Option br}{ρ:aZ}{σ:St}{H:Hp}
end
section
variable {prog:aE}{w:World}{A:aJ}{E:aB}{s:Shared}
theorem ux{l:Addr}:∀{s:Shared} {i:Nat} {Q E:aB},s.heap.IsTupleIter it l i->(∀o,s.heap.get? it=some o->o.cls=.type "tuple_iterator" -> o.data=.fields #[.ref l,.int i 0]->wpAny (model prog w) A.in1 (Builtin.«tuple_iterator.__next__» ⟨[.ref it],[]⟩) (λfin s'=>∃v,fin=.done (.ret v)/\Q v s') E s)->wpAny (model prog w) A (Builtin.SmallTypes.nextOf (.ref it)) Q E s:=by
 intro s i Q E hit h;obtain⟨o,ho,hc,hd⟩:=id hit;unfold Builtin.SmallTypes.nextOf;exact aab (aaO (name:=Str.ofString "__next__") hit.typeIs F.slot_tuple_iterator_next (aaH F.slot_tuple_iterator_next hit.typeIs F.entry_tuple_iterator_next (aav (h o ho hc hd) (λfin s' ⟨v,e,q⟩=>⟨v,e,aaf q⟩) λ_ _ e=>e) (F.args_tuple_iterator_next_1 _)))
def Ends(prog:aE)(w:World)(A:aJ)(it:Addr)(S:Heap->Prop):Prop:=∀(s:Shared) (Q E:aB),S s.heap->(∀h' e,Heap.ExtBut it s.heap h'->(∃o,h'.get? e=some o/\o.cls=.type "StopIteration")->E (.ref e) { s with heap:=h' })->wpAny (model prog w) A (Builtin.SmallTypes.nextOf (.ref it)) Q E s
theorem qQ(hh:A.handled=none){l:Addr}{items:aP}{i:Nat}(hi:items[i]?=none):Ends prog w A it (λh=>h.IsTupleIter it l i/\h.IsTuple l items):=by
 intro s Q E st hE;refine ux st.1 λo ho hc hd=>?_;obtain⟨ol,Wx,_,nl,Om⟩:=id st.2;show wpAny _ _ (field (.ref it) 0 >>= _) _ _ _;refine aab (aaP ho hd (x:=.ref l) rfl ?_);rw[if_neg (show ¬ (Value.ref l==Value.none)=true from Bool.false_ne_true)];refine aab (aaP ho hd (x:=.int i 0) rfl (aab (abx Wx Om ?_)));simp only[Int.toNat_natCast,hi];refine aab (wpAny_rule (aab (ab7 ho hd (by simp) ?_)));show wpAny _ _ (newExc (.type "StopIteration") [] >>= _) _ _ _;refine aab ?_;simp only[newExc,newTuple];refine aab (aaE (aab (m:=firstArgMember _ _) (wpAny_of_eq (a:=Value.none) (by first|rfl | (simp only[firstArgMember];rfl)) (aaE ?_ (by size_fits)))) (by size_fits));simp only[raiseNew];refine aab (wpAny_handled ?_);rw[show A.in1.in1.handled=none from hh];exact aab (aaf (wpAny_throw (hE _ _ (((aa9 ..).extBut.push _).push _) ⟨_,aao _ rfl,rfl⟩)))
theorem vM(hh:A.handled=none)(it l:Addr)(uq:l≠it)(items:aP):Draws prog w A it [it,l] items.size (λi v=>items[i]?=some v) (λi h=>h.IsTupleIter it l i/\h.IsTuple l items):=by
 refine⟨λ_ _ st=>let ⟨o,ho,_⟩:=st.1;⟨o,ho⟩,λ_ _ _ st hk=>?_,λi s Q E hi st hQ=>?_,λs Q E st hE=>?_⟩
 ·obtain⟨⟨o,ho,r⟩,o',gg,r'⟩:=st;exact⟨⟨o,hk it (by simp) o ho,r⟩,o',hk l (by simp) o' gg,r'⟩
 ·refine ux st.1 λo ho hc hd=>?_;obtain⟨ol,Wx,_,nl,Om⟩:=id st.2;show wpAny _ _ (field (.ref it) 0 >>= _) _ _ _;refine aab (aaP ho hd (x:=.ref l) rfl ?_);rw[if_neg (show ¬ (Value.ref l==Value.none)=true from Bool.false_ne_true)];refine aab (aaP ho hd (x:=.int i 0) rfl (aab (abx Wx Om ?_)));simp only[Int.toNat_natCast,show items[i]?=some items[i] by simp[hi]];refine aab (ab7 ho hd (by simp) (aaf ⟨_,rfl,hQ _ _ s.toks (by simp[hi]) ⟨?_,st.2.extBut (aa9 ..).extBut uq⟩ (aa9 ..)⟩));exact⟨_,aaW _ ho (Obj.isFreed_of_fields (Obj.data_mapFields hd _)),(Obj.cls_mapFields ..).trans hc,by rw[Obj.data_mapFields hd];simp[rawInt]⟩
 ·exact qQ hh (by simp) s Q E st hE
structure Yo(z TI TO i1 i2:Addr)(f1 f2:aR):Prop where
 n1:TI≠z/\TO≠z/\i1≠z/\i2≠z
 n2:TI≠TO/\TI≠i1/\TI≠i2/\TO≠i1/\TO≠i2/\i1≠i2
 f1:z∉f1/\TO∉f1/\i2∉f1
 f2:z∉f2/\TO∉f2/\i1∉f2
section
variable {z TI TO i1 i2:Addr}{f1 f2:aR}{n1 n2 k:Nat}{P1 P2:Nat->Value->Prop}{S1 S2:Nat->Heap->Prop}{a b:Value}
end
end
noncomputable abbrev ug(h:Heap)(z TI TO a:Addr)(f:Bool):Prop :=
 h.get? z=some { cls:=.type "zip",dict:=none,data:=.fields #[rawInt a,.bool f,.bool false,.ref TI,.ref TO],slots:=#[] }
variable {ys:aP}
section
variable {prog:aE}{w:World}{A:aJ}{E:aB}{s:Shared}
theorem Bx{a:Addr}{Q:Option Obj->Shared->Prop}(ho:s.heap.get? a=some o)(h:Q (some o) s):wpAny (model prog w) A (loadIfAlive a) Q E s:=by
 have h':Q (s.heap.get? a) s:=by rw[ho];exact h
 exact λ_ _ _=>h'
theorem yo{z TI TO a:Addr}{f:Bool}{Q:Bool->Shared->Prop}(hz:ug s.heap z TI TO a f)(ha:s.heap.get? a=some oa)(hQ:∀h',ug h' z TI TO a true->Heap.SameBut z s.heap h'->Q false { s with heap:=h' }):
  wpAny (model prog w) A (Builtin.SmallTypes.ownedTupleIsFree (.ref z)) Q E s:=by
 unfold Builtin.SmallTypes.ownedTupleIsFree;refine aab (aaP hz rfl (x:=rawInt a) rfl ?_);show wpAny _ _ (loadIfAlive ((a:Int).toNat) >>= _) _ _ _;rw[Int.toNat_natCast];refine aab (Bx ha ?_);simp only[Option.isNone_some,Bool.false_eq_true,if_false];refine aab (aaP hz rfl (x:=.bool f) rfl ?_);cases f with
 |true =>
  rw[if_neg (show ¬ ((Value.bool true != Value.bool true)=true) from Bool.false_ne_true)];exact aaf (hQ s.heap hz (Heap.SameBut.refl _ _))
 |false =>
  rw[if_pos (show(Value.bool false != Value.bool true)=true from rfl)];exact aab (wpAny_setField_rec hz (by simp) λh₃ Rg mP=>aaf (hQ h₃ Rg mP))
theorem ur{z TI TO a:Addr}{f:Bool}{xs:aP}{x y:Value}{Q:aB}(D:ZipApart z TI TO i1 i2 l1 l2)
  (hz:ug s.heap z TI TO a f) (ha:s.heap.get? a=some oa) (Fn:IsPair s.heap TI (.ref i1) (.ref i2))
  (h1:s.heap.IsListIter i1 l1 k1) (h2:s.heap.IsListIter i2 l2 k2) (Ff:s.heap.IsList l1 xs) (DG:s.heap.IsList l2 ys) (hx:xs[k1]?=some x) (hy:ys[k2]?=some y)
  (hQ:∀h',ug h' z TI TO a true->h'.IsListIter i1 l1 (k1+1)->h'.IsListIter i2 l2 (k2+1)->IsPair h' s.heap.objs.size x y->h'.objs.size=s.heap.objs.size+1 ->
   (∀c o,c≠z->c≠i1->c≠i2->s.heap.get? c=some o->h'.get? c=some o)->Q (.ref s.heap.objs.size) { s with heap:=h' }) :
  wpAny (model prog w) A (Builtin.«zip.__next__» ⟨[.ref z],[]⟩) (λfin s'=>∃v,fin=.done (.ret v)/\Q v s') E s:=by
 show wpAny _ _ (field (.ref z) 2 >>= _) _ _ _;refine aab (aaP hz rfl (x:=.bool false) rfl ?_);show wpAny _ _ (field (.ref z) 3 >>= _) _ _ _;refine aab (aaP hz rfl (x:=.ref TI) rfl ?_);refine aab (abx Fn rfl ?_);show wpAny _ _ (Builtin.SmallTypes.ownedTupleIsFree (.ref z) >>= _) _ _ _;refine aab (yo hz ha λh₁ Ju fU=>?_);simp only[Bool.false_eq_true,if_false];refine aab ?_;rw[<- Array.forIn_toList];simp only[List.forIn_cons,List.forIn_nil];refine aab (aab (aaF ?_));show wpAny _ _ (Builtin.SmallTypes.nextOf (.ref i1) >>= _) _ _ _;refine aab (abI (h1.extBut fU.extBut D.i1z) (Ff.extBut fU.extBut D.l1z) hx λh₂ JB jm=>aaf ?_);refine aaf ?_;refine aab (aab (aaF ?_));show wpAny _ _ (Builtin.SmallTypes.nextOf (.ref i2) >>= _) _ _ _;refine aab (abI ((h2.extBut fU.extBut D.i2z).extBut jm.extBut D.i12.symm) ((DG.extBut fU.extBut D.l2z).extBut jm.extBut D.l2i1) hy λh₃ RC mP=>aaf ?_);refine aaf ?_;refine aaf ?_;have hsz:h₃.objs.size=s.heap.objs.size:=by rw[mP.1,jm.1,fU.1]
 refine aab (wpAny_newTuple ?_ (by show 2<=_;rw[sizeLine_eq];decide));refine aaf ⟨_,rfl,?_⟩;show Q (.ref h₃.objs.size) _;have iR:∀{c o},h₃.get? c=some o->c≠h₃.objs.size:=λe=>aan (aah e);have hk:∀c o,c≠z->c≠i1->c≠i2->s.heap.get? c=some o->(h₃.push { cls:=.type "tuple",data:=.seq #[x,y] }).get? c=some o:=λc o c1 c2 c3 e=>aag _ (mP.extBut _ _ c3 (jm.extBut _ _ c2 (fU.extBut _ _ c1 e)));rw[hsz];refine hQ _ (aag _ (mP.extBut _ _ D.i2z.symm (jm.extBut _ _ D.i1z.symm Ju))) ((JB.extBut mP.extBut D.i12).at λo e=>aag _ e) (RC.at λo e=>aag _ e) ?_ (by rw[Heap.size_push,hsz]) hk;rw[<- hsz];exact aao _ rfl
theorem wy{z TI TO a:Addr}{f:Bool}{xs:aP}{Q:Fin->Shared->Prop}(hh:A.handled=none)(D:ZipApart z TI TO i1 i2 l1 l2)
  (hz:ug s.heap z TI TO a f) (ha:s.heap.get? a=some oa) (Fn:IsPair s.heap TI (.ref i1) (.ref i2))
  (h1:s.heap.IsListIter i1 l1 k1) (h2:s.heap.IsListIter i2 l2 k2) (Ff:s.heap.IsList l1 xs) (DG:s.heap.IsList l2 ys) (vy:xs[k1]?=none\/ys[k2]?=none)
  (hE:∀h' e,(∀c o,c≠z->c≠i1->c≠i2->s.heap.get? c=some o->h'.get? c=some o)->(∃o,h'.get? e=some o/\o.cls=.type "StopIteration")->E (.ref e) { s with heap:=h' }) :
  wpAny (model prog w) A (Builtin.«zip.__next__» ⟨[.ref z],[]⟩) Q E s:=by
 show wpAny _ _ (field (.ref z) 2 >>= _) _ _ _;refine aab (aaP hz rfl (x:=.bool false) rfl ?_);show wpAny _ _ (field (.ref z) 3 >>= _) _ _ _;refine aab (aaP hz rfl (x:=.ref TI) rfl ?_);refine aab (abx Fn rfl ?_);show wpAny _ _ (Builtin.SmallTypes.ownedTupleIsFree (.ref z) >>= _) _ _ _;refine aab (yo hz ha λh₁ Ju fU=>?_);simp only[Bool.false_eq_true,if_false];refine aab ?_;rw[<- Array.forIn_toList];simp only[List.forIn_cons,List.forIn_nil];refine aab (aab (aaF ?_));show wpAny _ _ (Builtin.SmallTypes.nextOf (.ref i1) >>= _) _ _ _;cases hx:xs[k1]? with
 |none =>
  refine aab (wpAny_nextOf_list_end hh (h1.extBut fU.extBut D.i1z) (Ff.extBut fU.extBut D.l1z) hx λh₂ e jm he=>?_);exact hE h₂ e (λc o c1 c2 c3 x=>jm _ _ c2 (fU.extBut _ _ c1 x)) he
 |some x =>
  have hy:ys[k2]?=none:=by rcases vy with h|h;rw[hx]at h;cases h;exact h
  refine aab (abI (h1.extBut fU.extBut D.i1z) (Ff.extBut fU.extBut D.l1z) hx λh₂ JB jm=>aaf ?_);refine aaf ?_;refine aab (aab (aaF ?_));show wpAny _ _ (Builtin.SmallTypes.nextOf (.ref i2) >>= _) _ _ _;refine aab (wpAny_nextOf_list_end hh ((h2.extBut fU.extBut D.i2z).extBut jm.extBut D.i12.symm) ((DG.extBut fU.extBut D.l2z).extBut jm.extBut D.l2i1) hy λh₃ e mP he=>?_);exact hE h₃ e (λc o c1 c2 c3 x=>mP _ _ c3 (jm.extBut _ _ c2 (fU.extBut _ _ c1 x))) he
theorem ou{z TI TO a:Addr}{f:Bool}{xs:aP}{x y:Value}{Q:Option Value->Shared->Prop}(D:ZipApart z TI TO i1 i2 l1 l2)
  (hz:ug s.heap z TI TO a f) (ha:s.heap.get? a=some oa) (Fn:IsPair s.heap TI (.ref i1) (.ref i2))
  (h1:s.heap.IsListIter i1 l1 k1) (h2:s.heap.IsListIter i2 l2 k2) (Ff:s.heap.IsList l1 xs) (DG:s.heap.IsList l2 ys) (hx:xs[k1]?=some x) (hy:ys[k2]?=some y)
  (hQ:∀h',ug h' z TI TO a true->h'.IsListIter i1 l1 (k1+1)->h'.IsListIter i2 l2 (k2+1)->IsPair h' s.heap.objs.size x y->h'.objs.size=s.heap.objs.size+1 ->
   (∀c o,c≠z->c≠i1->c≠i2->s.heap.get? c=some o->h'.get? c=some o)->Q (some (.ref s.heap.objs.size)) { s with heap:=h' }) :
  wpAny (model prog w) A (pyNext (.ref z)) Q E s:=by
 have hT:s.TypeIs (.ref z) "zip":=⟨_,hz,rfl⟩
 unfold pyNext;exact aab (abL (aaO (name:=Str.ofString "__next__") hT abh
  (aaH abh hT PySem.F.entry_zip_next
   (ur D hz ha Fn h1 h2 Ff DG hx hy λh' a1 a2 a3 a4 a5 a6=>aaf (hQ h' a1 a2 a3 a4 a5 a6)) (PySem.F.args_zip_next_1 _))))
theorem qo{z TI TO a:Addr}{f:Bool}{xs:aP}{Q:Option Value->Shared->Prop}(hh:A.handled=none)(D:ZipApart z TI TO i1 i2 l1 l2)
  (hz:ug s.heap z TI TO a f) (ha:s.heap.get? a=some oa) (Fn:IsPair s.heap TI (.ref i1) (.ref i2))
  (h1:s.heap.IsListIter i1 l1 k1) (h2:s.heap.IsListIter i2 l2 k2) (Ff:s.heap.IsList l1 xs) (DG:s.heap.IsList l2 ys) (vy:xs[k1]?=none\/ys[k2]?=none)
  (hQ:∀h',(∀c o,c≠z->c≠i1->c≠i2->s.heap.get? c=some o->h'.get? c=some o)->Q none { s with heap:=h' }):wpAny (model prog w) A (pyNext (.ref z)) Q E s:=by
 have hT:s.TypeIs (.ref z) "zip":=⟨_,hz,rfl⟩
 unfold pyNext;refine aab (abL (aaO (name:=Str.ofString "__next__") hT abh
  (aaH abh hT PySem.F.entry_zip_next (wy hh D hz ha Fn h1 h2 Ff DG vy λh' e hk he=>?_) (PySem.F.args_zip_next_1 _))))
 obtain⟨o,ho,hc⟩:=he;refine aab (wpAny_isInstance (T:="StopIteration") (b:=true) ⟨o,ho,hc⟩ isSubtype_stop ?_);exact aaf (hQ _ hk)
end
theorem JX:typeLookup (.type "zip") "__len__" = pure none:=by rw[typeLookup_type,builtinLookup_eq_fast];kernel_rfl
theorem OL:typeLookup (.type "zip") "__length_hint__" = pure none:=by rw[typeLookup_type,builtinLookup_eq_fast];kernel_rfl
section
variable {prog:aE}{w:World}{A:aJ}{E:aB}{s:Shared}
theorem Fy{z:Addr}(hT:s.TypeIs (.ref z) "zip"){Q:Bool->Shared->Prop}(h:Q true s):wpAny (model prog w) A (Builtin.List.listLengthHint (.ref z)) Q E s:=by
 unfold Builtin.List.listLengthHint;refine aab (wpAny_specialOf hT JX ?_);refine wpAny_ite_split (λnv=>absurd nv (by decide)) (λ_=>?_);refine wpAny_ite_split (λnv=>absurd nv (by decide)) (λ_=>?_);refine aab (wpAny_specialOf hT OL ?_);exact aaf h
end
structure Zl(h:Heap)(z TI TO i1 i2 l1 l2 S:Addr)(xs ys:aP)(i:Nat):Prop where
 st:(IsZip h z TI TO .none/\∃a b,IsPair h TO a b)\/∃a f oa,ug h z TI TO a f/\h.get? a=some oa/\S<a
 ti:IsPair h TI (.ref i1) (.ref i2)
 w1:h.IsListIter i1 l1 i
 w2:h.IsListIter i2 l2 i
 q1:h.IsList l1 xs
 q2:h.IsList l2 ys
structure Below(z TI TO i1 i2 l1 l2 S:Addr):Prop where
 D:ZipApart z TI TO i1 i2 l1 l2
 z:z<S
 TI:TI<S
 TO:TO<S
 i1:i1<S
 i2:i2<S
 l1:l1<S
 l2:l2<S
section
variable {prog:aE}{w:World}{A:aJ}{E:aB}{s:Shared}{z TI TO i1 i2 l1 l2 S:Addr}{xs ys:aP}{i:Nat}
theorem Zl.keep{h:Heap}(B:Below z TI TO i1 i2 l1 l2 S)(Z:Zl h z TI TO i1 i2 l1 l2 S xs ys i)(hk:∀b o,b≠S->h.get? b=some o->h'.get? b=some o):Zl h' z TI TO i1 i2 l1 l2 S xs ys i:=by
 have n:∀{b},b<S->b≠S:=λh=>aan h;refine⟨?_,hk _ _ (n B.TI) Z.ti,Z.w1.at λo e=>hk _ o (n B.i1) e,Z.w2.at λo e=>hk _ o (n B.i2) e,Z.q1.at λo e=>hk _ o (n B.l1) e,Z.q2.at λo e=>hk _ o (n B.l2) e⟩;rcases Z.st with ⟨h1,a,b,h2⟩|⟨a,f,oa,h1,h2,h3⟩
 ·exact .inl ⟨hk _ _ (n B.z) h1,a,b,hk _ _ (n B.TO) h2⟩
 ·exact .inr ⟨a,f,oa,hk _ _ (n B.z) h1,hk _ _ (aau h3) h2,h3⟩
theorem Fw{x y:Value}{Q:Option Value->Shared->Prop}(B:Below z TI TO i1 i2 l1 l2 S)(Z:Zl s.heap z TI TO i1 i2 l1 l2 S xs ys i)(hS:S<s.heap.objs.size)(hx:xs[i]?=some x)(hy:ys[i]?=some y)
  (hQ:∀h',Zl h' z TI TO i1 i2 l1 l2 S xs ys (i+1)->IsPair h' s.heap.objs.size x y->h'.objs.size=s.heap.objs.size+1->(∀c o,c≠z->c≠TO->c≠i1->c≠i2->s.heap.get? c=some o->h'.get? c=some o)->Q (some (.ref s.heap.objs.size)) { s with heap:=h' }) :
  wpAny (model prog w) A (pyNext (.ref z)) Q E s:=by
 have D:=B.D;rcases Z.st with ⟨hz,a,b,Ou⟩|⟨a,f,oa,hz,ha,hSa⟩
 ·refine wpAny_pyNext_zip_item D hz Z.ti Ou Z.w1 Z.w2 Z.q1 Z.q2 hx hy λh' z1 o1 a1 b1 t1 Pf k1=>hQ h' ?_ t1 Pf k1;exact⟨.inr ⟨s.heap.objs.size,false,_,z1,t1,hS⟩,k1 _ _ D.TIz D.TITO D.TIi1 D.TIi2 Z.ti,a1,b1,Z.q1.at λo e=>k1 _ o D.l1z D.l1TO D.l1i1 D.l1i2 e,Z.q2.at λo e=>k1 _ o D.l2z D.l2TO D.l2i1 D.l2i2 e⟩
 ·refine ou D hz ha Z.ti Z.w1 Z.w2 Z.q1 Z.q2 hx hy λh' z1 a1 b1 t1 Pf k1=>hQ h' ?_ t1 Pf λc o c1 _ c3 c4 e=>k1 c o c1 c3 c4 e;have n:∀{b},b<S->a≠b:=λh=>aau (abv h hSa);exact⟨.inr ⟨a,true,oa,z1,k1 _ _ (n B.z) (n B.i1) (n B.i2) ha,hSa⟩,k1 _ _ D.TIz D.TIi1 D.TIi2 Z.ti,a1,b1,Z.q1.at λo e=>k1 _ o D.l1z D.l1i1 D.l1i2 e,Z.q2.at λo e=>k1 _ o D.l2z D.l2i1 D.l2i2 e⟩
theorem Fz{Q:Option Value->Shared->Prop}(hh:A.handled=none)(B:Below z TI TO i1 i2 l1 l2 S)(Z:Zl s.heap z TI TO i1 i2 l1 l2 S xs ys i)(vy:xs[i]?=none\/ys[i]?=none)
  (hQ:∀h',(∀c o,c≠z->c≠TO->c≠i1->c≠i2->s.heap.get? c=some o->h'.get? c=some o)->Q none { s with heap:=h' }):wpAny (model prog w) A (pyNext (.ref z)) Q E s:=by
 have D:=B.D;rcases Z.st with ⟨hz,a,b,Ou⟩|⟨a,f,oa,hz,ha,hSa⟩
 ·exact wpAny_pyNext_zip_end hh D hz Z.ti Ou Z.w1 Z.w2 Z.q1 Z.q2 vy hQ
 ·exact qo hh D hz ha Z.ti Z.w1 Z.w2 Z.q1 Z.q2 vy λh' k=>hQ h' λc o c1 _ c3 c4 e=>k c o c1 c3 c4 e
end
structure SF(xs ys:aP)(lo:Addr)(h:Heap)(as:aR):Prop where
 above:∀a∈as,lo<a
 nd:as.Nodup
 pairs:∀(j:Nat) (a:Addr),as[j]?=some a->∃x y,xs[j]?=some x/\ys[j]?=some y/\IsPair h a x y
section
variable {prog:aE}{w:World}{A:aJ}{s:Shared}{R:Result->Shared->Prop}{z TI TO i1 i2 l1 l2 S:Addr}{xs ys:aP}
theorem Fv(hh:A.handled=none)(B:Below z TI TO i1 i2 l1 l2 S)(hn:min xs.size ys.size<=sizeLine)(res:Value) 
  (hR:∀h' tk acc c as,(∀b o,b≠S->b≠z->b≠TO->b≠i1->b≠i2->h₁.get? b=some o->h'.get? b=some o)->h'.get? S=some { cls:=.type "list",dict:=none,data:=.seq acc c,slots:=#[] }->as.length=min xs.size ys.size->SF xs ys S h' as ->
   acc.toList=as.map Value.ref->R (.ok (.ret res)) { s with heap:=h',toks:=tk }) :
  ∀(k i:Nat) (h:Heap) (tk c:Nat) (acc:aP) (as:aR),min xs.size ys.size - i=k->i<=min xs.size ys.size->Zl h z TI TO i1 i2 l1 l2 S xs ys i->(∀b o,b≠S->b≠z->b≠TO->b≠i1->b≠i2->h₁.get? b=some o->h.get? b=some o) ->
   h.get? S=some { cls:=.type "list",dict:=none,data:=.seq acc c,slots:=#[] }->acc.toList=as.map Value.ref->as.length=i->SF xs ys S h as ->
   codeAny (model prog w) A (.builtin "list.extend.loop" ⟨[.ref S,.ref z,res],[]⟩) R { s with heap:=h,toks:=tk }:=by
 have nz:S≠z:=aau B.z;have nO:S≠TO:=aau B.TO;have n1:S≠i1:=aau B.i1;have n2:S≠i2:=aau B.i2;have Ys:∀{a:Addr},S<a->a≠z/\a≠TO/\a≠i1/\a≠i2:=λh=>⟨aau (abv B.z h),aau (abv B.TO h),aau (abv B.i1 h),aau (abv B.i2 h)⟩
 intro k;induction k with
 |zero =>
  intro i h tk c acc as hk hi Z DH hS gI Mx hG;refine abc PySem.F.entry_extend_loop ?_;rw[Around.under_plainId PySem.F.plain_extend_loop _];show wpAny _ A.in1 (pyNext (.ref z) >>= _) _ _ _;have vy:xs[i]?=none\/ys[i]?=none:=by
   rcases Nat.le_total xs.size ys.size with q|q
   ·exact .inl (Array.getElem?_eq_none (by left))
   ·exact .inr (Array.getElem?_eq_none (by left))
  refine aab (Fz (s:={ s with heap:=h,toks:=tk }) (A:=A.in1) hh B Z vy λh' he=>?_);refine aaf (hR h' tk acc c as (λb o h1 h2 h3 h4 h5 e=>he b o h2 h3 h4 h5 (DH b o h1 h2 h3 h4 h5 e)) (he S _ nz nO n1 n2 hS) (by left) ⟨hG.above,hG.nd,λj a hj=>?_⟩ gI);obtain⟨x,y,e1,e2,e3⟩:=hG.pairs j a hj;obtain⟨a1,a2,a3,a4⟩:=Ys (hG.above a (aas hj));exact⟨x,y,e1,e2,he a _ a1 a2 a3 a4 e3⟩
 |succ k ih =>
  intro i h tk c acc as hk hi Z DH hS gI Mx hG;have iR:i<min xs.size ys.size:=by left
  have hx:xs[i]?=some (xs[i]'(by left)):=aa4 _;have hy:ys[i]?=some (ys[i]'(by left)):=aa4 _;have hsz:acc.size=i:=by rw[<- Array.length_toList,gI,List.length_map,Mx]
  have WY:S<h.objs.size:=aah hS;refine abc PySem.F.entry_extend_loop ?_;rw[Around.under_plainId PySem.F.plain_extend_loop _];show wpAny _ A.in1 (pyNext (.ref z) >>= _) _ _ _;refine aab (Fw (s:={ s with heap:=h,toks:=tk }) B Z WY hx hy λh' Z' ht hz Oi=>?_);dsimp only at ht hz Oi ⊢;have AS:=Oi S _ nz nO n1 n2 hS;have up:∀b o,b≠S->h'.get? b=some o->(h'.update S (Obj.mapSeq (·.push (Value.ref h.objs.size)))).get? b=some o:=λb o hb e=>(aaQ _ _ (abw hb)).trans e;show wpAny _ A.in1 (updateSeq S (·.push (Value.ref h.objs.size)) >>= _) _ _ _;refine aab ?_;refine abZ AS rfl (aaf ⟨plainId_quiet PySem.F.plain_extend_loop _,ih (i+1) _ tk _ (acc.push (Value.ref h.objs.size)) (as++[h.objs.size]) (by left) iR (Z'.keep B up)
   (λb o h1 h2 h3 h4 h5 e=>up b o h1 (Oi b o h2 h3 h4 h5 (DH b o h1 h2 h3 h4 h5 e))) (aaW _ AS rfl) (by rw[Array.toList_push,gI,List.map_append];rfl) (by rw[List.length_append,Mx];rfl) ⟨?_,?_,?_⟩⟩) (by rw[hsz];left) (by show(acc.push (Value.ref h.objs.size)).size<=sizeLine+1;rw[Array.size_push,hsz];left)
  ·intro a ha;rcases List.mem_append.mp ha with ha|ha
   ·exact hG.above a ha
   ·rw[List.mem_singleton.mp ha];exact WY
  ·refine List.nodup_append.mpr ⟨hG.nd,List.nodup_cons.mpr ⟨List.not_mem_nil,abD⟩,λa ha b hb e=>?_⟩;rw[List.mem_singleton.mp hb]at e;subst e;obtain⟨j,hj⟩:=List.mem_iff_getElem?.mp ha;obtain⟨_,_,_,_,e⟩:=hG.pairs j _ hj;exact absurd (aah e) (aax _)
  ·intro j b hj;rcases Nat.lt_trichotomy j as.length with q|q|q
   ·rw[List.getElem?_append_left q]at hj;obtain⟨x',y',e1,e2,e3⟩:=hG.pairs j b hj;have hb:=hG.above b (aas hj);obtain⟨a1,a2,a3,a4⟩:=Ys hb;exact⟨x',y',e1,e2,up b _ (aau hb) (Oi b _ a1 a2 a3 a4 e3)⟩
   ·subst q;have hb:h.objs.size=b:=by simpa using hj
    subst hb;exact⟨_,_,by rw[Mx];exact hx,by rw[Mx];exact hy,up _ _ (aau WY) ht⟩
   ·have Q3:(as++[h.objs.size])[j]?=none:=List.getElem?_eq_none (by rw[List.length_append,List.length_singleton];left);rw[Q3]at hj;exact nk hj
theorem z6(hh:A.handled=none)(B:Below z TI TO i1 i2 l1 l2 S)(hn:min xs.size ys.size<=sizeLine)(Z:Zl s.heap z TI TO i1 i2 l1 l2 S xs ys 0)(L7:IsZip s.heap z TI TO .none)(res:Value)(c₀:Nat)(hS:s.heap.get? S=some { cls:=.type "list",data:=.seq #[] c₀ })
  (hR:∀h' tk acc c as,(∀b o,b≠S->b≠z->b≠TO->b≠i1->b≠i2->s.heap.get? b=some o->h'.get? b=some o)->h'.get? S=some { cls:=.type "list",dict:=none,data:=.seq acc c,slots:=#[] }->as.length=min xs.size ys.size->SF xs ys S h' as ->
   acc.toList=as.map Value.ref->R (.ok (.ret res)) { s with heap:=h',toks:=tk }) :
  wpAny (model prog w) A.in1 (Builtin.List.listExtendWith (.ref S) (.ref z) res)
   (λfin s'=>match fin with|.done f=>R (.ok f) s'|.again c'=>c'.quiet=true/\codeAny (model prog w) A c' R s') (λe s'=>R (.error e) s') s:=by
 have hSz:S≠z:=aau B.z;have hT:s.TypeIs (.ref z) "zip":=⟨_,L7,rfl⟩
 unfold Builtin.List.listExtendWith;refine aab (wpAny_typeOf (T:="zip") hT ?_);have h1:Builtin.List.listSameRef (.ref S) (.ref z)=false:=by simp[Builtin.List.listSameRef,hSz]
 have h2:(Value.type "zip" == Value.type "list")=false:=by decide
 have h3:(Value.type "zip" == Value.type "tuple")=false:=by decide
 simp only[h1,h2,h3,Bool.or_false,Bool.false_eq_true,if_false];refine aab (wpAny_pyIter_zip L7 ?_);refine aab (aaF (Fy hT ?_));refine wpAny_ite_split (λ_=>?_) (λnv=>absurd rfl nv);refine aab (wpAny_rule ?_);refine aab ?_;show wpAny _ _ (updateSeq S (·.push .none) >>= λ_=>updateSeq S (·.pop)) _ _ _;refine aab (abZ hS rfl ?_);have zc:=aaW (Obj.mapSeq (·.push Value.none)) hS rfl;refine abZ (hz:=by seq_fits) zc rfl ?_;have Ry:=aaW (Obj.mapSeq (·.pop)) zc rfl;have N0:∀b o,b≠S->s.heap.get? b=some o->((s.heap.update S (Obj.mapSeq (·.push Value.none))).update S (Obj.mapSeq (·.pop))).get? b=some o:=λb o hb e=>(aaQ _ _ (abw hb)).trans ((aaQ _ _ (abw hb)).trans e);refine aaf ⟨plainId_quiet PySem.F.plain_extend_loop _,?_⟩;exact Fv hh B hn res (s:=s) (h₁:=s.heap) hR (min xs.size ys.size) 0 _ s.toks _ #[] [] (Nat.sub_zero _) (aaS _) (Z.keep B N0) (λb o h1 _ _ _ _ e=>N0 b o h1 e) Ry rfl rfl ⟨(λ_ ha=>nomatch ha),abD,λj a hj=>by simp at hj⟩
theorem Fx(hh:A.handled=none)(B:Below z TI TO i1 i2 l1 l2 S)(hn:min xs.size ys.size<=sizeLine)(Z:Zl s.heap z TI TO i1 i2 l1 l2 S xs ys 0)(L7:IsZip s.heap z TI TO .none)(hS:s.heap.get? S=some { cls:=.type "list",data:=.seq #[] })
  (hR:∀h' tk acc c as,(∀b o,b≠S->b≠z->b≠TO->b≠i1->b≠i2->s.heap.get? b=some o->h'.get? b=some o)->h'.get? S=some { cls:=.type "list",dict:=none,data:=.seq acc c,slots:=#[] }->as.length=min xs.size ys.size->SF xs ys S h' as ->
   acc.toList=as.map Value.ref->R (.ok (.ret .none)) { s with heap:=h',toks:=tk }) :
  wpAny (model prog w) A.in1 (Builtin.«list.__init__» ⟨[.ref S,.ref z],[]⟩)
   (λfin s'=>match fin with|.done f=>R (.ok f) s'|.again c'=>c'.quiet=true/\codeAny (model prog w) A c' R s') (λe s'=>R (.error e) s') s:=by
 show wpAny _ _ (do let old <- Builtin.List.listItems (.ref S);Builtin.List.listUpdate (.ref S) (λ_=>#[]);letGo old.toList.reverse;Builtin.List.listExtendWith (.ref S) (.ref z) .none) _ _ s;refine aab ?_;unfold Builtin.List.listItems;refine aab (abx hS rfl (aaf ?_));show wpAny _ _ (updateSeq S (λ_=>#[]) >>= λ_=>letGo (#[]:aP).toList.reverse >>= λ_=>Builtin.List.listExtendWith (.ref S) (.ref z) .none) _ _ s;refine aab (abZ hS rfl ?_);have zc:=aaW (Obj.mapSeq (λ_=>(#[]:aP))) hS rfl;have N0:∀b o,b≠S->s.heap.get? b=some o->(s.heap.update S (Obj.mapSeq (λ_=>(#[]:aP)))).get? b=some o :=
  λb o hb e=>(aaQ _ _ (abw hb)).trans e
 refine aab (wpAny_letGo ?_);refine z6 hh B hn (Z.keep B N0) (N0 _ _ (aan B.z) L7) .none _ zc λh' tk acc c as hk AS hl hG gI=>?_;exact hR h' tk acc c as (λb o h1 h2 h3 h4 h5 e=>hk b o h1 h2 h3 h4 h5 (N0 b o h1 e)) AS hl hG gI
end
section
variable {prog:aE}{w:World}{A:aJ}{E:aB}{s:Shared}{z TI TO i1 i2 l1 l2:Addr}{xs ys:aP}
theorem FA{Q:aB}(hh:A.handled=none)(D:ZipApart z TI TO i1 i2 l1 l2)(hn:min xs.size ys.size<=sizeLine)(hz:IsZip s.heap z TI TO .none)(Fn:IsPair s.heap TI (.ref i1) (.ref i2)){a b:Value}(Ou:IsPair s.heap TO a b)(h1:s.heap.IsListIter i1 l1 0)(h2:s.heap.IsListIter i2 l2 0)(q1:s.heap.IsList l1 xs)(q2:s.heap.IsList l2 ys)
  (hQ:∀h' tk acc c as,(∀b o,b≠z->b≠TO->b≠i1->b≠i2->s.heap.get? b=some o->h'.get? b=some o)->h'.get? s.heap.objs.size=some { cls:=.type "list",dict:=none,data:=.seq acc c,slots:=#[] }->as.length=min xs.size ys.size->SF xs ys s.heap.objs.size h' as ->
   acc.toList=as.map Value.ref->Q (.ref s.heap.objs.size) { s with heap:=h',toks:=tk }) :
  wpAny (model prog w) A (call (.type "list") [.ref z]) Q E s:=by
 refine callType_codes (Q₁:=λobj s₁=>obj=.ref s.heap.objs.size/\s₁={ s with heap:=s.heap.push { cls:=.type "list",data:=.seq #[] } }) PySem.F.called_list (PySem.F.typeCall_list_1 _) PySem.F.entry_list_init
  (code_list_new _ ⟨rfl,rfl⟩) λobj s₁ h₁=>?_
 obtain⟨rfl,rfl⟩:=h₁;have hS:(s.heap.push { cls:=.type "list",data:=.seq #[] }).get? s.heap.objs.size=some { cls:=.type "list",data:=.seq #[] }:=aao _ rfl;have up:∀b o,s.heap.get? b=some o->(s.heap.push { cls:=.type "list",data:=.seq #[] }).get? b=some o:=λb o e=>aag _ e;have B:Below z TI TO i1 i2 l1 l2 s.heap.objs.size:=⟨D,aah hz,aah Fn,aah Ou,(by obtain⟨_,e,_⟩:=h1;exact aah e),(by obtain⟨_,e,_⟩:=h2;exact aah e),(by obtain⟨_,e,_⟩:=q1;exact aah e),(by obtain⟨_,e,_⟩:=q2;exact aah e)⟩
 refine⟨⟨_,hS,rfl⟩,PySem.F.args_list_init_2 _ _,Fx (A:=A.in1) hh B hn ⟨.inl ⟨up _ _ hz,a,b,up _ _ Ou⟩,up _ _ Fn,h1.at λo e=>up _ o e,h2.at λo e=>up _ o e,q1.at λo e=>up _ o e,q2.at λo e=>up _ o e⟩ (up _ _ hz) hS λh' tk acc c as hk AS hl hG gI=>?_⟩;exact⟨rfl,hQ h' tk acc c as (λb o h2 h3 h4 h5 e=>hk b o (aan (aah e)) h2 h3 h4 h5 (up b o e)) AS hl hG gI⟩
end
theorem Inv.Qw{pins:aq}{s:Shared}(I:Inv X pins σ H s)(k:∀b u,s.heap.get? b=some u->h'.get? b=some u)(up:∀b u,H b=some u->H' b=some u)
  (nw:∀b u,H' b=some u->H b=some u\/(s.heap.objs.size<=b/\cS X.prog X.w H' h' b u)):Inv X pins σ H' { s with heap:=h',toks:=t' }:=by
 refine I.step (g':=s.gens) (d':=s.drawn) (ch:=[]) (λb hb=>nomatch hb) (λb o _ _ _ e _=>k b o e) (λb o _ _ _ e _=>⟨o.slots,k b o e⟩) (λb u _ e n=>?_)
  (λb o _ e=>⟨o,k b o e⟩) (λ_ _ e=>up _ _ e) (λ_ _ _ e=>up _ _ e) (λb ps e=>⟨#[],by rw[up _ _ e];simp⟩) (λm hm=>?_) (λb u e=>?_) I.bare
 ·cases q:H' b with
  |none=>rfl
  |some v =>
   rcases nw b v q with z|⟨z,_⟩
   ·rw[n]at z;exact nk z
   ·exact absurd (aah e) (Nat.not_lt.mpr z)
 ·obtain⟨o,es,ep,ho,r⟩:=hm;exact⟨o,es,ep,k _ o ho,r⟩
 ·rcases nw b u e with e|⟨_,e⟩
  ·exact(I.cA b u e).i_ (λc v _ q=>k c v q) (λ_ q=>up _ _ q) λ_ _ q=>up _ _ q
  ·exact e
def qz(H:Hp):List (Addr×V×V)->Hp
 |[]=>H
 |q::r=>upd (qz H r) q.1 (.tup [q.2.1,q.2.2])
theorem k8{H:Hp}{b:Addr}{u:HO}(e:H b=some u):∀{r:List (Addr×V×V)},(∀q∈r,H q.1=none)->qz H r b=some u
 |[],_=>e
 |q::r,h=>by
  have hn:b≠q.1:=λz=>by rw[z,h q List.mem_cons_self]at e;cases e
  show upd (qz H r) q.1 _ b=_;rw[aV hn];exact k8 e λq hq=>h q (aae _ hq)
theorem yZ{H:Hp}:∀{r:List (Addr×V×V)},(r.map (·.1)).Nodup->∀q∈r,qz H r q.1=some (.tup [q.2.1,q.2.2])
 |[],_,_,h=>nomatch h
 |q'::r,hn,q,h=>by
  show upd (qz H r) q'.1 _ q.1=_;have za:=List.nodup_cons.mp hn;rcases List.mem_cons.mp h with rfl|h
  ·exact bj
  ·have:q.1≠q'.1:=λz=>za.1 (by show q'.1∈_;rw[<- z];exact aaI h);rw[aV this];exact yZ za.2 q h
theorem vi{H:Hp}{b:Addr}{u:HO}:∀{r:List (Addr×V×V)},qz H r b=some u->H b=some u\/∃q∈r,q.1=b/\u=.tup [q.2.1,q.2.2]
 |[],e=>.inl e
 |q::r,e=>by
  replace e:upd (qz H r) q.1 (.tup [q.2.1,q.2.2]) b=some u:=e;by_cases z:b=q.1
  ·subst z;rw[bj]at e;cases e;exact .inr ⟨q,aai,rfl,rfl⟩
  ·rw[aV z]at e;rcases vi e with h|⟨q',h1,h2⟩
   ·exact .inl h
   ·exact .inr ⟨q',aae _ h1,h2⟩
def tLZ(K:au)(ta:TA):TE:=λσ H Q=>ta σ H λvs H1=>∃a b xs ys,vs=[.ref a,.ref b]/\dH K H1 a xs/\dH K H1 b ys /\
 ∀(l:Addr) (r:List (Addr×V×V)),H1 l=none->(∀q∈r,H1 q.1=none)->(r.map (·.1)).Nodup->l∉r.map (·.1)->r.map (·.2)=xs.zip ys->Q (.ref l) (upd (qz H1 r) l (.lst (r.map λq=>V.ref q.1)))
theorem GG{p:Pos}(hc:X.calm=true)(TR:Gl X "list")(hml:X.mg "list" = none)(hg:Gl X "zip")(hm:X.mg "zip" = none)(ha:PA X [e1,e2] ta)(hs:∀es,starEach (e1::es) X.env=(false,eval e1 X.env)::starEach es X.env)(Oc:∀es,starEach (e2::es) X.env=(false,eval e2 X.env)::starEach es X.env):
  PE X (.Call (.Name "list" p') [.Call (.Name "zip" p) [e1,e2] [] pos] [] pos') (tLZ X.K ta):=by
 intro pins s σ H Q I h;refine aaR (eK I TR hml boot_list ?_);refine aaw ?_;show wpAny _ _ (spliced ((false,eval (.Call (.Name "zip" p) [e1,e2] [] pos) X.env)::backTo pos' (starEach [] X.env))) _ _ s;refine abt ?_;refine Call_ (eK I hg hm boot_zip (aaw (dg (ha pos pins s σ H _ I h) λus s1 bR=>?_) (hs _) (by rw[Oc];rfl)));obtain⟨vs,H1,I1,r1,q1⟩:=bR;obtain⟨a,b,xs,ys,e,q1,q2,hq⟩:=q1;subst e;obtain⟨u,v,rfl,ru,rv⟩:=vals2 r1;cases ru;cases rv;obtain⟨aK,rx,p1,Zj⟩:=I1.list q1;obtain⟨its',ry,p2,L6⟩:=I1.list q2;refine call_zip_2 p1.isList p2.isList λh' z t o l1 l2 sz k=>abF ?_;have Ff:h'.IsList a aK.toArray:=p1.isList.at λo e=>k _ o e;have DG:h'.IsList b its'.toArray:=p2.isList.at λo e=>k _ o e;have cls:∀{x y:Addr} {o u:Obj},h'.get? x=some o->h'.get? y=some u->o.cls≠u.cls->x≠y:=λh1 h2 h3=>cV h1 h2 h3;have al:@LT.lt Nat _ a s1.heap.objs.size:=by obtain⟨_,e,_⟩:=p1.isList;exact aah e
 have bl:@LT.lt Nat _ b s1.heap.objs.size:=by obtain⟨_,e,_⟩:=p2.isList;exact aah e
 have D:ZipApart (s1.heap.objs.size+4) (s1.heap.objs.size+2) (s1.heap.objs.size+3) s1.heap.objs.size (s1.heap.objs.size+1) a b:=by
  constructor<;>first|exact aan (by left)|exact aau (by left)
 have lx:=rx.length;have ly:=ry.length;have hn:min aK.toArray.size its'.toArray.size<=sizeLine:=by simp;left
 refine FA (s:={ s1 with heap:=h' }) (I1.ok.hd hc) D hn z t o l1 l2 Ff DG λZN tk acc c as hk hS hl hG gI=>?_;dsimp only at hk hS hG ⊢;have hlen:as.length=(xs.zip ys).length:=by rw[hl,List.length_zip];simp;left
 have keep:∀b o,s1.heap.get? b=some o->ZN.get? b=some o:=λb o e=>by
  have:@LT.lt Nat _ b s1.heap.objs.size:=aah e;exact hk b o (aan (by left)) (aan (by left)) (aan (by left)) (aan (by left)) (k b o e)
 have fresh:∀c,s1.heap.objs.size<=c->H1 c=none:=λc h=>I1.cA.fresh h;have hS5:h'.objs.size=s1.heap.objs.size+5:=sz
 let r:List (Addr×V×V):=as.zip (xs.zip ys)
 have r1:r.map (·.1)=as:=List.map_fst_zip (by left);have r2:r.map (·.2)=xs.zip ys:=List.map_snd_zip (by left);have nv:∀c∈as,@LT.lt Nat _ h'.objs.size c:=hG.above;have Wt:∀q∈r,H1 q.1=none:=λq hq=>fresh _ (by have:=nv q.1 (by rw[<- r1];exact aaI hq);left);have DE:H1 h'.objs.size=none:=fresh _ (by left);have Mi:h'.objs.size∉r.map (·.1):=by rw[r1];exact λz=>absurd (nv _ z) (aax _)
 have y_:(r.map (·.1)).Nodup:=by rw[r1];exact hG.nd
 have DF:(as.map V.ref)=r.map λq=>V.ref q.1:=by rw[<- r1,List.map_map];rfl
 refine⟨.ref h'.objs.size,upd (qz H1 r) h'.objs.size (.lst (r.map λq=>V.ref q.1)),?_,rfl,hq _ r DE Wt y_ Mi r2⟩;refine Inv.Qw (s:=s1) (t':=tk) I1 keep (λb u e=>?_) λb u e=>?_
 ·rw[aV λz=>by rw[z,DE]at e;cases e];exact k8 e Wt
 ·by_cases zb:b=h'.objs.size
  ·subst zb;rw[bj]at e;cases e;refine .inr ⟨by left,?_,acc.toList,c,?_,by rw[Array.toArray_toList];exact hS⟩
   ·rw[<- DF,List.length_map,hlen,List.length_zip];left
   ·rw[<- DF,gI];clear gI DF hG hl hlen r1 nv y_ r r2 Wt Mi hS hk keep;induction as with
    |nil=>exact .nil
    |cons a as ih=>exact .cons rfl ih
  ·rw[aV zb]at e;rcases vi e with e|⟨q,hq,rfl,rfl⟩
   ·exact .inl e
   ·have hm:q.1∈as:=by rw[<- r1];exact aaI hq
    refine .inr ⟨by have:=nv _ hm;left,?_⟩;obtain⟨j,hj⟩:=List.mem_iff_getElem?.mp hq;have Fg:as[j]?=some q.1/\(xs.zip ys)[j]?=some q.2:=by
     have:=List.getElem?_zip_eq_some.mp hj;exact this
    obtain⟨x,y,ex,ey,hp⟩:=hG.pairs j q.1 Fg.1;obtain⟨e1,e2⟩:xs[j]?=some q.2.1/\ys[j]?=some q.2.2:=List.getElem?_zip_eq_some.mp Fg.2;obtain⟨u1,Wr,Vr⟩:=rx.get e1;obtain⟨u2,hu2,Vq⟩:=ry.get e2;rw[List.getElem?_toArray,Wr]at ex;rw[List.getElem?_toArray,hu2]at ey;cases ex;cases ey;exact sr Vr Vq hp
noncomputable def pairD(x y:D):D:=.tup [x,y]
def Qn(xs:aa):O D:=match two xs with
 |some z=>match z.1 with
  |.lst _ a=>match z.2 with
   |.lst _ b=>ok (.lst .ow (aF bE (List.zipWith pairD a b)))
   |_=>none
  |_=>none
 |none=>none
theorem Lz{x y d:D}(h:Qn [x,y]=ok d):∃f a g b,x=.lst f a/\y=.lst g b/\d=.lst .ow (aF bE (List.zipWith pairD a b)):=by
 cases x<;>first|exact nk h | (cases h;done)|skip
 cases y<;>first|exact nk h | (cases h;done)|skip
 cases h;exact⟨_,_,_,_,rfl,rfl,rfl⟩
def zF(sc:Scope)(bl:ao)(e:Expr):Option (aC):=match eE e with
 |some z=>match one z.2 with
  |some i=>if z.1=("list" : Str)/\fV sc z.1=true/\z.1∈bl then js sc bl i else none
  |none=>none
 |none=>none
theorem EB{sc:Scope}{bl:ao}{e:Expr}(h:zF sc bl e=some args):∃p pos i,e=.Call (.Name ("list" : Str) p) [i] [] pos/\fV sc ("list" : Str)=true/\("list" : Str)∈bl/\js sc bl i=some args:=by
 unfold zF at h;cases hv:eE e with
 |none=>rw[hv]at h;exact nk h
 |some z =>
  obtain⟨x,as⟩:=z;rw[hv]at h;obtain⟨p,pos,rfl⟩:=cC hv;have h2:(match one as with|some i=>if x=("list" : Str)/\fV sc x=true/\x∈bl then js sc bl i else none|none=>none)=some args:=h;clear h;cases hw:one as with
  |none=>rw[hw]at h2;exact nk h2
  |some a =>
   rw[hw]at h2;have h3:(if x=("list" : Str)/\fV sc x=true/\x∈bl then js sc bl a else none)=some args:=h2;clear h2;obtain rfl:=bS hw;by_cases hc:x=("list" : Str)/\fV sc x=true/\x∈bl
   ·rw[if_pos hc]at h3;obtain⟨rfl,h1,h2⟩:=hc;exact⟨_,_,_,rfl,h1,h2,h3⟩
   ·rw[if_neg hc]at h3;cases h3
theorem uR{T:mV}{N:gj}(hN:∀k k' p xs f,N k p xs f->N k' p xs f):∀{r:List (Addr×V×V)} {xs ys:af} {a b:aa} {k1 k2 k:br} {n1 n2 n:Nat},aI T N k1 n1 xs a->aI T N k2 n2 ys b->r.map (·.2)=xs.zip ys->(∀q∈r,T q.1 [q.2.1,q.2.2])->aI T N k n (r.map λq=>V.ref q.1) (List.zipWith pairD a b)
 |[],xs,ys,a,b,_,_,_,_,_,_,r1,r2,e,_=>by
  have l1:=r1.length;have l2:=r2.length;have e':=aaX List.length e;rw[List.length_zip]at e';have:List.zipWith pairD a b=[]:=List.eq_nil_of_length_eq_zero (by rw[List.length_zipWith];simp at e';left);rw[this];exact .nil
 |q::r,xs,ys,a,b,k1,k2,k,n1,n2,n,r1,r2,e,ht=>by
  cases r1 with
  |nil=>cases e
  |cons h1 t1=>cases r2 with
   |nil=>cases e
   |cons h2 t2 =>
    have e1:q.2=(_,_):=(abM e).1;have e2:=(abM e).2;refine .cons (.tup (ht q aai) ?_) (uR hN t1 t2 e2 λq hq=>ht q (aae _ hq));rw[e1];have m1:=Rep.j6 (T':=T) (N':=N) (g:=id) (λ_ _ h=>h) hN h1 (0::n::k);have m2:=Rep.j6 (T':=T) (N':=N) (g:=id) (λ_ _ h=>h) hN h2 (1::n::k);rw[fG]at m1 m2;exact .cons m1 (.cons m2 .nil)
theorem gv(g:Fl->Fl):∀a b:aa,aF g (List.zipWith pairD a b)=List.zipWith pairD (aF g a) (aF g b)
 |[],_=>by cases ‹aa› <;> rfl
 |_::_,[]=>rfl
 |x::a,y::b=>by
  show aS g (pairD x y)::aF g (List.zipWith pairD a b)=_;rw[gv g a b];rfl
theorem Qm{n:Nat}(hΦ:Φ n=Qn){sc:Scope}{bl:ao}{k:Nat}(L:PX X sc bl k){e:Expr}(he:zF sc bl e=some args)(hs:mz X F Φ cs args):PE X e (tD X F Φ (.cI n cs))/\PT X e (gW X F Φ (.cI n cs)):=by
 obtain⟨p,pos,i,rfl,h1,h2,hz⟩:=EB he;obtain⟨p',pos',a,b,rfl,rfl,h3,h4⟩:=rV hz;obtain⟨⟨c,d,rfl,_,_⟩,pa,s1,s2⟩:=oX hs;have this:PE X (.Call (.Name ("list" : Str) p) [.Call (.Name ("zip" : Str) p') [a,b] [] pos'] [] pos) (tD X F Φ (.cI n [c,d])):=by
  refine PE.imp (GG L.calm (L.gl h1) (L.bl _ h2) (L.gl h3) (L.bl _ h4) pa s1 s2) λσ H Q hq=>?_;obtain⟨R,τ,ρ,d',Si,ev,hq⟩:=hq;obtain⟨xs,cn,ev⟩:=aH ev;rw[hΦ]at ev;refine⟨R,τ,ρ,xs,Si,cn,λvs H1 e1 r1=>?_⟩;obtain⟨τt,fr,rs⟩:=r1;have hl:∃x y,xs=[x,y]:=by
   unfold Qn at ev;cases hw:two xs with
   |none=>rw[hw]at ev;exact nk ev
   |some z=>exact⟨z.1,z.2,i9 hw⟩
  obtain⟨x,y,rfl⟩:=hl;obtain⟨f,da,g,db,rfl,rfl,rfl⟩:=Lz ev;obtain⟨v,w,rfl,rx,ry⟩:=rs.two;cases rx with
  |lst hx ax=>cases ry with
   |lst hy ay =>
    refine⟨_,_,_,_,rfl,hx.sq,hy.sq,λl r hl hr hn Mi hz=>hq _ _ ?_ ?_⟩
    ·intro b o e;have e':=e1 b o e;rw[aV λz=>by rw[z,hl]at e';cases e'];exact k8 e' hr
    ·have sm:aM H1 (upd (qz H1 r) l (.lst (r.map λq=>V.ref q.1))):=λb o e=>by
      rw[aV λz=>by rw[z,hl]at e;cases e];exact k8 e hr
     refine cx.xf (e1.free hl) (e1.trans sm) bj ?_;rw[gv];refine uR nd.zk ((ax.lG Si fr (k':=[]) (n':=0)).imp (λ_ _ h=>aY.same sm h) λ_ _ _ _ h=>nd.same sm h) ((ay.lG Si fr (k':=[]) (n':=0)).imp (λ_ _ h=>aY.same sm h) λ_ _ _ _ h=>nd.same sm h) hz λq hq=>?_;have y8:q.1≠l:=λz=>Mi (by rw[<- z];exact aaI hq);exact aY.of (by rw[aV y8];exact yZ hn q hq)
 exact⟨this,cR this λ_=>rfl⟩
noncomputable def UQ(n:Int):ae:=(List.range n.toNat).map λ(k:Nat)=>(k:Int)
theorem aI.Eh{T:mV}{N:gj}{k:br}:∀(j:Nat) {n:Nat} {vs:af} {ds:aa},aI T N k n vs ds->aI T N k (n+j) (vs.drop j) (ds.drop j)
 |0,_,_,_,h=>h
 |j+1,_,_,_,.nil=>.nil
 |j+1,n,_,_,.cons h t=>by
  rw[show n+(j+1)=n+1+j by left];exact aI.Eh j t
theorem aI.II{T:mV}{N:gj}{k:br}:∀(j:Nat) {n:Nat} {vs:af} {ds:aa},aI T N k n vs ds->aI T N k n (vs.take j) (ds.take j)
 |0,_,_,_,_=>by rw[List.take_zero,List.take_zero];exact .nil
 |j+1,_,_,_,.nil=>.nil
 |j+1,n,_,_,.cons h t=>.cons h (aI.II j t)
noncomputable def qH{α:Type}(b:Bool)(k:Nat)(xs:List α):List α:=if b then xs.drop k else xs.take k
def PD(K:au)(b:Bool):V->Option Int->Option Int->Hp->VK->Prop:=λx lo hi H Q=>∃(a:Addr) (xs:af) (k:Nat),x=.ref a/\dH K H a xs/\lo=(if b then some (k:Int)else none)/\hi=(if b then none else some (k:Int))/\k<=xs.length/\∀p,H p=none->Q (.ref p) (upd H p (.lst (qH b k xs)))
theorem yD(b:Bool):Uz X (PD X.K b):=by
 intro pins s σ H x v vl vu lo hi sl Q I rx hs pl pu h;obtain⟨a,xs,k,rfl,hx,rfl,rfl,hk,q⟩:=h;cases rx;obtain⟨aK,r,Je,hz⟩:=I.list hx;have hl:=cY Je;have hlen:aK.length=xs.length:=r.length.symm;refine⟨"list",_,slot_list_getitem.lookup,hl.typeIs,wpAny_getItem_list_slice hl hs pl pu .none (by simp) ?_ (by rw[List.size_toArray,hlen];exact hz)⟩;have e:slicePick aK.toArray (if b then some (k:Int)else none) (if b then none else some (k:Int)) none=(qH b k aK).toArray:=by
  cases b with
  |true=>exact slicePick_from aK.toArray k (by simp;left)
  |false=>exact slicePick_upto aK.toArray k (by simp;left)
 have rc:Vals (qH b k xs) (qH b k aK):=by
  cases b with
  |true=>exact r.drop k
  |false=>exact r.take k
 have lc:(qH b k xs).length<=xs.length:=by
  cases b with
  |true=>show(xs.drop k).length<=_;rw[List.length_drop];left
  |false=>show(xs.take k).length<=_;rw[List.length_take];left
 rw[e];exact⟨.ref s.heap.objs.size,_,I.LF (t':=s.toks) rc (aaD lc hz),rfl,q _ I.fresh⟩
def cutD(b:Bool)(xs:aa):O D:=match two xs with
 |some z=>match z.1 with
  |.lst _ ds=>match z.2 with
   |.int k=>if 0<=k/\k<=ds.length then ok (.lst .ow (aF bE (qH b k.toNat ds)))else none
   |_=>none
  |_=>none
 |none=>none
theorem Ic{b:Bool}{x y d:D}(h:cutD b [x,y]=ok d):∃(f:Fl) (ds:aa) (k:Nat),x=.lst f ds/\y=.int k/\k<=ds.length/\d=.lst .ow (aF bE (qH b k ds)):=by
 cases x<;>first|exact nk h | (cases h;done) | (cases y<;>first|exact nk h | (cases h;done)|skip)
 obtain⟨⟨h1,h2⟩,h3⟩:=qk h;rename_i f ds k;exact⟨f,ds,k.toNat,rfl,by rw[Int.toNat_of_nonneg h1],by left,h3.symm⟩
noncomputable def FK(b:Bool)(e:Expr):Option Expr:=match e with
 |.Slice lo hi st _=>match st with
  |none=>match b with
   |true=>match hi with
    |none=>lo
    |some _=>none
   |false=>match lo with
    |none=>hi
    |some _=>none
  |some _=>none
 |_=>none
theorem FJ{b:Bool}{e k:Expr}(h:FK b e=some k):∃p,e=.Slice (if b then some k else none) (if b then none else some k) none p:=by
 cases e<;>first|exact nk h | (cases h;done)|skip
 rename_i lo hi st p;cases st with
 |some _=>cases h
 |none=>cases b with
  |true=>cases hi with
   |some _=>cases h
   |none=>cases h;exact⟨p,rfl⟩
  |false=>cases lo with
   |some _=>cases h
   |none=>cases h;exact⟨p,rfl⟩
def mi(b:Bool)(_:Scope)(_:ao)(e:Expr):Option (aC):=match qp e with
 |some z=>match FK b z.2 with
  |some k=>some [z.1,k]
  |none=>none
 |none=>none
theorem rW{b:Bool}{sc:Scope}{bl:ao}{e:Expr}(h:mi b sc bl e=some args):∃a k p pos,e=.Subscript a (.Slice (if b then some k else none) (if b then none else some k) none p) pos/\args=[a,k]:=by
 unfold mi at h;cases hv:qp e with
 |none=>rw[hv]at h;exact nk h
 |some z =>
  obtain⟨a,s⟩:=z;rw[hv]at h;obtain⟨pos,rfl⟩:=nH hv;have h:(match FK b s with|some k=>some [a,k]|none=>none)=some args:=h;cases hw:FK b s with
  |none=>rw[hw]at h;exact nk h
  |some k =>
   rw[hw]at h;cases h;obtain⟨p,rfl⟩:=FJ hw;exact⟨a,k,p,pos,rfl,rfl⟩
theorem NA{b:Bool}{n:Nat}(hΦ:Φ n=cutD b){sc:Scope}{bl:ao}{k:Nat}(L:PX X sc bl k){e:Expr}(he:mi b sc bl e=some args)(hs:mz X F Φ cs args):PE X e (tD X F Φ (.cI n cs))/\PT X e (gW X F Φ (.cI n cs)):=by
 obtain⟨a,ke,p,pos,rfl,rfl⟩:=rW he;cases cs with
 |nil=>exact hs.elim
 |cons c cs=>cases cs with
  |nil=>exact hs.2.2.2.elim
  |cons c' cs=>cases cs with
   |cons _ _=>exact hs.2.2.2.2.2.2.elim
   |nil =>
    obtain⟨h1,_,_,h2,_,_,_⟩:=hs;have this:PE X (.Subscript a (.Slice (if b then some ke else none) (if b then none else some ke) none p) pos) (tD X F Φ (.cI n [c,c'])):=by
     have go:∀{tl th:TO},PO X (if b then some ke else none) tl->PO X (if b then none else some ke) th->(∀(H1:Hp) (R:ak) (τ:Addr->Option br) (ρ:aZ) (k:Nat) (σ:St) (Q:Option Int->Option Int->Hp->Prop),SI X F R τ ρ σ H1->bz Φ c' ρ=ok (.int k)->(∀H2,aM H1 H2->Q (if b then some (k:Int)else none) (if b then none else some (k:Int)) H2)->tl σ H1 λl H2=>th σ H2 λu H3=>Q l u H3)->PE X (.Subscript a (.Slice (if b then some ke else none) (if b then none else some ke) none p) pos) (tD X F Φ (.cI n [c,c'])):=by
      intro tl th pl pu hh;refine PE.imp (uZ (yD b) h1 pl pu) λσ H Q hq=>?_;obtain⟨R,τ,ρ,d,Si,ev,hq⟩:=hq;obtain⟨xs,cn,ev⟩:=aH ev;obtain⟨x,ex,cn⟩:=aH cn;obtain⟨ys,ma,cn⟩:=aH cn;cases cn;obtain⟨y,ey,ma⟩:=aH ma;cases ma;rw[hΦ]at ev;obtain⟨f,ds,j,rfl,rfl,hj,rfl⟩:=Ic ev;refine tD.intro Si ex λv H1 e1 r1=>hh H1 R τ ρ j σ (λl u H3=>PD X.K b v l u H3 Q) (Si.go e1) ey λH2 e2=>?_;have r2:=(r1.go e2).mono (fv':=i7 (.cI n [c,c'])) λi hi=>aaC _ hi;obtain⟨τt,fr,rp⟩:=r2;obtain⟨q,xs,rfl,hn,rs⟩:=rp.wA;have ee:=e1.trans e2;refine⟨q,xs,j,rfl,hn.sq,rfl,rfl,by rw[rs.length];exact hj,λl hl=>hq _ _ (ee.trans (aM.upd hl)) (cx.xf (ee.free hl) (ee.trans (aM.upd hl)) bj ?_)⟩;have rc:∃n',aI (aY X.K H2) (nd X.K R (kg (gP X F) τ (i7 (.cI n [c,c']))) τt H2) [] n' (qH b j xs) (qH b j ds):=by
       cases b with
       |true=>exact⟨_,rs.Eh j⟩
       |false=>exact⟨_,rs.II j⟩
      obtain⟨n',rc⟩:=rc;exact(rc.lG Si fr).imp (λ_ _ h=>aY.same (aM.upd hl) h) λ_ _ _ _ h=>nd.same (aM.upd hl) h
     cases b with
     |true =>
      refine go (sN h2) sO λH1 R τ ρ k σ Q Si ek hk=>tD.intro Si ek λv H2 e2 r2=>?_;cases r2.isInt;exact⟨k,rfl,hk H2 e2⟩
     |false =>
      refine go sO (sN h2) λH1 R τ ρ k σ Q Si ek hk=>tD.intro Si ek λv H2 e2 r2=>?_;cases r2.isInt;exact⟨k,rfl,hk H2 e2⟩
    exact⟨this,cR this λ_=>by cases b<;>rfl⟩
section
open PySem.SeqAt
open PySem.AutoSeq1 (wpAny_loadPart')
open PySem.MeetsSeq PySem.MeetsSeq2 PySem.MeetsSeq3
theorem Cg(A:aJ)(s:Shared)(a:Int)(t:Tok)(c:Int)(u:Tok)(prog:aE)(w:World)(E:aB)(Q:aB)(h:Q (.bool (decide (a ≥ c))) s):wpAny (model prog w) A (richCompare .GtE (.int a t) (.int c u)) Q E s :=
 (PyProof.Rows.ge_int h:wpAny (model prog w) A (compareOp .GtE (.int a t) (.int c u)) Q E s)
theorem G_{vs ws:av}{ms:ae}{m n:Nat}(h1:IntsAre vs ns)(h2:IntsAre ws ms)(hz:vs.zip ws=[])(hl:ns.length+n=ms.length+m):(!HT.lexLt ns ms)=decide (m ≥ n):=by
 cases h1 with
 |nil=>cases h2 with
  |nil=>simp only[List.length_nil]at hl;exact(aaM (by left)).symm
  |cons c u h=>simp only[List.length_nil,List.length_cons]at hl;exact(aaN (by left)).symm
 |cons a t h=>cases h2 with
  |nil=>simp only[List.length_nil,List.length_cons]at hl;exact(aaM (by left)).symm
  |cons c u h=>rw[List.zip_cons_cons]at hz;cases hz
theorem qq(l b:Addr)(items dE:aP)(n n2:Nat)(dd A3:Option Addr)(sl yE:Array (Option Value))(ns ms:ae)(hi:IntsAre items.toList ns)(hj:IntsAre dE.toList ms):
  Meets (Builtin.«tuple.__ge__» ⟨[.ref l,.ref b],[]⟩) (λ_ R s=>s.heap.get? l=some { cls:=.type "tuple",dict:=dd,data:=.seq items n,slots:=sl }/\s.heap.get? b=some { cls:=.type "tuple",dict:=A3,data:=.seq dE n2,slots:=yE }/\R (.ok (.ret (.bool (!HT.lexLt ns ms)))) s) :=
 .of_wp λprog w A R s h=>by
  obtain⟨hp,g,d,tk,os⟩:=s;obtain⟨hl,hb,h⟩:=h;have f2:=AutoSeq1.sub_tuple_tuple;have z1:items.size=ns.length:=by rw[<- hi.length];simp
  have z2:dE.size=ms.length:=by rw[<- hj.length];simp
  wp_walk using wpAny_loadPart' hl,wpAny_loadPart' hb,wpAny_forIn_list _ (λrest b s'=>b.1=none/\s'=⟨hp,g,d,tk,os⟩/\∃(vs ws:av) (lJ Bk:ae),rest=vs.zip ws/\IntsAre vs lJ/\IntsAre ws Bk/\lJ.length+dE.size=Bk.length+items.size/\R (.ok (.ret (.bool (!HT.lexLt lJ Bk)))) ⟨hp,g,d,tk,os⟩) _
  case turn =>
   rintro ⟨y,x⟩ rest b s' ⟨jQ,rfl,vs,ws,lJ,Bk,hz,L8,Jv,hlen,hR⟩;cases L8 with
   |nil=>rw[List.zip_nil_left]at hz;cases hz
   |cons a t hvi'=>cases Jv with
    |nil=>rw[List.zip_nil_right]at hz;cases hz
    |cons c u hwi' =>
     rw[List.zip_cons_cons]at hz;injection hz with Wk DA
     injection Wk with hy hx
     subst hy hx;rw[HT.dP]at hR;simp only[List.length_cons]at hlen;obtain⟨e,he,DJ⟩:=HT.vL A.in1 ⟨hp,g,d,tk,os⟩ a t c u;refine aab (he prog w _ _ ?_);cases e with
     |true =>
      rw[if_pos (DJ.mp rfl)]at hR
      wp_walk
      exact⟨rfl,rfl,_,_,_,_,DA,hvi',hwi',by left,hR⟩
     |false =>
      have uq:¬ a=c:=λq=>absurd (DJ.mpr q) aac;rw[if_neg uq,show(!decide (a<c))=decide (a ≥ c) by by_cases q:a<c<;>simp[q]<;>left]at hR;have Wu:=Cg A.in1 ⟨hp,g,d,tk,os⟩ a t c u prog w
      wp_walk using Wu
      exact⟨_,rfl,by simpa using hR⟩
  case fin =>
   rintro ⟨b1,b2⟩ s' ⟨jQ,rfl,vs,ws,lJ,Bk,hz,L8,Jv,hlen,hR⟩;simp only at jQ;subst jQ;rw[G_ L8 Jv hz.symm hlen]at hR
   wp_walk
   exact⟨_,rfl,by simpa [Builtin.Tuple.tupleCompareSizes]using hR⟩
  case h=>exact⟨rfl,rfl,items.toList,dE.toList,ns,ms,rfl,hi,hj,by left,h⟩
end
def PC(K:au):R2:=λx y H Q=>∃a b ns ms,x=.ref a/\y=.ref b/\aY K H a (ns.map V.int)/\aY K H b (ms.map V.int)/\Q (.bl (!HT.lexLt ns ms)) H
theorem CQ(hu:X.A.units<cLine):kC X (compareOp .GtE) (PC X.K):=by
 intro pins s σ H x y v u Q I rx ry h;obtain⟨a,b,ns,ms,rfl,rfl,ha,hb,q⟩:=h;cases rx;cases ry;obtain⟨aK,r1,⟨⟨cls,dd,data,sl⟩,ho,hc,n,hd⟩,_⟩:=I.tuple ha;obtain⟨qA,r2,⟨⟨NC,A3,data2,yE⟩,wo,hc2,n2,hd2⟩,_⟩:=I.tuple hb;simp only at hc hd hc2 hd2;subst hc hd hc2 hd2;exact richCompare_meets_room (op:=.GtE) ⟨_,ho,rfl⟩ ⟨_,wo,rfl⟩ PySem.F.slot_tuple_ge PySem.F.entry_tuple_ge (PySem.F.args_tuple_ge_2 _ _) (qq a b aK.toArray qA.toArray n n2 dd A3 sl yE ns ms (intsAre_of r1) (intsAre_of r2))
  ⟨ho,wo,show Value.bool (!HT.lexLt ns ms)≠Value.notImplemented/\EP X pins σ Q (.bool (!HT.lexLt ns ms)) s from⟨(λx=>nomatch x),⟨.bl _,H,I,rfl,q⟩⟩⟩ hu
def Ow(xs:aa):O D:=match two xs with
 |some z=>match z.1 with
  |.tup a=>match z.2 with
   |.tup b=>match intsOf a with
    |some ns=>match intsOf b with
     |some ms=>ok (.bl (!HT.lexLt ns ms))
     |none=>none
    |none=>none
   |_=>none
  |_=>none
 |none=>none
theorem MD{x y d:D}(h:Ow [x,y]=ok d):∃ns ms:ae,x=.tup (ns.map D.int)/\y=.tup (ms.map D.int)/\d=.bl (!HT.lexLt ns ms):=by
 cases x<;>first|exact nk h | (cases h;done) | (cases y<;>first|exact nk h | (cases h;done)|skip)
 rename_i a b;have h:(match intsOf a with|some ns=>(match intsOf b with|some ms=>ok (D.bl (!HT.lexLt ns ms))|none=>none)|none=>none)=ok d:=h;cases h1:intsOf a with
 |none=>rw[h1]at h;exact nk h
 |some ns=>cases h2:intsOf b with
  |none=>rw[h1,h2]at h;cases h
  |some ms =>
   rw[h1,h2]at h;cases h;exact⟨ns,ms,by rw[dS h1],by rw[dS h2],rfl⟩
def zG(_:Scope)(_:ao)(e:Expr):Option (aC):=match Ab e with
 |some z=>match one z.2.2 with
  |some r=>if z.2.1=[.GtE]then some [z.1,r]else none
  |none=>none
 |none=>none
theorem EC{sc:Scope}{bl:ao}{e:Expr}(h:zG sc bl e=some args):∃l r p,e=.Compare l [.GtE] [r] p/\args=[l,r]:=by
 unfold zG at h;cases hv:Ab e with
 |none=>rw[hv]at h;exact nk h
 |some z =>
  obtain⟨l,os,rs⟩:=z;rw[hv]at h;obtain⟨p,rfl⟩:=sk hv;replace h:(match one rs with|some r=>if os=[.GtE]then some [l,r]else none|none=>none)=some args:=h;cases hw:one rs with
  |none=>rw[hw]at h;exact nk h
  |some r =>
   rw[hw]at h;replace h:(if os=[.GtE]then some [l,r]else none)=some args:=h;obtain rfl:=bS hw;by_cases hc:os=[.GtE]
   ·rw[if_pos hc]at h;cases h;subst hc;exact⟨l,r,p,rfl,rfl⟩
   ·rw[if_neg hc]at h;cases h
theorem RW{n:Nat}(hΦ:Φ n=Ow){sc:Scope}{bl:ao}{k:Nat}(L:PX X sc bl k){e:Expr}(he:zG sc bl e=some args)(hs:mz X F Φ cs args):PE X e (tD X F Φ (.cI n cs))/\PT X e (gW X F Φ (.cI n cs)):=by
 obtain⟨l,r,p,rfl,rfl⟩:=EC he;have hu:X.A.units<cLine:=by have:=L.room.units;left
 cases cs with
 |nil=>exact hs.elim
 |cons c cs=>cases cs with
  |nil=>exact hs.2.2.2.elim
  |cons c' cs=>cases cs with
   |cons _ _=>exact hs.2.2.2.2.2.2.elim
   |nil =>
    obtain⟨h1,_,_,h2,_,_,_⟩:=hs;have key:∀{σ:St} {H:Hp} {R:ak} {τ:Addr->Option br} {ρ:aZ} {d:D} {Q:VK},SI X F R τ ρ σ H->bz Φ (.cI n [c,c']) ρ=ok d->(∀b H2,d=.bl b->aM H H2->Q (.bl b) H2)->F0 (PC X.K) (tD X F Φ c) (tD X F Φ c') σ H Q:=by
     intro σ H R τ ρ d Q Si ev hq;obtain⟨xs,cn,ev⟩:=aH ev;obtain⟨x,ex,cn⟩:=aH cn;obtain⟨ys,ma,cn⟩:=aH cn;cases cn;obtain⟨y,ey,ma⟩:=aH ma;cases ma;rw[hΦ]at ev;obtain⟨ns,ms,rfl,rfl,rfl⟩:=MD ev;refine tD.intro Si ex λv H1 e1 r1=>tD.intro (Si.go e1) ey λu H2 e2 r2=>?_;obtain⟨_,_,p1⟩:=r1.go e2;obtain⟨_,_,p2⟩:=r2;cases p1 with
     |tup t1 s1=>cases p2 with
      |tup t2 s2 =>
       cases s1.ofInts;cases s2.ofInts;exact⟨_,_,ns,ms,rfl,rfl,t1,t2,hq _ H2 rfl (e1.trans e2)⟩
    refine⟨PE.imp (sS (CQ hu) h1 h2 (CW _)) λσ H Q hq=>?_,PT.imp (sM (CQ hu) h1 h2 (CW _)) λσ H Q hq=>?_⟩
    ·obtain⟨R,τ,ρ,d,Si,ev,hq⟩:=hq;exact key Si ev λb H2 e es=>hq _ H2 es (by subst e;exact .bl)
    ·obtain⟨R,τ,ρ,b,Si,ev,hq⟩:=hq;obtain⟨d,ed,et⟩:=aH ev;refine key Si ed λb' H2 e es=>?_;subst e;cases et;exact⟨_,rfl,hq H2 es⟩
section
variable {X:Cx}
end
end DI
end
section
namespace DI
open PySem PySem.Spec PyProof.Rows L2 PySem.W
noncomputable def de{α:Type}(lt:Nat->Nat->Bool):KasT α->α
 |.ret a=>a
 |.ask i j k=>de lt (k (lt i j))
theorem hJ{α β:Type}(lt:Nat->Nat->Bool)(f:α->KasT β):∀t:KasT α,de lt (t.bind f)=de lt (f (de lt t))
 |.ret a=>rfl
 |.ask i j k=>hJ lt f (k (lt i j))
section
noncomputable def j8{α:Type}(n:Nat)(lt:Nat->Nat->Bool):KasT α->Prop
 |.ret _=>True
 |.ask i j k=>i<n/\j<n/\j8 n lt (k (lt i j))
end
theorem zQ{α:Type}{cmp:Nat->Nat->(Bool->Shared->Prop)->Shared->Prop}{lt:Nat->Nat->Bool}{s:Shared}{n:Nat}(hc:∀i j C,i<n->j<n->C (lt i j) s->cmp i j C s){Q:α->Shared->Prop}:
  ∀(t:KasT α),j8 n lt t->Q (de lt t) s->t.kasWp cmp Q s
 |.ret a,_,h=>h
 |.ask i j k,⟨h1,h2,h3⟩,h=>hc i j _ h1 h2 (zQ hc (k (lt i j)) h3 h)
theorem fN{α β:Type}{lt:Nat->Nat->Bool}{n:Nat}{f:α->KasT β}:∀{t:KasT α},j8 n lt t->j8 n lt (f (de lt t))->j8 n lt (t.bind f)
 |.ret _,_,h=>h
 |.ask i j k,⟨h1,h2,h3⟩,h=>⟨h1,h2,fN h3 h⟩
structure Ord(lt:Nat->Nat->Bool)(n:Nat):Prop where
 tr:∀a b c,a<n->b<n->c<n->lt a b=true->lt b c=true->lt a c=true
 as:∀a b,a<n->b<n->lt a b=true->lt b a=false
 SY:∀a b,a<n->b<n->a≠b->lt a b=true\/lt b a=true
structure Arr(p:Array Nat)(n:Nat):Prop where
 sz:p.size=n
 pm:p.toList.Perm (List.range n)
section
variable {lt:Nat->Nat->Bool}{n:Nat}{p:Array Nat}
theorem Arr.bd(h:Arr p n){i:Nat}(hi:i<n):p.getD i 0<n:=by
 have iu:i<p.size:=by rw[h.sz];exact hi
 have:p.getD i 0=p[i]:=by simp[Array.getD,iu]
 rw[this];have hm:p[i]∈p.toList:=Array.getElem_mem_toList iu;exact List.mem_range.mp (h.pm.mem_iff.mp hm)
theorem Arr.inj(h:Arr p n){i j:Nat}(hi:i<n)(hj:j<n)(e:p.getD i 0=p.getD j 0):i=j:=by
 have iu:i<p.toList.length:=by rw[Array.length_toList,h.sz];exact hi
 have Fg:j<p.toList.length:=by rw[Array.length_toList,h.sz];exact hj
 have nd:p.toList.Nodup:=h.pm.nodup_iff.mpr List.nodup_range;have e1:p.getD i 0=p.toList[i]:=by simp[Array.getD,show i<p.size by rw[h.sz];exact hi]
 have e2:p.getD j 0=p.toList[j]:=by simp[Array.getD,show j<p.size by rw[h.sz];exact hj]
 rw[e1,e2]at e;exact(ach nd).mp e
def Up(lt:Nat->Nat->Bool)(p:Array Nat)(k:Nat):Prop:=∀i j,i<j->j<k->lt (p.getD i 0) (p.getD j 0)=true
def Dn(lt:Nat->Nat->Bool)(p:Array Nat)(k:Nat):Prop:=∀i j,i<j->j<k->lt (p.getD j 0) (p.getD i 0)=true
theorem Up.snoc(O:Ord lt n)(h:Arr p n){k:Nat}(hk:k<n)(h1:1<=k)(u:Up lt p k)(hl:lt (p.getD (k - 1) 0) (p.getD k 0)=true):Up lt p (k+1):=λi j ka hj=>by
 by_cases e:j=k
 ·subst e;by_cases e2:i=j - 1
  ·subst e2;exact hl
  ·exact O.tr _ _ _ (h.bd (by left)) (h.bd (by left)) (h.bd hk) (u i (j - 1) (by left) (by left)) hl
 ·exact u i j ka (by left)
theorem Dn.snoc(O:Ord lt n)(h:Arr p n){k:Nat}(hk:k<n)(h1:1<=k)(u:Dn lt p k)(hl:lt (p.getD k 0) (p.getD (k - 1) 0)=true):Dn lt p (k+1):=λi j ka hj=>by
 by_cases e:j=k
 ·subst e;by_cases e2:i=j - 1
  ·subst e2;exact hl
  ·exact O.tr _ _ _ (h.bd hk) (h.bd (by left)) (h.bd (by left)) hl (u i (j - 1) (by left) (by left))
 ·exact u i j ka (by left)
theorem uf(O:Ord lt n)(h:Arr p n):∀(f k:Nat),1<=k->k+f<=n->Up lt p k->j8 n lt (kas_asc p f k)/\k<=de lt (kas_asc p f k)/\de lt (kas_asc p f k)<=k+f/\Up lt p (de lt (kas_asc p f k))
 |0,k,_,_,u=>⟨trivial,aak _,aak _,u⟩
 |f+1,k,h1,hf,u=>by
  have a1:p.getD k 0<n:=h.bd (by left);have a2:p.getD (k - 1) 0<n:=h.bd (by left);cases c:lt (p.getD k 0) (p.getD (k - 1) 0)with
  |true =>
   have e:de lt (kas_asc p (f+1) k)=k:=by
    show de lt (if lt (p.getD k 0) (p.getD (k - 1) 0)=true then .ret k else kas_asc p f (k+1))=k;rw[c];rfl
   refine⟨⟨a1,a2,?_⟩,by rw[e];exact aak _,by rw[e];left,by rw[e];exact u⟩;show j8 n lt (if lt (p.getD k 0) (p.getD (k - 1) 0)=true then .ret k else kas_asc p f (k+1));rw[c];trivial
  |false =>
   have e:de lt (kas_asc p (f+1) k)=de lt (kas_asc p f (k+1)):=by
    show de lt (if lt (p.getD k 0) (p.getD (k - 1) 0)=true then .ret k else kas_asc p f (k+1))=_;rw[c];rfl
   have hl:lt (p.getD (k - 1) 0) (p.getD k 0)=true:=by
    rcases O.SY _ _ a2 a1 (λz=>absurd (h.inj (by left) (by left) z) (by left))with z|z
    ·exact z
    ·rw[c]at z;cases z
   obtain⟨b1,b2,b3,b4⟩:=uf O h f (k+1) (by left) (by left) (u.snoc O h (by left) h1 hl);refine⟨⟨a1,a2,?_⟩,by rw[e];left,by rw[e];left,by rw[e];exact b4⟩;show j8 n lt (if lt (p.getD k 0) (p.getD (k - 1) 0)=true then .ret k else kas_asc p f (k+1));rw[c];exact b1
theorem zB(O:Ord lt n)(h:Arr p n):∀(f k:Nat),1<=k->k+f<=n->Dn lt p k->j8 n lt (kas_desc f p k 0)/\∃m,de lt (kas_desc f p k 0)=(p,m,0)/\k<=m/\m<=k+f/\Dn lt p m
 |0,k,_,_,u=>⟨trivial,k,rfl,aak _,aak _,u⟩
 |f+1,k,h1,hf,u=>by
  have a1:p.getD k 0<n:=h.bd (by left);have a2:p.getD (k - 1) 0<n:=h.bd (by left);cases c:lt (p.getD k 0) (p.getD (k - 1) 0)with
  |true =>
   obtain⟨b1,m,b2,b3,b4,b5⟩:=zB O h f (k+1) (by left) (by left) (u.snoc O h (by left) h1 c);have e:kas_desc (f+1) p k 0=.ask (p.getD k 0) (p.getD (k - 1) 0) λc=>if c=true then(if (0:Nat)>0 then kas_desc f (kas_rev p (k - (0+1)) k) (k+1) 0 else kas_desc f p (k+1) 0)else .ask (p.getD (k - 1) 0) (p.getD k 0) λd=>if d=true then .ret (p,k,0)else kas_desc f p (k+1) (0+1):=rfl
   rw[e];refine⟨⟨a1,a2,?_⟩,m,?_,by left,by left,b5⟩
   ·rw[c];exact b1
   ·show de lt (if lt (p.getD k 0) (p.getD (k - 1) 0)=true then _ else _)=_;rw[c];exact b2
  |false =>
   have hl:lt (p.getD (k - 1) 0) (p.getD k 0)=true:=by
    rcases O.SY _ _ a2 a1 (λz=>absurd (h.inj (by left) (by left) z) (by left))with z|z
    ·exact z
    ·rw[c]at z;cases z
   have e:kas_desc (f+1) p k 0=.ask (p.getD k 0) (p.getD (k - 1) 0) λc=>if c=true then(if (0:Nat)>0 then kas_desc f (kas_rev p (k - (0+1)) k) (k+1) 0 else kas_desc f p (k+1) 0)else .ask (p.getD (k - 1) 0) (p.getD k 0) λd=>if d=true then .ret (p,k,0)else kas_desc f p (k+1) (0+1):=rfl
   rw[e];refine⟨⟨a1,a2,?_⟩,k,?_,aak _,by left,u⟩
   ·rw[c];exact⟨a2,a1,by rw[hl];trivial⟩
   ·show de lt (if lt (p.getD k 0) (p.getD (k - 1) 0)=true then _ else _)=_;rw[c];show de lt (if lt (p.getD (k - 1) 0) (p.getD k 0)=true then _ else _)=_;rw[hl];rfl
theorem nQ{p q:Array Nat}{i j:Nat}(h:p[i]?=q[j]?):p.getD i 0=q.getD j 0:=by
 rw[Array.getD_eq_getD_getElem?,Array.getD_eq_getD_getElem?,h]
theorem KP(h:Arr p n){m:Nat}(hm:m<=n):Arr (kas_rev p 0 m) n/\(Dn lt p m->Up lt (kas_rev p 0 m) m):=by
 have hs:(kas_rev p 0 m).size=p.size:=mirror_size _ _ _ _;refine⟨⟨by rw[hs];exact h.sz,?_⟩,λu i j ka hj=>?_⟩
 ·have:=(mirror_perm p 0 m ((m - 0) / 2)).toList;exact this.trans h.pm
 ·have g:∀k,k<m->(kas_rev p 0 m).getD k 0=p.getD (m - 1 - k) 0:=λk hk=>by
   refine nQ ?_;rw[show kas_rev p 0 m=mirror p 0 m ((m - 0) / 2) from rfl,getElem?_mirror_all (by rw[h.sz];exact hm),if_pos ⟨Nat.zero_le _,hk⟩];congr 1;left
  rw[g i (by left),g j hj];exact u (m - 1 - j) (m - 1 - i) (by left) (by left)
theorem BM(O:Ord lt n)(h:Arr p n){m:Nat}(h1:1<=m)(hm:m<=n)(u:Dn lt p m):j8 n lt (kas_tail3 m n p)/\∃r,de lt (kas_tail3 m n p)=r/\Arr r.2 n/\1<=r.1/\r.1<=n/\Up lt r.2 r.1:=by
 obtain⟨a1,a2⟩:=KP (lt:=lt) h hm;obtain⟨b1,b2,b3,b4⟩:=uf O a1 (n - m) m h1 (by left) (a2 u);unfold kas_tail3;refine⟨fN b1 trivial,_,rfl,?_⟩;rw[hJ];exact⟨a1,aaD h1 b2,by show de lt _<=n;left,b4⟩
theorem Eu(O:Ord lt n)(h:Arr p n)(hn:2<=n):j8 n lt (kas_count n p)/\∃r,de lt (kas_count n p)=r/\Arr r.2 n/\1<=r.1/\r.1<=n/\Up lt r.2 r.1:=by
 obtain⟨b1,b2,b3,b4⟩:=uf O h (n - 1) 1 (aak _) (by left) (λi j _ _=>by left);generalize hk:de lt (kas_asc p (n - 1) 1)=k at *;have key:∀t:KasT (Nat×Array Nat),t=(if (k==n)=true then .ret (k,p)else if k>1 then .ask (p.getD 0 0) (p.getD (k - 1) 0) λc=>if c=true then .ret (k,p)else kas_descPart k n (kas_rev p 0 k)else kas_descPart k n p) ->
   j8 n lt t/\∃r,de lt t=r/\Arr r.2 n/\1<=r.1/\r.1<=n/\Up lt r.2 r.1:=by
  intro t ht;by_cases e:k=n
  ·rw[if_pos (by simpa using e)]at ht;subst ht;exact⟨trivial,(k,p),rfl,h,b2,by show k<=n;left,b4⟩
  ·rw[if_neg (by simpa using e)]at ht;by_cases e1:k>1
   ·rw[if_pos e1]at ht;subst ht;have hl:lt (p.getD 0 0) (p.getD (k - 1) 0)=true:=b4 0 (k - 1) (by left) (by left);refine⟨⟨h.bd (by left),h.bd (by left),by rw[hl];trivial⟩,(k,p),?_,h,b2,by left,b4⟩;show de lt (if lt (p.getD 0 0) (p.getD (k - 1) 0)=true then _ else _)=_;rw[hl];rfl
   ·rw[if_neg e1]at ht;have hk1:k=1:=by left
    subst hk1;subst ht;have hl:lt (p.getD 1 0) (p.getD 0 0)=true:=by
     have a1:p.getD 1 0<n:=h.bd (by left);have a0:p.getD 0 0<n:=h.bd (by left);cases c:lt (p.getD 1 0) (p.getD 0 0)with
     |true=>rfl
     |false =>
      exfalso;obtain⟨f,hf⟩:∃f,n - 1=f+1:=⟨n - 2,by left⟩
      rw[hf]at hk;have e':de lt (kas_asc p (f+1) 1)=de lt (kas_asc p f 2):=by
       show de lt (if lt (p.getD 1 0) (p.getD (1 - 1) 0)=true then .ret 1 else kas_asc p f 2)=_;rw[show(1 - 1:Nat)=0 from rfl,c];rfl
      rw[e']at hk;have u2:Up lt p 2:=λi j ka hj=>by
       have:i=0/\j=1:=by left
       obtain⟨rfl,rfl⟩:=this;rcases O.SY _ _ a0 a1 (λz=>absurd (h.inj (by left) (by left) z) (by left))with z|z
       ·exact z
       ·rw[c]at z;cases z
      obtain⟨_,c2,_,_⟩:=uf O h f 2 (by left) (by left) u2;left
    have d2:Dn lt p 2:=λi j ka hj=>by
     have:i=0/\j=1:=by left
     obtain⟨rfl,rfl⟩:=this;exact hl
    obtain⟨c1,m,c2,c3,c4,c5⟩:=zB O h (n - 2) 2 (by left) (by left) d2;obtain⟨t1,r,t2,t3⟩:=BM O h (m:=m) (by left) (by left) c5;unfold kas_descPart;refine⟨fN c1 ?_,r,?_,t3⟩
    ·rw[show(1+1:Nat)=2 from rfl,show n - 2=n - 2 from rfl,c2];exact t1
    ·rw[hJ,show(1+1:Nat)=2 from rfl,c2];exact t2
 have e:=key _ rfl;refine⟨?_,?_⟩
 ·unfold kas_count;exact fN b1 (by rw[hk];exact e.1)
 ·unfold kas_count;rw[hJ,hk];exact e.2
theorem Arr.or(O:Ord lt n)(h:Arr p n){i j:Nat}(hi:i<n)(hj:j<n)(e:i≠j)(c:lt (p.getD i 0) (p.getD j 0)=false):lt (p.getD j 0) (p.getD i 0)=true:=by
 rcases O.SY _ _ (h.bd hi) (h.bd hj) (λz=>e (h.inj hi hj z))with z|z
 ·rw[c]at z;cases z
 ·exact z
theorem oU(O:Ord lt n)(h:Arr p n){k:Nat}(hk:k<n)(u:Up lt p k):∀(f l r:Nat),l<=r->r<=k->r - l<=f->(∀i,i<l->lt (p.getD i 0) (p.getD k 0)=true)->(∀i,r<=i->i<k->lt (p.getD k 0) (p.getD i 0)=true) ->
  j8 n lt (kas_place p k f l r)/\∃m,de lt (kas_place p k f l r)=m/\m<=k/\(∀i,i<m->lt (p.getD i 0) (p.getD k 0)=true)/\∀i,m<=i->i<k->lt (p.getD k 0) (p.getD i 0)=true
 |0,l,r,hl,hr,hf,a,b=>by
  have:l=r:=by left
  subst this;exact⟨trivial,l,rfl,hr,a,b⟩
 |f+1,l,r,hl,hr,hf,a,b=>by
  have e:kas_place p k (f+1) l r=if l ≥ r then .ret l else .ask (p.getD k 0) (p.getD ((l+r) / 2) 0) λc=>if c=true then kas_place p k f l ((l+r) / 2)else kas_place p k f ((l+r) / 2+1) r:=rfl
  rw[e];by_cases Mi:l ≥ r
  ·rw[if_pos Mi];have:l=r:=by left
   subst this;exact⟨trivial,l,rfl,hr,a,b⟩
  ·rw[if_neg Mi];have hm:l<=(l+r) / 2/\(l+r) / 2<r:=by left
   generalize (l+r) / 2=m at *;have b1:p.getD k 0<n:=h.bd hk;have b2:p.getD m 0<n:=h.bd (by left);cases c:lt (p.getD k 0) (p.getD m 0)with
   |true =>
    obtain⟨c1,m',c2,c3⟩:=oU O h hk u f l m hm.1 (by left) (by left) a λi h1 h2=>by
     by_cases e:i=m
     ·subst e;exact c
     ·exact O.tr _ _ _ b1 b2 (h.bd (by left)) c (u m i (by left) h2)
    refine⟨⟨b1,b2,by rw[c];exact c1⟩,m',?_,c3⟩;show de lt (if lt (p.getD k 0) (p.getD m 0)=true then _ else _)=_;rw[c];exact c2
   |false =>
    have qC:=h.or O hk (by left) (by left) c;obtain⟨c1,m',c2,c3⟩:=oU O h hk u f (m+1) r (by left) hr (by left) (λi hi=>by
     by_cases e:i=m
     ·subst e;exact qC
     ·exact O.tr _ _ _ (h.bd (by left)) b2 b1 (u i m (by left) (by left)) qC) b
    refine⟨⟨b1,b2,by rw[c];exact c1⟩,m',?_,c3⟩;show de lt (if lt (p.getD k 0) (p.getD m 0)=true then _ else _)=_;rw[c];exact c2
theorem A9(h:Arr p n){k m:Nat}(hk:k<n)(hm:m<=k)(u:Up lt p k)(a:∀i,i<m->lt (p.getD i 0) (p.getD k 0)=true)(b:∀i,m<=i->i<k->lt (p.getD k 0) (p.getD i 0)=true):
  Arr (bubble p k (k - m)) n/\Up lt (bubble p k (k - m)) (k+1):=by
 have hs:(bubble p k (k - m)).size=p.size:=bubble_size _ _ _;refine⟨⟨by rw[hs];exact h.sz,(bubble_perm p k (k - m)).toList.trans h.pm⟩,λi j ka hj=>?_⟩;have g:∀t,(bubble p k (k - m)).getD t 0=if t=m then p.getD k 0 else if m<t/\t<=k then p.getD (t - 1) 0 else p.getD t 0:=λt=>by
  have e:=getElem?_bubble (xs:=p) (src:=k) (by rw[h.sz];exact hk) (k - m) (Nat.sub_le _ _) t;rw[show k - (k - m)=m by left]at e;by_cases h1:t=m
  ·rw[if_pos h1]at e ⊢;exact nQ e
  ·rw[if_neg h1]at e ⊢;by_cases h2:m<t/\t<=k
   ·rw[if_pos h2]at e ⊢;exact nQ e
   ·rw[if_neg h2]at e ⊢;exact nQ e
 rw[g i,g j];by_cases i1:i=m
 ·rw[if_pos i1,if_neg (by left),if_pos (by left)];exact b (j - 1) (by left) (by left)
 ·rw[if_neg i1];by_cases i2:m<i/\i<=k
  ·rw[if_pos i2,if_neg (by left),if_pos (by left)];exact u (i - 1) (j - 1) (by left) (by left)
  ·rw[if_neg i2];by_cases j1:j=m
   ·rw[if_pos j1];exact a i (by left)
   ·rw[if_neg j1];by_cases j2:m<j/\j<=k
    ·rw[if_pos j2];by_cases e:i=j - 1
     ·left
     ·exact u i (j - 1) (by left) (by left)
    ·rw[if_neg j2];exact u i j ka (by left)
end
theorem EL{lt:Nat->Nat->Bool}{n:Nat}(O:Ord lt n):∀(f:Nat) {p:Array Nat} {k:Nat},Arr p n->k+f=n->Up lt p k->j8 n lt (kas_bin f p k)/\Arr (de lt (kas_bin f p k)) n/\Up lt (de lt (kas_bin f p k)) n
 |0,p,k,h,hk,u=>⟨trivial,h,by rw[<- hk];exact u⟩
 |f+1,p,k,h,hk,u=>by
  obtain⟨a1,m,a2,a3,a4,a5⟩:=oU O h (k:=k) (by left) u k 0 k (aaS _) (aak _) (aak _) (λi hi=>by left) (λi h1 h2=>by left);obtain⟨b1,b2⟩:=A9 h (by left) a3 u a4 a5;obtain⟨c1,c2,c3⟩:=EL O f b1 (by left) b2;have e:kas_bin (f+1) p k=(kas_place p k k 0 k).bind λl=>kas_bin f (bubble p k (k - l)) (k+1):=rfl;rw[e];refine⟨fN a1 (by rw[a2];exact c1),?_⟩;rw[hJ,a2];exact⟨c2,c3⟩
theorem F7{lt:Nat->Nat->Bool}{n:Nat}(O:Ord lt n)(hn:2<=n):j8 n lt (kas_sort n)/\Arr (de lt (kas_sort n)) n/\Up lt (de lt (kas_sort n)) n:=by
 have h0:Arr (List.toArray (List.range n)) n:=⟨by simp,by simp⟩
 obtain⟨a1,r,a2,a3,a4,a5,a6⟩:=Eu O h0 hn;unfold kas_sort;have key:∀t,t=(if r.1<n then kas_bin (n - max r.1 1) r.2 (max r.1 1)else .ret r.2)->j8 n lt t/\Arr (de lt t) n/\Up lt (de lt t) n:=by
  intro t ht;by_cases h:r.1<n
  ·rw[if_pos h]at ht;subst ht;rw[show max r.1 1=r.1 by left];exact EL O _ a3 (by left) a6
  ·rw[if_neg h]at ht;subst ht;have:r.1=n:=by left
   exact⟨trivial,a3,by rw[this]at a6;exact a6⟩
 have e:=key _ rfl;refine⟨fN a1 (by rw[a2];exact e.1),?_⟩;rw[hJ,a2];exact e.2
end DI
end
section
namespace DI
open PySem PySem.Spec PyProof.Rows L2
def p6(h:Heap)(vs:av)(nss:aA):Prop:=vs.length=nss.length/\∀(i:Nat) (ns:ae),nss[i]?=some ns->∃t aK,vs[i]?=some (.ref t)/\IsTup h t aK.toArray/\IntsAre aK ns
variable {h':Heap}{nss:aA}{vs:av}
theorem p6.mono{h:Heap}(k:∀b o,h.get? b=some o->h'.get? b=some o)(t:p6 h vs nss):p6 h' vs nss :=
 ⟨t.1,λi ns e=>let ⟨a,aK,e1,⟨o,ho,r⟩,e3⟩:=t.2 i ns e;⟨a,aK,e1,⟨o,k _ _ ho,r⟩,e3⟩⟩
theorem p6.mem{h:Heap}(t:p6 h vs nss){v:Value}(hv:v∈vs):∃a aK ns,v=.ref a/\IsTup h a aK.toArray/\IntsAre aK ns:=by
 obtain⟨i,hi⟩:=List.mem_iff_getElem?.mp hv;have hl:i<nss.length:=by rw[<- t.1];exact(List.getElem?_eq_some_iff.mp hi).1
 obtain⟨a,aK,e1,e2,e3⟩:=t.2 i _ (aam hl);rw[hi]at e1;cases e1;exact⟨a,aK,_,rfl,e2,e3⟩
section
variable {prog:aE}{w:World}{A:aJ}{E:aB}{s:Shared}
theorem pH:∀{vs:av} {nss:aA} {Q:List (Option Value)->Shared->Prop},p6 s.heap vs nss->(∀fs:List (Option Value),fs.length=vs.length->(∀f∈fs,∀v,f=some v->∃n t,v=.int n t)->Q fs s)->wpAny (model prog w) A (vs.mapM firstOfTuple') Q E s
 |[],_,_,_,h=>by rw[List.mapM_nil];exact aaf (h [] rfl λ_ h=>nomatch h)
 |v::vs,[],_,t,_=>by have:=t.1;simp at this
 |v::vs,ns::nss,Q,t,h=>by
  obtain⟨a,aK,e,⟨o,ho,hc,n,hd⟩,hi⟩:=t.2 0 ns rfl;cases e;rw[List.mapM_cons];refine aab ?_;rw[PySem.W.kas_first_eq];refine aab (PySem.W.Looks.here (show PySem.W.Looks (model prog w) s.heap (typeOf (.ref a)) o.cls from(PySem.W.Looks.ld ho).andThen .now) ?_);rw[hc,if_neg (by first|decide|simp)];refine aab (listItems_at ho hd (aaf ?_));refine aab (pH (vs:=vs) (nss:=nss) ⟨by simpa using t.1,λi ms e=>t.2 (i+1) ms e⟩ λfs h1 h2=>aaf (h _ (by simp[h1]) λf hf v hv=>?_));rcases List.mem_cons.mp hf with rfl|hf
  ·cases hi with
   |nil=>simp at hv
   |cons a' tk hi=>simp at hv;exact⟨_,_,hv.symm⟩
  ·exact h2 f hf v hv
def JV(κ:SortKind):Prop:=κ=tuples' true\/κ=general'\/κ=oneType'
theorem kind_any{Q:SortKind->Shared->Prop}(t:p6 s.heap vs nss)(uq:vs≠[])(h:∀κ,JV κ->Q κ s):wpAny (model prog w) A (keyKind' vs.toArray) Q E s:=by
 obtain⟨v0,vr,rfl⟩:∃v0 vr,vs=v0::vr:=by
  cases vs with
  |nil=>exact absurd rfl uq
  |cons v0 vr=>exact⟨v0,vr,rfl⟩
 rw[kat_kind_eq,List.mapM_toArray,map_eq_pure_bind];refine aab (aab (pH t λfs hl hf=>aaf ?_));by_cases ha:(fs.toArray.all λx=>x.isSome)=true
 ·rw[if_pos ha];refine aab (wpAny_rule ?_);obtain⟨gs,hg,hgi⟩:∃gs:av,fs=gs.map some/\∀v∈gs,∃n t,v=.int n t:=by
   clear h hl t;induction fs with
   |nil=>exact⟨[],rfl,λ_ h=>nomatch h⟩
   |cons f fs ih =>
    simp only[List.all_toArray,List.all_cons,Bool.and_eq_true]at ha;obtain⟨gs,e1,e2⟩:=ih (λf hf'=>hf f (aae _ hf')) (by simpa using ha.2);cases f with
    |none=>simp at ha
    |some v =>
     exact⟨v::gs,by rw[e1];rfl,λu hu=>by
      rcases List.mem_cons.mp hu with rfl|hu
      ·exact hf _ aai _ rfl
      ·exact e2 u hu⟩
  subst hg;obtain⟨g0,gr,rfl⟩:∃g0 gr,gs=g0::gr:=by
   cases gs with
   |nil=>simp at hl
   |cons a b=>exact⟨a,b,rfl⟩
  have hfm:(((g0::gr).map some).toArray.filterMap id)=(g0::gr).toArray:=by simp
  rw[hfm,oneTypeOnly'_eq,List.mapM_toArray,map_eq_pure_bind];refine aab (aab (aab (PySem.W.kas_mapM (r:=Value.type "int") _ (λv hv Q' hq=>by
   obtain⟨n,t,rfl⟩:=hgi v hv;exact(PySem.W.Looks.of_pure (M:=model prog w) rfl).here hq) (aaf ?_))))
  have DQ:((List.map (λ_=>Value.type "int") (g0::gr)).toArray.all λx=>x==Value.type "int")=true:=by
   simp only[List.all_toArray,List.all_map,List.all_eq_true];intro _ _;show(Value.type "int" == Value.type "int")=true;decide
  have h0:(List.map (λ_=>Value.type "int") (g0::gr)).toArray[0]?=some (Value.type "int"):=by simp
  rw[h0];simp only[DQ,if_true];exact aaf (aaf (h _ (.inl rfl)))
 ·rw[if_neg ha];by_cases hb:((fs.toArray[0]?.bind id).isSome)=true
  ·rw[if_pos hb];exact aaf (h _ (.inr (.inl rfl)))
  ·rw[if_neg hb];rw[oneTypeOnly'_eq,List.mapM_toArray,map_eq_pure_bind];refine aab (aab (aab (PySem.W.kas_mapM (r:=Value.type "tuple") _ (λv hv Q' hq=>by
    obtain⟨a,aK,ns,rfl,⟨o,ho,hc,_⟩,_⟩:=t.mem hv;refine PySem.W.Looks.here (show PySem.W.Looks (model prog w) s.heap (typeOf (.ref a)) o.cls from(PySem.W.Looks.ld ho).andThen .now) ?_;rw[hc];exact hq) (aaf ?_))))
   have DQ:((List.map (λ_=>Value.type "tuple") (v0::vr)).toArray.all λx=>x==Value.type "tuple")=true:=by
    simp only[List.all_toArray,List.all_map,List.all_eq_true];intro _ _;show(Value.type "tuple" == Value.type "tuple")=true;decide
   have h0:(List.map (λ_=>Value.type "tuple") (v0::vr)).toArray[0]?=some (Value.type "tuple"):=by simp
   rw[h0];simp only[DQ,if_true];exact aaf (aaf (h _ (.inr (.inr rfl))))
theorem LA{κ:SortKind}(hk:JV κ)(hu:A.units<cLine){a b:Addr}{aK Dk:av}{ns ms:ae}{Q:Bool->Shared->Prop}(ha:IsTup s.heap a aK.toArray)(hb:IsTup s.heap b Dk.toArray)(hi:IntsAre aK ns)(hj:IntsAre Dk ms)(h:Q (HT.lexLt ns ms) s):
  wpAny (model prog w) A (keyLt' κ (.ref a) (.ref b)) Q E s:=by
 rcases hk with rfl|rfl|rfl
 ·obtain⟨o,ho,_,n,hd⟩:=ha;obtain⟨o',gg,_,n',Mm⟩:=hb;exact PySem.W.kat_lt ho hd gg Mm (vh 0 hi hj (by simp) h)
 ·exact PySem.W.kat_one _ _ (HT.xn ha hb (by simpa using hi) (by simpa using hj) hu h)
 ·show wpAny (model prog w) A (oneLt' true (.ref a) (.ref b)) Q E s;rw[oneLt'_eq];simp only[if_true];refine aab (wpAny_cRoomFor hu ?_);obtain⟨⟨cls,dd,data,sl⟩,ho,hc,n,hd⟩:=id ha;obtain⟨⟨NC,A3,data2,yE⟩,wo,hc2,n2,hd2⟩:=id hb;simp only at hc hd hc2 hd2;subst hc hd hc2 hd2;refine aab (wpAny_callSpecialIfBound?_slot (name:=Str.ofString "__lt__") ⟨_,ho,rfl⟩ abQ (abb abQ ⟨_,ho,rfl⟩ PySem.F.entry_tuple_lt (PySem.F.args_tuple_lt_2 _ _) (HT.j9 a b _ _ n n2 dd A3 sl yE ns ms (by simpa using hi) (by simpa using hj)) ⟨ho,wo,?_⟩));exact aaY h
end
def uk(h:Heap)(d:Addr)(es:Array DictEntry)(ep:Nat):Prop:=∃o,h.get? d=some o/\o.ExactDict/\o.data=.dict es ep
variable {Q:Value->Shared->Prop}
section
variable {prog:aE}{w:World}{A:aJ}{E:aB}{s:Shared}{d it:Addr}{es:Array DictEntry}{ep i:Nat}
theorem uk.typeIs(h:uk s.heap d es ep):s.TypeIs (.ref d) "dict":=let ⟨o,ho,hx,_⟩:=h;⟨o,ho,hx.1⟩
theorem zA(hd:(d==sysModules)=false)(hm:uk s.heap d es ep)
  (hQ:Q (.ref s.heap.objs.size) { s with heap:=s.heap.push { cls:=.type "dict_keyiterator",data:=.fields #[.ref d,.int 0 0,.int es.size 0,.int ep 0] } }):wpAny (model prog w) A (pyIter (.ref d)) Q E s:=by
 have hT:=hm.typeIs;obtain⟨o,ho,hx,DL⟩:=hm;refine wpAny_pyIter_slot hT PySem.F.slot_dict_iter (aaH PySem.F.slot_dict_iter hT PySem.F.entry_dict_iter ?_ (PySem.F.args_dict_iter_1 _));unfold Builtin.«dict.__iter__» Builtin.Dict.dictSlotNone;refine aab (aab (wpAny_notOrdered_dict hT (aaf ?_)));show wpAny _ _ (Builtin.Dict.showsAll d >>= _) _ _ s;unfold Builtin.Dict.showsAll;rw[if_neg (by rw[hd];exact Bool.false_ne_true)];refine aab (aaf (aab (acg ho DL (aab (wpAny_dictEpoch ho DL ?_)))));exact aab (aaE (aaf ⟨_,rfl,"dict_keyiterator",_,⟨_,aao _ rfl,rfl⟩,PySem.F.slot_dict_keyiterator_next.lookup,hQ⟩))
theorem zy{Q:Option Value->Shared->Prop}(hit:s.heap.IsKeyIter it d i es.size ep)(hm:uk s.heap d es ep)(iR:i<es.size)
  (hQ:∀h',h'.IsKeyIter it d (i+1) es.size ep->Heap.SameBut it s.heap h'->Q (some es[i].key) { s with heap:=h' }):wpAny (model prog w) A (pyNext (.ref it)) Q E s:=by
 obtain⟨o,ho,hc,hd⟩:=id hit;obtain⟨od,Q0,xE,Ri⟩:=hm;unfold pyNext;refine aab (abL (aaO (name:=Str.ofString "__next__") hit.typeIs aaT (aaH aaT hit.typeIs PySem.F.entry_dict_keyiterator_next ?_ (PySem.F.args_dict_keyiterator_next_1 _))));refine aab (aaf (aab (aab ?_)))
 first|refine aab (aa0 hit.typeIs (aaf ?_))|refine aab (aa7 hit.typeIs (aaf ?_))
 refine aab (wpAny_fieldsOf ho hd ?_);simp only[show Builtin.Dict_items.ownsTuple "dict_keyiterator" = false by decide,Bool.false_eq_true,if_false];show wpAny _ _ (if (Value.ref d==Value.none)=true then _ else _) _ _ s;rw[if_neg (show ¬ ((Value.ref d==Value.none)=true) from Bool.false_ne_true)];refine aab (aaf (aab (acg Q0 Ri ?_)));rw[if_neg (by simp)];refine aab (aaf (aab (wpAny_dictEpoch Q0 Ri ?_)));rw[if_neg (by simp)];refine aaf ?_;simp only[show ¬ ((i:Int)<0) from by left,if_false,Int.toNat_natCast,Array.getElem?_eq_getElem iR];refine aab ?_
 first|refine aab (aa0 hit.typeIs (aaf ?_))|refine aab (aa7 hit.typeIs (aaf ?_))
 refine aab (wpAny_isOneOf_keyiter hit.typeIs ?_);show wpAny _ _ (setField (.ref it) 1 (rawInt ((i:Int)+1)) >>= _) _ _ s;refine aab (ab7 ho hd (by simp) ?_);have Ho:(s.heap.update it (Obj.mapFields (·.setIfInBounds 1 (rawInt ((i:Int)+1))))).IsKeyIter it d (i+1) es.size ep :=
  ⟨_,aaW _ ho (Obj.isFreed_of_fields (Obj.data_mapFields hd _)),(Obj.cls_mapFields ..).trans hc,by rw[Obj.data_mapFields hd];simp[rawInt]⟩
 refine aab (aaF (aab (wpAny_isOneOf_keyiter (s:={ s with heap:=s.heap.update it (Obj.mapFields (·.setIfInBounds 1 (rawInt ((i:Int)+1)))) }) Ho.typeIs ?_)));show wpAny _ _ (pure es[i].key) _ _ _;exact aaf (aaf ⟨_,rfl,aaf (hQ _ Ho (aa9 ..))⟩)
theorem El{Q:Option Value->Shared->Prop}(hh:A.handled=none)(hit:s.heap.IsKeyIter it d i es.size ep)(hm:uk s.heap d es ep)(hge:es.size<=i)
  (hQ:∀h',Heap.ExtBut it s.heap h'->Q none { s with heap:=h' }):wpAny (model prog w) A (pyNext (.ref it)) Q E s:=by
 obtain⟨o,ho,hc,hd⟩:=id hit;obtain⟨od,Q0,xE,Ri⟩:=hm;unfold pyNext;refine aab (abL (aaO (name:=Str.ofString "__next__") hit.typeIs aaT (aaH aaT hit.typeIs PySem.F.entry_dict_keyiterator_next ?_ (PySem.F.args_dict_keyiterator_next_1 _))));refine aab (aaf (aab (aab ?_)))
 first|refine aab (aa0 hit.typeIs (aaf ?_))|refine aab (aa7 hit.typeIs (aaf ?_))
 refine aab (wpAny_fieldsOf ho hd ?_);simp only[show Builtin.Dict_items.ownsTuple "dict_keyiterator" = false by decide,Bool.false_eq_true,if_false];show wpAny _ _ (if (Value.ref d==Value.none)=true then _ else _) _ _ s;rw[if_neg (show ¬ ((Value.ref d==Value.none)=true) from Bool.false_ne_true)];refine aab (aaf (aab (acg Q0 Ri ?_)));rw[if_neg (by simp)];refine aab (aaf (aab (wpAny_dictEpoch Q0 Ri ?_)));rw[if_neg (by simp)];refine aaf ?_;simp only[show ¬ ((i:Int)<0) from by left,if_false,Int.toNat_natCast,Array.getElem?_eq_none hge];refine aab ?_
 first|refine aab (aa0 hit.typeIs (aaf ?_))|refine aab (aa7 hit.typeIs (aaf ?_))
 show wpAny _ _ (setField (.ref it) 0 .none >>= _) _ _ s;refine aab (ab7 ho hd (by simp) ?_);show wpAny _ _ (newExc (.type "StopIteration") [] >>= _) _ _ _;refine aab ?_;simp only[newExc,newTuple];refine aab (aaE ?_ (by size_fits));refine aab (m:=firstArgMember _ _) (wpAny_of_eq (a:=Value.none) (by first|rfl | (simp only[firstArgMember];rfl)) ?_);refine aaE ?_ (by size_fits);simp only[raiseNew];refine aab (wpAny_handled ?_);rw[show A.in1.handled=none from hh];refine aab (aaf (wpAny_throw ?_));refine aab (wpAny_isInstance (T:="StopIteration") (b:=true) ⟨_,aao _ rfl,rfl⟩ isSubtype_stop ?_);exact aaf (hQ _ (((aa9 ..).extBut.push _).push _))
end
theorem xq:∀a b c:ae,HT.lexLt a b=true->HT.lexLt b c=true->HT.lexLt a c=true
 |[],[],_,h,_=>by rw[HT.j_]at h;cases h
 |[],_::_,[],_,h=>by rw[HT.dj]at h;cases h
 |[],_::_,_::_,_,_=>rfl
 |_::_,[],_,h,_=>by rw[HT.dj]at h;cases h
 |_::_,_::_,[],_,h=>by rw[HT.dj]at h;cases h
 |x::a,y::b,z::c,h1,h2=>by
  rw[HT.dP]at *;by_cases e1:x=y
  ·subst e1;rw[if_pos rfl]at h1;by_cases e2:x=z
   ·subst e2;rw[if_pos rfl]at h2 ⊢;exact xq a b c h1 h2
   ·rw[if_neg e2]at h2 ⊢;exact h2
  ·rw[if_neg e1]at h1;have l1:x<y:=aad h1;by_cases e2:y=z
   ·subst e2;rw[if_neg (by left)];exact aaM l1
   ·rw[if_neg e2]at h2;have l2:y<z:=aad h2;rw[if_neg (by left)];exact aaM (by left)
theorem tj:∀a b:ae,HT.lexLt a b=true->HT.lexLt b a=false
 |[],[],_=>rfl
 |[],_::_,_=>rfl
 |_::_,[],h=>by rw[HT.dj]at h;cases h
 |x::a,y::b,h=>by
  rw[HT.dP]at *;by_cases e:x=y
  ·subst e;rw[if_pos rfl]at h ⊢;exact tj a b h
  ·rw[if_neg e]at h;have l:x<y:=aad h;rw[if_neg (by left)];exact aaN (by left)
theorem nP:∀a b:ae,a≠b->HT.lexLt a b=true\/HT.lexLt b a=true
 |[],[],h=>absurd rfl h
 |[],_::_,_=>.inl rfl
 |_::_,[],_=>.inr rfl
 |x::a,y::b,h=>by
  rw[HT.dP,HT.dP];by_cases e:x=y
  ·subst e;rw[if_pos rfl,if_pos rfl];exact nP a b λz=>h (by rw[z])
  ·rw[if_neg e,if_neg (Ne.symm e)];rcases Int.lt_or_gt_of_ne e with l|l
   ·exact .inl (aaM l)
   ·exact .inr (aaM l)
def bt(nss:aA):aA:=nss.mergeSort λa b=>!HT.lexLt b a
def ym(nss:aA):Prop:=nss.Pairwise λa b=>HT.lexLt a b=true
theorem yJ:∀{l m:aA},ym l->ym m->l.Perm m->l=m
 |[],m,_,_,p=>(List.perm_nil.mp p.symm).symm
 |a::l,[],_,_,p=>by have:=p.length_eq;simp at this
 |a::l,b::m,h1,h2,p=>by
  have e:a=b:=by
   have ha:a∈b::m:=p.mem_iff.mp aai;have hb:b∈a::l:=p.mem_iff.mpr aai;rcases List.mem_cons.mp ha with e|ha
   ·exact e
   ·rcases List.mem_cons.mp hb with e|hb
    ·exact e.symm
    ·have l1:=(List.pairwise_cons.mp h2).1 a ha;have l2:=(List.pairwise_cons.mp h1).1 b hb;rw[tj _ _ l1]at l2;cases l2
  subst e;rw[yJ (List.pairwise_cons.mp h1).2 (List.pairwise_cons.mp h2).2 (List.perm_cons a |>.mp p)]
theorem kj(h:nss.Nodup):ym (bt nss):=by
 have p:(bt nss).Perm nss:=aaU _ _;have nd:(bt nss).Nodup:=p.nodup_iff.mpr h;have sd:(bt nss).Pairwise λa b=>(!HT.lexLt b a)=true:=List.pairwise_mergeSort (λa b c h1 h2=>by
  cases e:HT.lexLt c a with
  |false=>rfl
  |true =>
   exfalso;by_cases nv:b=c
   ·subst nv;rw[e]at h1;cases h1
   ·rcases nP b c nv with l|l
    ·rw[xq _ _ _ l e]at h1;cases h1
    ·rw[l]at h2;cases h2) (λa b=>by
  cases e:HT.lexLt b a with
  |false=>rfl
  |true=>rw[tj _ _ e];rfl) nss
 exact(sd.and nd).imp λ{a b} ⟨h1,h2⟩=>by
  rcases nP a b h2 with l|l
  ·exact l
  ·rw[l]at h1;cases h1
theorem BW{l:aA}(h:nss.Nodup)(hr:ym l)(p:l.Perm nss):l=bt nss:=yJ hr (kj h) (p.trans (aaU _ _).symm)
def ltN(nss:aA)(i j:Nat):Bool:=HT.lexLt (nss.getD i []) (nss.getD j [])
theorem Lf(h:nss.Nodup):Ord (ltN nss) nss.length :=
 ⟨λa b c _ _ _ h1 h2=>xq _ _ _ h1 h2,λa b _ _ h=>tj _ _ h,λa b ha hb nv=>nP _ _ λe=>nv (by
  have e1:nss.getD a []=nss[a]:=by simp[ha]
  have e2:nss.getD b []=nss[b]:=by simp[hb]
  rw[e1,e2]at e;exact(ach h).mp e)⟩
theorem qU(h:nss.Nodup){p:Array Nat}(ha:Arr p nss.length)(hu:Up (ltN nss) p nss.length):(p.toList.map λi=>nss.getD i [])=bt nss:=by
 refine BW h ?_ ?_
 ·refine List.pairwise_iff_getElem.mpr λi j hi hj ka=>?_;simp only[List.length_map,Array.length_toList]at hi hj;have:=hu i j ka (by rw[<- ha.sz];exact hj);unfold ltN at this;have e:∀k (hk:k<p.size),p.getD k 0=p[k]:=λk hk=>by simp[Array.getD,hk]
  rw[e i hi,e j hj]at this;simpa using this
 ·have e:nss=(List.range nss.length).map λi=>nss.getD i []:=by
   refine abP (by simp) λi h1 h2=>?_;simp[h1]
  refine(ha.pm.map λi=>nss.getD i []).trans ?_;rw[<- e]
variable {ep n1:Nat}
section
variable {prog:aE}{w:World}{A:aJ}{E:aB}{s:Shared}
theorem uG{a:Addr}{n:Nat}{P:PySem.Fin->Shared->Prop}(hu:A.units<cLine)(ho:s.heap.get? a=some (seqObj "list" vs.toArray n))(pw:vs.length<64)(y_:nss.Nodup)
  (ht:p6 (((s.heap.update a (Obj.mapSeq λ_=>#[])).push (seqObj "tuple" vs.toArray 0)).push (seqObj "list" #[] 0)) vs nss)
  (h:∀p:Array Nat,Arr p vs.length->(p.toList.map λi=>nss.getD i [])=bt nss->P (.done (.ret .none)) { s with heap:=sortedHeap s.heap a vs (List.toArray (p.toList.map λi=>vs.getD i Value.none)) }) :
  wpAny (model prog w) A (Builtin.«list.sort» ⟨[.ref a],[]⟩) P E s:=by
 rw[list_sort_plain];have ha:a<s.heap.objs.size:=aah ho;have hsz:vs.toArray.size=vs.length:=by simp
 have hz:vs.length<=sizeLine:=by rw[sizeLine_eq];left
 have hl:=ht.1;refine aab (listItems_at ho rfl (aab (listUpdate_at ho rfl ?_ (by rw[hsz];exact hz) (aaS _))));obtain⟨e1,Og⟩:∃e1,(s.heap.update a (Obj.mapSeq λ_=>#[])).get? a=some (seqObj "list" #[] e1):=⟨_,get?_update_seq ho (λ_=>#[])⟩
 refine aab (seqEpoch_at Og rfl (aab (wpAny_newTuple (aab (abK (aaF ?_) (aaS _))) (by simpa using hz))));have Zr:(((s.heap.update a (Obj.mapSeq λ_=>#[])).push (seqObj "tuple" vs.toArray 0)).push (seqObj "list" #[] 0)).get? a=some (seqObj "list" #[] e1):=aag _ (aag _ Og);show wpAny (model prog w) A _ P E ({ s with heap:=((s.heap.update a (Obj.mapSeq λ_=>#[])).push (seqObj "tuple" vs.toArray 0)).push (seqObj "list" #[] 0) }:Shared);dsimp only;have fin:∀(m6:SortSt) (p:Array Nat),Arr p vs.length->(p.toList.map λi=>nss.getD i [])=bt nss->(arrOf m6).map (·.2)=List.toArray (p.toList.map λi=>vs.getD i Value.none)->failedOf m6=none->wpAny (model prog w) A (do
   let touched:=(<- seqEpoch a) != e1
   Builtin.List.listUpdate (.ref a) λ_=>(arrOf m6).map (·.2)
   if let some e:=failedOf m6 then rule "list.sort.comparison-raised";throw e
   if touched then rule "list.sort.modified";raiseError "ValueError" "list modified during sort"
   ret .none) P E ({ s with heap:=((s.heap.update a (Obj.mapSeq λ_=>#[])).push (seqObj "tuple" vs.toArray 0)).push (seqObj "list" #[] 0) }:Shared):=by
  intro m6 p hp hs hA hF;refine aab (seqEpoch_at Zr rfl ?_);rw[hA];refine aab (listUpdate_at Zr rfl ?_ (aaS _) (by rw[List.size_toArray,List.length_map,Array.length_toList,hp.sz];exact acf hz));rw[hF];simp only[bne_self_eq_false,Bool.false_eq_true,if_false];exact aaf (h p hp hs)
 by_cases h2:vs.toArray.size<2
 ·rw[if_pos h2,if_pos h2];refine aab (aaf ?_);rw[StateT.run_pure];refine aab (aaf ?_);rw[hsz]at h2;have WX:Arr (List.toArray (List.range vs.length)) vs.length:=⟨by simp,by simp⟩
  refine fin (SortSt.mk' general' (vs.toArray.zip vs.toArray) #[] 7 none) (List.toArray (List.range vs.length)) WX ?_ ?_ rfl
  ·rw[hl]at WX ⊢;exact qU y_ WX λi j ka hj=>by left
  ·apply Array.toList_inj.mp;show(Array.map (·.2) (vs.toArray.zip vs.toArray)).toList=_;rw[Array.toList_map,show(vs.toArray.zip vs.toArray)=pairsOf vs from rfl,pairsOf_toList,List.map_snd_zip (Nat.le_refl _)];refine abP (by simp) λi h1 h2=>?_;simp[h1]
 ·rw[if_neg h2,if_neg h2];rw[hsz]at h2;refine aab (kind_any ht (λz=>by rw[z]at h2;simp at h2) λκ hk=>?_);have ok:=F7 (Lf y_) (by rw[<- hl];left);refine aab (aav (PySem.W.kat_run (ks:=vs) (vs:=vs) (κ:=κ) (Q:=λm6 s'=>s'=({ s with heap:=((s.heap.update a (Obj.mapSeq λ_=>#[])).push (seqObj "tuple" vs.toArray 0)).push (seqObj "list" #[] 0) }:Shared)/\∃p,Arr p vs.length/\(p.toList.map λi=>nss.getD i [])=bt nss/\(arrOf m6).map (·.2)=List.toArray (p.toList.map λi=>vs.getD i Value.none)/\failedOf m6=none)
   (G:=λp s'=>s'=({ s with heap:=((s.heap.update a (Obj.mapSeq λ_=>#[])).push (seqObj "tuple" vs.toArray 0)).push (seqObj "list" #[] 0) }:Shared)/\Arr p vs.length/\(p.toList.map λi=>nss.getD i [])=bt nss) rfl (by left) pw (λp m6 s' hps har hf hG=>⟨hG.1,p,hG.2.1,hG.2.2,PySem.W.kat_snds rfl har,hf⟩) ?_) (λr s' ⟨e,p,hp,hs,hA,hF⟩=>?_) λ_ _ e=>e)
  rotate_left
  ·subst e;exact fin r.2 p hp hs hA hF
  ·rw[hl];refine zQ (lt:=ltN nss) (n:=nss.length) (λi j C hi hj hC=>?_) _ ok.1 ⟨rfl,ok.2.1,qU y_ ok.2.1 ok.2.2⟩;obtain⟨x,aK,e1,i1,i2⟩:=ht.2 i _ (aam hi);obtain⟨y,Dk,e2,j1,j2⟩:=ht.2 j _ (aam hj);unfold PySem.W.kas_ask;rw[show vs.getD i Value.none=.ref x by simp[e1],show vs.getD j Value.none=.ref y by simp[e2]];refine LA hk hu i1 j1 i2 j2 ?_;have e3:nss.getD i []=nss[i]:=by simp[hi]
   have e4:nss.getD j []=nss[j]:=by simp[hj]
   have ZL:C (HT.lexLt (nss.getD i []) (nss.getD j [])) _:=hC;rw[e3,e4]at ZL;exact ZL
theorem Ek{es:Array DictEntry}(hh:A.handled=none)(I d:Addr)(uq:d≠I):Walks prog w A I [I,d] [I] es.size (λi v=>∃e,es[i]?=some e/\v=e.key) (λi h=>h.IsKeyIter I d i es.size ep/\uk h d es ep) where
 sub:=λb hb=>by simp at hb;simp[hb]
 frame:=λ_ _ _ st hk=>⟨st.1.at λo e=>hk I (by simp) o e,let ⟨o,ho,r⟩:=st.2;⟨o,hk d (by simp) o ho,r⟩⟩
 item:=λi s Q E hi st hQ=>zy st.1 st.2 hi λh' Ho Od=>hQ _ h' s.toks ⟨es[i],aa4 hi,rfl⟩ ⟨Ho,let ⟨o,ho,r⟩:=st.2;⟨o,Od.extBut d o uq ho,r⟩⟩ λb o hb e=>Od.extBut b o (λh=>hb (by simp[h])) e
 done:=λs Q E st hQ=>El hh st.1 st.2 (aak _) λh' WR=>hQ h' s.toks λb o hb e=>WR b o (λh=>hb (by simp[h])) e
 self:=λ_ _ _ _ st hQ=>wpAny_pyIter_keyiter st.1 hQ
theorem Nw{d:Addr}{es:Array DictEntry}(lo:(d==sysModules)=false):PySem.W.KdlSrc prog w "dict" d d es.size (λi v=>∃e,es[i]?=some e/\v=e.key) (λh=>uk h d es ep) where
 type:=λ_ hm=>hm.typeIs
 there:=λ_ hm=>let ⟨_,ho,_⟩:=hm;⟨aah ho,aah ho⟩
 keep:=λ_ _ hm hk=>let ⟨o,ho,r⟩:=hm;⟨o,hk d (.inl rfl) o ho,r⟩
 notList:=by decide
 notTuple:=by decide
 hint:=λ_ _ _ _ hm hq=>PySem.W.kdl_hint_dict hm.typeIs hq
 iter:=λ_ _ hh hm=>⟨_,_,(λ_ _ hq=>zA lo hm hq),Ek hh _ d (let ⟨_,ho,_⟩:=hm;aan (aah ho)),⟨⟨_,aao _ rfl,rfl,rfl⟩,let ⟨o,ho,r⟩:=hm;⟨o,aag _ ho,r⟩⟩⟩
theorem uF{d:Addr}{es:Array DictEntry}(hh:A.handled=none)(hu:A.units+2<cLine)(lo:(d==sysModules)=false)(hm:uk s.heap d es ep)(pw:es.size<64)(y_:nss.Nodup)(ht:p6 s.heap (es.toList.map (·.key)) nss)
  (h:∀(S:Addr) (h':Heap) (tk e:Nat) (p:Array Nat),s.heap.get? S=none->(∀b o,s.heap.get? b=some o->h'.get? b=some o)->Arr p es.size->(p.toList.map λi=>nss.getD i [])=bt nss ->
   h'.get? S=some (seqObj "list" (List.toArray (p.toList.map λi=>(es.toList.map (·.key)).getD i Value.none)) e)->Q (.ref S) { s with heap:=h',toks:=tk }) :
  wpAny (model prog w) A (call (.builtin "sorted") [.ref d]) Q E s:=by
 refine abr kind_sorted plain_sorted entry_sorted (args_sorted1 _) ?_;unfold Builtin.«sorted»;have hz:es.size<=sizeLine:=by rw[sizeLine_eq];left
 refine aab (m:=checkCount "sorted" 1 1 _) (aaf (aab (PySem.W.kdu_collect (A:=A.in1) (Nw lo) hh hm hz λh1 tk acc hk gI=>?_)));have Rx:acc.toList=es.toList.map (·.key):=by
  refine List.ext_getElem? λi=>?_;rw[List.getElem?_map,Array.getElem?_toList,Array.getElem?_toList];by_cases hi:i<es.size
  ·have Zv:i<acc.size:=by rw[gI.1];exact hi
   obtain⟨e,he,hv⟩:=gI.2 i acc[i] (aa4 Zv);rw[Array.getElem?_eq_getElem Zv,he,hv];rfl
  ·rw[Array.getElem?_eq_none (by rw[gI.1];left),Array.getElem?_eq_none (by left)];rfl
 rw[Rx];generalize Wo:es.toList.map (·.key)=vs at *;have Hl:vs.length=es.size:=by rw[<- Wo];simp
 refine aab (abK ?_ (by rw[Hl];exact hz));show wpAny _ _ _ _ _ ({ s with heap:=h1.push (seqObj "list" vs.toArray 0),toks:=tk }:Shared);have Q1:(h1.push (seqObj "list" vs.toArray 0)).get? h1.objs.size=some (seqObj "list" vs.toArray 0):=aao _ rfl;have k6:∀b o,s.heap.get? b=some o->((((h1.push (seqObj "list" vs.toArray 0)).update h1.objs.size (Obj.mapSeq λ_=>#[])).push (seqObj "tuple" vs.toArray 0)).push (seqObj "list" #[] 0)).get? b=some o:=λb o e=>by
  refine aag _ (aag _ ?_);rw[Heap.get?_update_other _ _ (Nat.ne_of_gt (Heap.lt_size (hk b o e)))];exact aag _ (hk b o e)
 have hle:s.heap.get? h1.objs.size=none:=by
  cases q:s.heap.get? h1.objs.size with
  |none=>rfl
  |some o=>exact absurd (aah (hk _ o q)) (aax _)
 refine aab (aaF (aaH slot_list_sort ⟨_,Q1,rfl⟩ entry_list_sort (uG (s:={ s with heap:=h1.push (seqObj "list" vs.toArray 0),toks:=tk }) (nss:=nss) (show A.in1.in1.units<cLine by show A.units+1+1<cLine;left) Q1 (by rw[Hl];exact pw) y_ (ht.mono k6) λp hp hs=>⟨_,rfl,?_⟩) (args_list_sort _)));obtain⟨e,he⟩:=sortedHeap_at (out:=List.toArray (p.toList.map λi=>vs.getD i Value.none)) Q1;refine aaf ⟨_,rfl,h h1.objs.size _ tk e p hle (λb o e=>?_) (by rw[<- Hl];exact hp) hs he⟩;have iR:=aah (hk b o e);rw[sortedHeap_old (Nat.ne_of_lt iR) (by rw[size_push'];exact Nat.lt_succ_of_lt iR)];exact aag _ (hk b o e)
end
section
variable {α β:Type}
noncomputable def cH:aA->List α->ae->Option α
 |c'::cs,v::vs,c=>if c'=c then some v else cH cs vs c
 |_,_,_=>none
noncomputable def setC:aA->List α->ae->α->List α
 |c'::cs,v'::vs,c,v=>(if c'=c then v else v')::setC cs vs c v
 |_,_,_,_=>[]
noncomputable def dm(cs:aA)(c:ae):aA:=if c∈cs then cs else cs++[c]
noncomputable def wb(cs:aA)(as:List α)(c:ae)(a:α):List α:=if c∈cs then as else as++[a]
def b9(cs:aA)(vs:List α)(c:ae)(v:α):List α:=if c∈cs then setC cs vs c v else vs++[v]
end
section
variable {zs:List (ae×Addr×Value)}{c:ae}
theorem mv:∀(zs:List (ae×Addr×Value)) (c:ae),(atKey zs c).map (·.2)=cH (zs.map (·.1)) (zs.map (·.2.2)) c
 |[],_=>rfl
 |z::zs,c=>by
  have ih:=mv zs c;unfold atKey at ih ⊢;rw[List.find?_cons];show _=if z.1=c then some z.2.2 else cH (zs.map (·.1)) (zs.map (·.2.2)) c
  by_cases e:z.1=c
  ·rw[decide_eq_true e,if_pos e];rfl
  ·rw[decide_eq_false e,if_neg e];exact ih
theorem eN:∀(zs:List (ae×Addr×Value)) (c:ae),(atKey zs c).isSome=true ↔ c∈zs.map (·.1)
 |[],c=>by simp[atKey]
 |z::zs,c=>by
  have ih:=eN zs c;unfold atKey at ih ⊢;rw[List.find?_cons,List.map_cons,List.mem_cons];by_cases e:z.1=c
  ·rw[decide_eq_true e];simp[e]
  ·rw[decide_eq_false e];rw[ih];exact⟨.inr,λh=>h.resolve_left λz=>e z.symm⟩
theorem mJ(a:Addr)(v:Value):(storedH zs c a v).map (·.1)=dm (zs.map (·.1)) c:=by
 unfold storedH dm;by_cases h:c∈zs.map (·.1)
 ·rw[if_pos ((eN zs c).mpr h),if_pos h,List.map_map];refine aaj λz _=>?_;show(putAt c v z).1=z.1;unfold putAt;split<;>rfl
 ·rw[if_neg (λz=>h ((eN zs c).mp z)),if_neg h,List.map_append];rfl
theorem uE(a:Addr)(v:Value):(storedH zs c a v).map (·.2.1)=wb (zs.map (·.1)) (zs.map (·.2.1)) c a:=by
 unfold storedH wb;by_cases h:c∈zs.map (·.1)
 ·rw[if_pos ((eN zs c).mpr h),if_pos h,List.map_map];refine aaj λz _=>?_;show(putAt c v z).2.1=z.2.1;unfold putAt;split<;>rfl
 ·rw[if_neg (λz=>h ((eN zs c).mp z)),if_neg h,List.map_append];rfl
theorem uW(v:Value):∀zs:List (ae×Addr×Value),(zs.map (putAt c v)).map (·.2.2)=setC (zs.map (·.1)) (zs.map (·.2.2)) c v
 |[]=>rfl
 |z::zs=>by
  show(putAt c v z).2.2::((zs.map (putAt c v)).map (·.2.2))=(if z.1=c then v else z.2.2)::setC (zs.map (·.1)) (zs.map (·.2.2)) c v;rw[uW v zs];unfold putAt;by_cases e:z.1=c
  ·rw[if_pos e,if_pos e]
  ·rw[if_neg e,if_neg e]
theorem uD(a:Addr)(v:Value):(storedH zs c a v).map (·.2.2)=b9 (zs.map (·.1)) (zs.map (·.2.2)) c v:=by
 unfold storedH b9;by_cases h:c∈zs.map (·.1)
 ·rw[if_pos ((eN zs c).mpr h),if_pos h];exact uW v zs
 ·rw[if_neg (λz=>h ((eN zs c).mp z)),if_neg h,List.map_append];rfl
end
theorem uu{c:ae}{v:V}{u:Value}(r:RelV v u):∀{cs:aA} {xs:af} {us:av},Vals xs us->Vals (setC cs xs c v) (setC cs us c u)
 |[],_,_,h=>by cases h<;>exact .nil
 |c'::cs,_,_,h=>by
  cases h with
  |nil=>exact .nil
  |cons h t =>
   refine .cons ?_ (uu r t);show RelV (if c'=c then v else _) (if c'=c then u else _);by_cases e:c'=c
   ·rw[if_pos e,if_pos e];exact r
   ·rw[if_neg e,if_neg e];exact h
theorem qN{v:V}{u:Value}(r:RelV v u):∀{xs:af} {us:av},Vals xs us->Vals (xs++[v]) (us++[u])
 |_,_,.nil=>.cons r .nil
 |_,_,.cons h t=>.cons h (qN r t)
theorem Bz{cs:aA}{xs:af}{us:av}(h:Vals xs us){c:ae}{v:V}{u:Value}(r:RelV v u):Vals (b9 cs xs c v) (b9 cs us c u):=by
 unfold b9;by_cases e:c∈cs
 ·rw[if_pos e,if_pos e];exact uu r h
 ·rw[if_neg e,if_neg e];exact qN r h
theorem oA:∀{cs:aA} {xs:af} {us:av} (_:Vals xs us) (c:ae),qb (cH cs xs c) (cH cs us c)
 |[],_,_,_,_=>by cases ‹Vals _ _› <;> exact True.intro
 |c'::cs,_,_,h,c=>by
  cases h with
  |nil=>exact True.intro
  |cons h t =>
   show qb (if c'=c then some _ else _) (if c'=c then some _ else _);by_cases e:c'=c
   ·rw[if_pos e,if_pos e];exact h
   ·rw[if_neg e,if_neg e];exact oA t c
variable {pos pos':Pos}
section
variable {X:Cx}{pins:aq}{σ:St}{H:Hp}{s:Shared}{p b:Addr}{cs:aA}{as:aR}{xs:af}{ep:Nat}{c:ae}{A:aJ}{E:aB}
theorem items_int:∀{c:ae} {aK:av},Vals (c.map V.int) aK->ItemsAre (intKind X.prog X.w) c aK
 |[],_,h=>by cases h;exact .nil
 |i::c,_,h=>by
  cases h with
  |cons h t =>
   obtain⟨t',rfl⟩:=h;exact .cons (by simp[intKind,Value.isInt]) (items_int t)
theorem tq(I:Inv X pins σ H s)(h:aY X.K H b (c.map V.int)):(tupleKind (intKind X.prog X.w)).is s.heap c b:=by
 obtain⟨aK,rv,⟨o,h1,h2,n,h3⟩,_⟩:=I.tuple h;exact⟨o,aK.toArray,n,h1,h2,h3,by simpa using items_int rv⟩
theorem tR(I:Inv X pins σ H s)(h:H p=some (.ext (DO p cs as xs ep)))(k:dW (aY X.K H) as cs):
  ∃(zs:List (ae×Addr×Value)) (o:Obj) (es:Array DictEntry),zs.map (·.1)=cs/\zs.map (·.2.1)=as/\Vals xs (zs.map (·.2.2))/\s.heap.get? p=some o/\o.ExactDict/\o.data=.dict es ep /\
   s.heap.DictOfH (tupleKind (intKind X.prog X.w)) p zs/\es.toList=zs.map (entryOfKey (tupleKind (intKind X.prog X.w)))/\cs.length<=sizeLine/\(p==sysModules)=false:=by
 obtain⟨⟨zs,o,es,e1,e2,e3,ho,hx,hd,he,hn,hl,hs⟩,_⟩:=(show cS X.prog X.w H s.heap p (.ext (DO p cs as xs ep)) from I.cA p _ h)
 refine⟨zs,o,es,e1,e2,e3,ho,hx,hd,⟨o,es,ep,ho,hx,hd,he,λz hz=>?_,by rw[e1];exact hn⟩,he,hl,hs⟩;obtain⟨j,hj⟩:=List.mem_iff_getElem?.mp hz;exact tq I (k.tup j z.2.1 z.1 (by rw[<- e2,List.getElem?_map,hj];rfl) (by rw[<- e1,List.getElem?_map,hj];rfl))
theorem dict_cls(I:Inv X pins σ H s)(h:H p=some (.ext (DO p cs as xs ep))):s.TypeIs (.ref p) "dict" /\ ∀b,Value.ref p=.ref b->∃ob,s.heap.get? b=some ob/\ob.dict=none:=by
 obtain⟨⟨zs,o,es,e1,e2,e3,ho,hx,_⟩,_⟩:=(show cS X.prog X.w H s.heap p (.ext (DO p cs as xs ep)) from I.cA p _ h)
 exact⟨⟨o,ho,hx.1⟩,λb q=>by cases q;exact⟨o,ho,hx.2.1⟩⟩
theorem Ia{d:V}{r:Value}(hu:A.units+1<cLine)(I:Inv X pins σ H s)(h:H p=some (.ext (DO p cs as xs ep)))(k:dW (aY X.K H) as cs)(hb:aY X.K H b (c.map V.int))(rd:RelV d r)(hQ:∀w' s',Inv X pins σ H s'->RelV ((cH cs xs c).getD d) w'->Q w' s'):
  wpAny (model X.prog X.w) A (call (.builtin "dict.get") [.ref p,.ref b,r]) Q E s:=by
 obtain⟨zs,o,es,e1,e2,e3,ho,hx,hd,dd,_,hl,hs⟩:=tR I h k;refine call_meetsIn PySem.F.slot_dict_get dd.typeIs PySem.F.entry_dict_get (PySem.F.args_dict_get_3 _ _ _) (meetsH_dict_get_default (tupleKind (intKind X.prog X.w)) p b hs r) ⟨aca hu,c,zs,tq I hb,dd,hQ _ _ (I.tok _) ?_⟩;rw[mv,e1];have hg:=oA (cs:=cs) e3 c;cases q:cH cs xs c with
 |none =>
  rw[q]at hg;rw[qb.none_of hg];exact rd
 |some v =>
  rw[q]at hg;obtain⟨u,QL,ru⟩:=qb.some_of hg;rw[QL];exact ru
theorem xS{v:V}{r:Value}{Q:Unit->Shared->Prop}(hu:A.units+1<cLine)(I:Inv X pins σ H s)(h:H p=some (.ext (DO p cs as xs ep)))(k:dW (aY X.K H) as cs)(hb:aY X.K H b (c.map V.int))(rv:RelV v r)(iR:cs.length<sizeLine)
  (hQ:∀zr s',Inv X pins σ (upd H p (.ext (DO p (dm cs c) (wb cs as c b) (b9 cs xs c v) zr))) s'->Q () s') :
  wpAny (model X.prog X.w) A (setItem (.ref p) (.ref b) r) Q E s:=by
 obtain⟨zs,o,es,e1,e2,e3,ho,hx,hd,dd,_,hl,hs⟩:=tR I h k;have hz:zs.length<=sizeLine:=by rw[<- e1,List.length_map]at hl;exact hl
 refine wpAny_setItem_heap (hsz:=hz) (aca hu) (tq I hb) dd λh' XT Dz=>?_;obtain⟨q,Oy,zr,hq,h2,h3,h4,_,h5⟩:=XT;refine hQ zr _ (I.write (x:=p) (e:=p) (by rw[h];exact True.intro) (.inl rfl) (λb q hb z=>(Dz.2 b hb).trans z) ⟨q,hq⟩ ⟨⟨storedH zs c b r,q,Oy,?_,?_,?_,hq,h2,h3,h4,?_,?_,hs⟩,⟨q,hq⟩,?_⟩)
 ·rw[mJ,e1]
 ·rw[uE,e1,e2]
 ·rw[uD,e1];exact Bz e3 rv
 ·rw[<- e1,<- mJ (zs:=zs) (c:=c) b r];exact h5
 ·unfold dm;split
  ·exact hl
  ·rw[List.length_append,List.length_singleton];left
 ·rintro h1 T5 ⟨SQ,o',es'',f1,f2,f3,f4,f5⟩ kk;exact⟨SQ,o',es'',f1,f2,f3,kk _ f4,f5⟩
theorem GI:PE X (.Dict [] [] pos) (λ_ H Q=>∀p,H p=none->Q (.ref p) (upd H p (.ext (DO p [] [] [] 0)))):=λpins s σ H Q I h=>by
 have WV:sysModules<s.heap.objs.size:=abv (by decide) (show mainGlobals<s.heap.objs.size from(I.mod.glob.keeps I.bk).lt);refine wpAny_Dict_empty ⟨.ref s.heap.objs.size,_,I.laid (a:=s.heap.objs.size) (o:=.ext (DO s.heap.objs.size [] [] [] 0)) (t':=s.toks) (λ_ _ q=>aag _ q) (aak _) ?_,rfl,h _ (I.cA.fresh (aak _))⟩;have hg:(s.heap.push { cls:=.type "dict",data:=.dict #[] }).get? s.heap.objs.size=some { cls:=.type "dict",data:=.dict #[] }:=aao _ rfl;refine⟨⟨[],_,#[],rfl,rfl,.nil,hg,⟨rfl,rfl,rfl⟩,rfl,rfl,abD,aaS _,beq_eq_false_iff_ne.mpr (abw (aan WV))⟩,⟨_,hg⟩,?_⟩;rintro h1 T5 ⟨SQ,o',es'',f1,f2,f3,f4,f5⟩ kk;exact⟨SQ,o',es'',f1,f2,f3,kk _ f4,f5⟩
end
variable {T:mV}
theorem jL{N N':gj}{k k':br}{v:V}{d:D}(h:Rep T N k v d)(hf:bc anyF d=false):Rep T N' k' v d:=by
 have:=Rep.gen (T':=T) (N':=N') (g:=id) (P:=anyF) (C:=λ_ _=>True) (I:=λ_ _=>True) (λ_ _ h=>h) trivial (λ_ _ e=>e) (λ_ _ _ _ e _=>e) (λk k' p xs f _ hz _=>nomatch hz) h (k':=k') trivial hf;rw[fG]at this;exact this
theorem oS{T:mV}{N:gj}:∀{cs:aA} {k:br} {n:Nat} {xs:af} {ds:aa} (_:aI T N k n xs ds) (c:ae),(cH cs xs c=none/\cH cs ds c=none)\/∃v d k',cH cs xs c=some v/\cH cs ds c=some d/\Rep T N k' v d/\d∈ds
 |[],_,_,_,_,_,_=>by cases ‹aI _ _ _ _ _ _› <;> exact .inl ⟨rfl,rfl⟩
 |c'::cs,_,_,_,_,r,c=>by
  cases r with
  |nil=>exact .inl ⟨rfl,rfl⟩
  | @cons _ _ v d vs ds h t =>
   by_cases e:c'=c
   ·exact .inr ⟨v,d,_,aaV e,aaV e,h,aai⟩
   ·have e1:∀{α:Type} (a:α) (l:List α),cH (c'::cs) (a::l) c=cH cs l c:=λa l=>ab9 e;rw[e1,e1];rcases oS (cs:=cs) t c with h|⟨v',d',k',h1,h2,h3,h4⟩
    ·exact .inl h
    ·exact .inr ⟨v',d',k',h1,h2,h3,aae _ h4⟩
theorem rK{p:Fl->Bool}:∀{ds:aa},aQ p ds=false->∀d∈ds,bc p d=false
 |[],_,_,h=>nomatch h
 |d::ds,h,d',hd=>by
  have h:=CP h;rcases List.mem_cons.mp hd with rfl|hd
  ·exact h.1
  ·exact rK h.2 d' hd
theorem uS{T:mV}{N:gj}{c:ae}{v:V}{d:D}(hv:∀k,Rep T N k v d):∀{cs:aA} {k:br} {n:Nat} {xs:af} {ds:aa},aI T N k n xs ds->aI T N k n (setC cs xs c v) (setC cs ds c d)
 |[],_,_,_,_,r=>by cases r<;>exact .nil
 |c'::cs,_,_,_,_,r=>by
  cases r with
  |nil=>exact .nil
  |cons h t =>
   refine .cons ?_ (uS hv t);show Rep _ _ _ (if c'=c then v else _) (if c'=c then d else _);by_cases e:c'=c
   ·rw[if_pos e,if_pos e];exact hv _
   ·rw[if_neg e,if_neg e];exact h
theorem qY{T:mV}{N:gj}{v:V}{d:D}(hv:∀k,Rep T N k v d):∀{k:br} {n:Nat} {xs:af} {ds:aa},aI T N k n xs ds->aI T N k n (xs++[v]) (ds++[d])
 |_,_,_,_,.nil=>.cons (hv _) .nil
 |_,_,_,_,.cons h t=>.cons h (qY hv t)
variable {ds items xs:aa}
theorem Cd{N:gj}{c:ae}{v:V}{d:D}(hv:∀k,Rep T N k v d){cs:aA}{k:br}{n:Nat}{xs:af}(r:aI T N k n xs ds):aI T N k n (b9 cs xs c v) (b9 cs ds c d):=by
 unfold b9;by_cases e:c∈cs
 ·rw[if_pos e,if_pos e];exact uS hv r
 ·rw[if_neg e,if_neg e];exact qY hv r
theorem Dj{as:aR}{cs:aA}(k:dW T as cs){b:Addr}{c:ae}(hb:T b (c.map V.int)):dW T (wb cs as c b) (dm cs c):=by
 unfold wb dm;by_cases e:c∈cs
 ·rw[if_pos e,if_pos e];exact k
 ·rw[if_neg e,if_neg e];refine⟨by rw[List.length_append,List.length_append,k.len];rfl,λj a c' ha hc=>?_⟩;by_cases hj:j<as.length
  ·rw[List.getElem?_append_left hj]at ha;rw[List.getElem?_append_left (by rw[<- k.len];exact hj)]at hc;exact k.tup j a c' ha hc
  ·rw[List.getElem?_append_right (by left)]at ha;rw[List.getElem?_append_right (by rw[<- k.len];left),<- k.len]at hc;cases hz:j - as.length with
   |zero =>
    rw[hz]at ha hc;cases ha;cases hc;exact hb
   |succ m=>rw[hz]at ha;cases ha
variable {F R:Addr->Prop}{H:Hp}{K:au}{τ:Addr->Option br}
theorem cx.newD{G:Addr->Prop}{fv:aO}{H':Hp}{p:Addr}(hp:H p=none)(hl:H' p=some (.ext (DO p [] [] [] 0))):cx K G R τ fv H H' (.ref p) (.cO .ow [] []):=by
 refine⟨λq=>if q=p then some []else none,λq k hq=>?_,.cO (ep:=0) (as:=[]) (xs:=[]) ⟨hl,by simp⟩ ⟨rfl,λj a c h=>by simp at h⟩ .nil⟩;by_cases xA:q=p
 ·subst xA;exact hp
 ·simp[xA]at hq
noncomputable def Ei(xs:aa):O D:=match xs with
 |[]=>ok (.cO .ow [] [])
 |_::_=>none
noncomputable def tV(_:Scope)(_:ao)(e:Expr):Option (aC):=match e with
 |.Dict [] [] _=>some []
 |_=>none
variable {X:Cx}{args elts:aC}{cs:aD}{Φ:aT}
theorem HX{n:Nat}(hΦ:Φ n=Ei){sc:Scope}{bl:ao}{k:Nat}(L:PX X sc bl k){e:Expr}(he:tV sc bl e=some args)(hs:mz X F Φ cs args):PE X e (tD X F Φ (.cI n cs))/\PT X e (gW X F Φ (.cI n cs)):=by
 have h1:∃pos,e=.Dict [] [] pos/\args=[]:=by
  unfold tV at he;split at he
  ·cases he;exact⟨_,rfl,rfl⟩
  ·cases he
 obtain⟨pos,rfl,rfl⟩:=h1;cases cs with
 |cons _ _=>exact hs.elim
 |nil =>
  have this:PE X (.Dict [] [] pos) (tD X F Φ (.cI n [])):=by
   refine PE.imp (GI (X:=X) (pos:=pos)) λσ H Q hq p hp=>?_;obtain⟨R,τ,ρ,d,Si,ev,hq⟩:=hq;have ev:Φ n []=ok d:=ev;rw[hΦ]at ev;cases ev;exact hq _ _ (aM.upd hp) (cx.newD hp bj)
  exact⟨this,cR this λ_=>rfl⟩
noncomputable def three{α:Type}:List α->Option (α×α×α)
 |[a,b,c]=>some (a,b,c)
 |_=>none
theorem uA{α:Type}{l:List α}{z:α×α×α}(h:three l=some z):l=[z.1,z.2.1,z.2.2]:=by
 unfold three at h;split at h
 ·cases h;rfl
 ·cases h
noncomputable def hX:D->Option (aA×aa)
 |.cO _ cs vs=>some (cs,vs)
 |_=>none
def keyOf:D->Option (ae)
 |.tup ks=>intsOf ks
 |_=>none
theorem lq{d:D}{z:aA×aa}(h:hX d=some z):∃f,d=.cO f z.1 z.2:=by
 cases d<;>first | (cases h;done) | (cases h;exact⟨_,rfl⟩)
theorem ji{d:D}{c:ae}(h:keyOf d=some c):d=.tup (c.map D.int):=by
 cases d<;>first | (cases h;done)|skip
 rw[dS (show intsOf _=some c from h)]
def Em(xs:aa):O D:=match two xs with
 |some z=>match hX z.1 with
  |some d=>match keyOf z.2 with
   |some c=>match cH d.1 d.2 c with
    |some v=>if bc anyF v=false then ok v else none
    |none=>none
   |none=>none
  |none=>none
 |none=>none
theorem HZ{r:D}(h:Em xs=ok r):∃f cs vs c,xs=[.cO f cs vs,.tup (c.map D.int)]/\cH cs vs c=some r/\bc anyF r=false:=by
 unfold Em at h;cases h1:two xs with
 |none=>rw[h1]at h;cases h
 |some z =>
  rw[h1]at h;have h:(match hX z.1 with|some d=>(match keyOf z.2 with|some c=>(match cH d.1 d.2 c with|some v=>if bc anyF v=false then ok v else none|none=>none)|none=>none)|none=>none)=ok r:=h;cases h2:hX z.1 with
  |none=>rw[h2]at h;cases h
  |some d =>
   rw[h2]at h;have h:(match keyOf z.2 with|some c=>(match cH d.1 d.2 c with|some v=>if bc anyF v=false then ok v else none|none=>none)|none=>none)=ok r:=h;cases h3:keyOf z.2 with
   |none=>rw[h3]at h;cases h
   |some c =>
    rw[h3]at h;have h:(match cH d.1 d.2 c with|some v=>if bc anyF v=false then ok v else none|none=>none)=ok r:=h;cases h4:cH d.1 d.2 c with
    |none=>rw[h4]at h;cases h
    |some v =>
     rw[h4]at h;obtain⟨hf,rfl⟩:=qk (show(if bc anyF v=false then ok v else none)=ok r from h);obtain⟨f,e1⟩:=lq h2;exact⟨f,d.1,d.2,c,by rw[i9 h1,e1,ji h3],h4,hf⟩
def VB(K:au):R2:=λx y H Q=>∃p b cs as xs ep c v,x=.ref p/\y=.ref b/\H p=some (.ext (DO p cs as xs ep))/\dW (aY K H) as cs/\aY K H b (c.map V.int)/\cH cs xs c=some v/\Q v H
theorem Hc(hu:X.A.units+1<cLine):JW X (VB X.K):=by
 intro value slice pins s σ H x y v u Q I rx ry h hs;obtain⟨p,b,cs,as,xs,ep,c,w,rfl,rfl,hp,hk,hb,hg,q⟩:=h;cases rx;cases ry;obtain⟨zs,o,es,e1,e2,e3,ho,hx,hd,dd,_,hl,Hm⟩:=tR I hp hk;have Zw:=oA (cs:=cs) e3 c;rw[hg]at Zw;obtain⟨u,QL,ru⟩:=qb.some_of Zw;have:(atKey zs c).map (·.2)=some u:=by rw[mv,e1];exact QL
 obtain⟨q',hq',rfl⟩:=Option.map_eq_some_iff.mp this;exact abG (x:=q'.2) dd.typeIs PySem.F.slot_dict_getitem.lookup
  (wpAny_getItem_heap (Q:=λr s'=>r=q'.2/\EP X pins σ Q r s') (aca hu) (tq I hb) dd hq' ⟨rfl,w,H,I.tok _,ru,q⟩) hs
def xZ(_:Scope)(_:ao)(e:Expr):Option (aC):=match qp e with
 |some z=>some [z.1,z.2]
 |none=>none
theorem Nx{n:Nat}(hΦ:Φ n=Em){sc:Scope}{bl:ao}{k:Nat}(L:PX X sc bl k){e:Expr}(he:xZ sc bl e=some args)(hs:mz X F Φ cs args):PE X e (tD X F Φ (.cI n cs))/\PT X e (gW X F Φ (.cI n cs)):=by
 unfold xZ at he;cases h1:qp e with
 |none=>rw[h1]at he;cases he
 |some z =>
  rw[h1]at he;cases he;obtain⟨pos,rfl⟩:=nH h1;obtain⟨⟨c1,c2,rfl,p1,p2⟩,_⟩:=oX hs;have this:PE X (.Subscript z.1 z.2 pos) (tD X F Φ (.cI n [c1,c2])):=by
   refine PE.imp (Jg (Hc (Dx L.room)) p1 p2 hs.2.2.2.2.2.1) λσ H Q hq=>?_;obtain⟨R,τ,ρ,d,Si,ev,hq⟩:=hq;obtain⟨xs,cn,ev⟩:=aH ev;rw[hΦ]at ev;obtain⟨f,cs,vs,c,rfl,hg,hf⟩:=HZ ev;obtain⟨x,ex,cn⟩:=aH cn;obtain⟨ys,ma,cn⟩:=aH cn;obtain⟨y,ey,Xu⟩:=aH ma;cases Xu;cases cn;refine tD.intro Si ex λv H1 e1 r1=>tD.intro (Si.go e1) ey λu H2 e2 r2=>?_;obtain⟨τ1,f1,q1⟩:=r1;obtain⟨τ2,f2,q2⟩:=r2;cases q1 with
   |cO hn hk hr=>cases q2 with
    |tup ht QS =>
     cases QS.ofInts;rcases oS hr c with ⟨_,hz⟩|⟨w,d',k',g1,g2,g3,_⟩
     ·rw[hg]at hz;cases hz
     ·rw[hg]at g2;cases g2;refine⟨_,_,_,_,_,_,c,w,rfl,rfl,e2 _ _ hn.dat,hk.imp λ_ _ h=>aY.same e2 h,ht,g1,hq w H2 (e1.trans e2) ⟨λ_=>none,λ_ _ h=>by simp at h,?_⟩⟩;exact(jL (N':=nd X.K R (kg (gP X F) τ (i7 (.cI n [c1,c2]))) (λ_=>none) H1) (k':=[]) g3 hf).imp (λ_ _ h=>aY.same e2 h) λ_ _ _ _ h=>nd.same e2 h
  exact⟨this,cR this λ_=>rfl⟩
def vQ(xs:aa):O D:=match three xs with
 |some z=>match hX z.1 with
  |some d=>match keyOf z.2.1 with
   |some c=>if aQ anyF d.2=false/\bc anyF z.2.2=false then ok ((cH d.1 d.2 c).getD z.2.2)else none
   |none=>none
  |none=>none
 |none=>none
theorem En{r:D}(h:vQ xs=ok r):∃f cs vs c x,xs=[.cO f cs vs,.tup (c.map D.int),x]/\aQ anyF vs=false/\bc anyF x=false/\r=(cH cs vs c).getD x:=by
 unfold vQ at h;cases h1:three xs with
 |none=>rw[h1]at h;cases h
 |some z =>
  rw[h1]at h;have h:(match hX z.1 with|some d=>(match keyOf z.2.1 with|some c=>if aQ anyF d.2=false/\bc anyF z.2.2=false then ok ((cH d.1 d.2 c).getD z.2.2)else none|none=>none)|none=>none)=ok r:=h;cases h2:hX z.1 with
  |none=>rw[h2]at h;cases h
  |some d =>
   rw[h2]at h;have h:(match keyOf z.2.1 with|some c=>if aQ anyF d.2=false/\bc anyF z.2.2=false then ok ((cH d.1 d.2 c).getD z.2.2)else none|none=>none)=ok r:=h;cases h3:keyOf z.2.1 with
   |none=>rw[h3]at h;cases h
   |some c =>
    rw[h3]at h;obtain⟨⟨hf,hx⟩,rfl⟩:=qk (show(if aQ anyF d.2=false/\bc anyF z.2.2=false then ok ((cH d.1 d.2 c).getD z.2.2)else none)=ok r from h);obtain⟨f,e1⟩:=lq h2;exact⟨f,d.1,d.2,c,z.2.2,by rw[uA h1,e1,ji h3],hf,hx,rfl⟩
def n_(_:Scope)(_:ao)(e:Expr):Option (aC):=match mI ("get" : Str) (.Expr e ⟨0,0,0,0⟩)with
 |some z=>match two z.2 with
  |some y=>if isNm z.1=true then some [z.1,y.1,y.2]else none
  |none=>none
 |none=>none
theorem x4{sc:Scope}{bl:ao}{e:Expr}(h:n_ sc bl e=some args):∃x p p1 p2 a b,e=.Call (.Attribute (.Name x p) ("get" : Str) p1) [a,b] [] p2/\args=[.Name x p,a,b]/\(p1.endLine==p2.line)=true:=by
 unfold n_ at h;cases h1:mI ("get" : Str) (.Expr e ⟨0,0,0,0⟩)with
 |none=>rw[h1]at h;cases h
 |some z =>
  obtain⟨o,as⟩:=z;rw[h1]at h;have h2:(match two as with|some y=>if isNm o=true then some [o,y.1,y.2]else none|none=>none)=some args:=h;clear h;cases h3:two as with
  |none=>rw[h3]at h2;cases h2
  |some y =>
   rw[h3]at h2;have h4:(if isNm o=true then some [o,y.1,y.2]else none)=some args:=h2;clear h2;by_cases hn:isNm o=true
   ·rw[if_pos hn]at h4;cases h4;obtain⟨p1,p2,pos,e1,hl⟩:=oB h1;cases e1;cases o<;>first | (cases hn;done)|skip
    rw[i9 h3];exact⟨_,_,_,_,_,_,rfl,rfl,hl⟩
   ·rw[if_neg hn]at h4;cases h4
variable {ta:TA}
theorem Ar{x:Str}{p p1 p2:Pos}{a b:Expr}{td:TE}(hu:X.A.units+1<cLine)(ho:PE X (.Name x p) td)(ha:PA X [a,b] ta)(s1:∀es,starEach (a::es) X.env=(false,eval a X.env)::starEach es X.env)(s2:∀es,starEach (b::es) X.env=(false,eval b X.env)::starEach es X.env)(hl:(p1.endLine==p2.line)=true):
  PE X (.Call (.Attribute (.Name x p) ("get" : Str) p1) [a,b] [] p2) (λσ H Q=>td σ H λv H1=>∃q cs as xs ep,v=.ref q/\H1 q=some (.ext (DO q cs as xs ep))/\ta σ H1 λys H2=>∃k c z,ys=[.ref k,z]/\H2 q=some (.ext (DO q cs as xs ep))/\dW (aY X.K H2) as cs/\aY X.K H2 k (c.map V.int)/\Q ((cH cs xs c).getD z) H2):=by
 intro pins s σ H Q I h;refine wpAny_Call_method rfl (by rw[s1,s2];rfl) hl PySem.F.plainAttrs_dict PySem.F.slot_dict_get PySem.F.type_dict_get (dg (ho pins s σ H _ I h) λu s1' bR=>?_);obtain⟨v,H1,I1,rx,q,cs,as,xs,ep,ex,hd,q1⟩:=bR;subst ex;obtain rfl:u=Value.ref q:=rx;obtain⟨t1,t2⟩:=dict_cls I1 hd;refine⟨t1,t2,?_⟩;have hA:=ha p2 pins s1' σ H1 _ I1 q1;rw[s1]at hA ⊢;refine abH (by show(false||(backTo p2 (starEach [b] X.env)).any (·.1))=false;rw[s2];rfl) (abX ?_);refine dg hA λus s3 bR=>?_;obtain⟨ys,H2,I2,r2,k,c,z,ey,hd2,hk,hb,q2⟩:=bR;subst ey;obtain⟨w1,w2,rfl,rw1,rw2⟩:=vals2 r2;cases rw1;exact Ia hu I2 hd2 hk hb rw2 λw' s4 I4 lI=>⟨_,H2,I4,lI,q2⟩
theorem H_{n:Nat}(hΦ:Φ n=vQ){sc:Scope}{bl:ao}{k:Nat}(L:PX X sc bl k){e:Expr}(he:n_ sc bl e=some args)(hs:mz X F Φ cs args):PE X e (tD X F Φ (.cI n cs))/\PT X e (gW X F Φ (.cI n cs)):=by
 obtain⟨x,p,p1,p2,a,b,rfl,rfl,hl⟩:=x4 he;cases cs with
 |nil=>exact hs.elim
 |cons c0 cs =>
  obtain⟨h0,_,_,Od⟩:=hs;obtain⟨⟨c1,c2,rfl,_,_⟩,pa,s1,s2⟩:=oX Od;have this:PE X (.Call (.Attribute (.Name x p) ("get" : Str) p1) [a,b] [] p2) (tD X F Φ (.cI n [c0,c1,c2])):=by
   refine PE.imp (Ar (Dx L.room) h0 pa s1 s2 hl) λσ H Q hq=>?_;obtain⟨R,τ,ρ,d,Si,ev,hq⟩:=hq;obtain⟨xs,cn,ev⟩:=aH ev;rw[hΦ]at ev;obtain⟨f,cs,vs,c,y,rfl,hf,hy,rfl⟩:=En ev;obtain⟨x0,ex,cn⟩:=aH cn;obtain⟨ys,ma,cn⟩:=aH cn;cases cn;refine tD.intro Si ex λv H1 e1 r1=>?_;obtain⟨τ1,f1,q1⟩:=r1;cases q1 with
   |cO hn hk hr =>
    refine⟨_,_,_,_,_,rfl,hn.dat,R,τ,ρ,_,Si.go e1,ma,λus H2 e2 r2=>?_⟩;obtain⟨τ2,f2,q2⟩:=r2;obtain⟨u1,u2,rfl,Vr,Vq⟩:=q2.two;obtain⟨_,_,rfl,ht,QS⟩:=Vr.FG;cases QS.ofInts;refine⟨_,c,u2,rfl,e2 _ _ hn.dat,hk.imp λ_ _ h=>aY.same e2 h,ht,?_⟩;refine hq _ H2 (e1.trans e2) ⟨λ_=>none,λ_ _ h=>by simp at h,?_⟩;rcases oS hr c with ⟨g1,g2⟩|⟨w,d',k',g1,g2,g3,g4⟩
    ·rw[g1,g2];exact jL (T:=aY X.K H2) Vq hy
    ·rw[g1,g2];exact(jL (N':=nd X.K R (kg (gP X F) τ (i7 (.cI n [c0,c1,c2]))) (λ_=>none) H1) (k':=[]) g3 (rK hf _ g4)).imp (λ_ _ h=>aY.same e2 h) λ_ _ _ _ h=>nd.same e2 h
  exact⟨this,cR this λ_=>rfl⟩
def vO(xs:aa):O D:=match three xs with
 |some z=>match z.1 with
  |.cO f cs vs=>match keyOf z.2.2 with
   |some c=>if d_ f=true/\bc anyF z.2.1=false/\cs.length<eH then ok (.cO .ow (dm cs c) (b9 cs vs c z.2.1))else none
   |none=>none
  |_=>none
 |none=>none
theorem vN{d:D}{r:D}(h:vO (d::xs)=ok r):∃cs vs c x,d=.cO .ow cs vs/\xs=[x,.tup (c.map D.int)]/\bc anyF x=false/\cs.length<eH/\r=.cO .ow (dm cs c) (b9 cs vs c x):=by
 unfold vO at h;cases h1:three (d::xs)with
 |none=>rw[h1]at h;cases h
 |some z =>
  rw[h1]at h;have e0:=uA h1;obtain⟨d',x,y⟩:=z;obtain⟨rfl,rfl⟩:d=d'/\xs=[x,y]:=abM e0;cases d<;>first | (cases h;done)|skip
  rename_i f cs vs;have h:(match keyOf y with|some c=>if d_ f=true/\bc anyF x=false/\cs.length<eH then ok (D.cO .ow (dm cs c) (b9 cs vs c x))else none|none=>none)=ok r:=h;cases h3:keyOf y with
  |none=>rw[h3]at h;cases h
  |some c =>
   rw[h3]at h;obtain⟨⟨hf,hx,hl⟩,rfl⟩:=qk (show(if d_ f=true/\bc anyF x=false/\cs.length<eH then ok (D.cO .ow (dm cs c) (b9 cs vs c x))else none)=ok r from h);cases f<;>first | (cases hf;done)|exact⟨cs,vs,c,x,rfl,by rw[ji h3],hx,hl,rfl⟩
def nZ(_:Scope)(_:ao)(st:Stmt):Option (Expr×aC):=match BE st with
 |some z=>match one z.1 with
  |some t=>match qp t with
   |some y=>some (y.1,[z.2,y.2])
   |none=>none
  |none=>none
 |none=>none
variable {o tg value:Expr}{st:Stmt}
theorem xY{sc:Scope}{bl:ao}(h:nZ sc bl st=some (o,args)):∃v i pos' pos,st=.Assign [.Subscript o i pos'] v pos/\args=[v,i]:=by
 unfold nZ at h;cases h1:BE st with
 |none=>rw[h1]at h;cases h
 |some z =>
  obtain⟨ts,v⟩:=z;rw[h1]at h;have h2:(match one ts with|some t=>(match qp t with|some y=>some (y.1,[v,y.2])|none=>none)|none=>none)=some (o,args):=h;clear h;cases h3:one ts with
  |none=>rw[h3]at h2;cases h2
  |some t =>
   rw[h3]at h2;have h4:(match qp t with|some y=>some (y.1,[v,y.2])|none=>none)=some (o,args):=h2;clear h2;cases h5:qp t with
   |none=>rw[h5]at h4;cases h4
   |some y =>
    rw[h5]at h4;cases h4;obtain⟨pos,rfl⟩:=nI h1;obtain rfl:=bS h3;obtain⟨p,rfl⟩:=nH h5;exact⟨_,_,_,_,rfl,rfl⟩
mutual
theorem any_map(g:Fl->Fl):∀d:D,bc anyF (aS g d)=bc anyF d
 |.bV=>rfl
 |.bl _=>rfl
 |.int _=>rfl
 |.tup ds=>wa g ds
 |.lst _ ds=>rfl
 |.cO _ _ ds=>rfl
theorem wa(g:Fl->Fl):∀ds:aa,aQ anyF (aF g ds)=aQ anyF ds
 |[]=>rfl
 |d::ds=>by show(bc _ _||aQ _ _)=(bc _ d||aQ _ ds);rw[any_map g d,wa g ds]
end
mutual
theorem yf:∀d:D,bc anyF d=false->bc bZ d=false
 |.bV,_=>rfl
 |.bl _,_=>rfl
 |.int _,_=>rfl
 |.tup ds,h=>zS ds h
 |.lst _ ds,h=>nomatch h
 |.cO _ _ ds,h=>nomatch h
theorem zS:∀ds:aa,aQ anyF ds=false->aQ bZ ds=false
 |[],_=>rfl
 |d::ds,h=>by
  have h:=CP h;show(bc _ d||aQ _ ds)=false;rw[yf d h.1,zS ds h.2];rfl
end
theorem any_ints:∀c:ae,aQ anyF (c.map D.int)=false
 |[]=>rfl
 |i::c=>any_ints c
theorem Kg{i:Expr}{l:Nat}{env:Env}:swapsWith value (some (.Subscript o i pos')) l env=pure false:=by
 unfold swapsWith;cases value<;>rfl
theorem Cr{x:Str}{p0:Pos}{i:Expr}{tv to ti:TE}(hu:X.A.units+1<cLine)(hv:PE X value tv)(ho:PE X (.Name x p0) to)(hi:PE X i ti):
  PS X (.Assign [.Subscript (.Name x p0) i pos'] value pos) (λD σ H=>tv σ H λv H1=>to σ H1 λo H2=>ti σ H2 λy H3=>∃q b cs as xs ep c,o=.ref q/\y=.ref b/\H3 q=some (.ext (DO q cs as xs ep))/\dW (aY X.K H3) as cs/\aY X.K H3 b (c.map V.int)/\cs.length<sizeLine /\
   ∀zr,D.nx σ (upd H3 q (.ext (DO q (dm cs c) (wb cs as c b) (b9 cs xs c v) zr)))):=by
 intro pins s σ H D I h;refine wpAny_Assign_Subscript (dg (hv pins s σ H _ I h) λr s1 ⟨v,H1,I1,rv,q1⟩=>dg (ho pins s1 σ H1 _ I1 q1) λu s2 ⟨o,H2,I2,rx,q2⟩=>dg (hi pins s2 σ H2 _ I2 q2) λiv s3 bR=>?_) Kg;obtain⟨y,H3,I3,ry,q,b,cs,as,xs,ep,c,eo,ey,hd,hk,hb,hl,q3⟩:=bR;subst eo ey;obtain rfl:u=Value.ref q:=rx;obtain rfl:iv=Value.ref b:=ry;exact xS hu I3 hd hk hb rv hl λzr s4 I4=>⟨σ,_,I4,q3 zr⟩
variable {ρ:aZ}{σ:L2.St}
theorem SI.P4{i:Nat}{cs:aA}(Si:SI X F R τ ρ σ H)(hi:ρ[i]?=some (some (.cO .ow cs ds))):
  ∃p as xs ep,σ[i]?=some (some (.ref p))/\H p=some (.ext (DO p cs as xs ep))/\τ p=some [i]/\dW (aY X.K H) as cs/\aI (aY X.K H) (nd X.K R (λ_=>False) τ H) [i] 0 xs ds:=by
 obtain⟨v,hv,rp⟩:=Si.rep i _ hi;cases rp with
 |cO h k r=>exact⟨_,_,_,_,hv,h.1,h.2,k,r⟩
theorem HW{n:Nat}(hΦ:Φ n=vO){sc:Scope}{bl:ao}{k:Nat}(L:PX X sc bl k)(hN:X.N.Nodup)(wq:∀x,X.fn x=true){x:Str}(he:nZ sc bl st=some (.Name x pos,args))
  {i:Nat} (hi:X.N[i]?=some x) (hl:L2.Loc X.env.scope x) (pe:PE X (.Name x pos) (wL i)) (hs:mz X F Φ cs args):PS X st (qT X F Φ (.mut n i cs)):=by
 obtain⟨v,ix,p1,p2,rfl,rfl⟩:=xY he;obtain⟨⟨c1,c2,rfl,h1,h2⟩,_⟩:=oX hs;refine PS.imp (Cr (Dx L.room) h1 pe h2) λD σ H hq=>?_;obtain⟨R,τ,ρ,r,Si,ev,hq⟩:=hq;obtain⟨xs,cn,ev⟩:=aH ev;obtain⟨y,ey,cn⟩:=aH cn;obtain⟨ys,ma,cn⟩:=aH cn;cases cn;obtain⟨kd,ek,Xu⟩:=aH ma;cases Xu;have key:∃cs vs c,kd=.tup (c.map DI.D.int)/\ρ[i]?=some (some (.cO .ow cs vs))/\bc anyF y=false/\cs.length<eH/\r=(.nx,ρ.set i (some (.cO .ow (dm cs c) (b9 cs vs c y)))):=by
  cases hz:aQ bZ [y,kd]with
  |true =>
   obtain⟨d,d',h⟩:=C2 ev hz;rw[hΦ]at h;obtain⟨cs,vs,c,x',_,e1,e2,_⟩:=vN h;have e3:aS aW y=x'/\aS aW kd=.tup (c.map DI.D.int):=by
    have:=abM e1;exact⟨this.1,(abM this.2).1⟩
   have a1:bc bZ y=false:=yf y (by rw[<- any_map aW y,e3.1];exact e2);have a2:bc bZ kd=false:=yf kd (by rw[<- any_map aW kd,e3.2];exact any_ints c);have:aQ bZ [y,kd]=false:=by show(bc bZ y||(bc bZ kd||false))=false;rw[a1,a2];rfl
   rw[this]at hz;cases hz
  |false =>
   obtain⟨d,d',h,h',rfl⟩:=yT ev hz;rw[hΦ]at h';obtain⟨cs,vs,c,x',rfl,e1,e2,e3,rfl⟩:=vN h';cases e1;exact⟨cs,vs,c,rfl,h,e2,e3,rfl⟩
 obtain⟨cs,vs,c,rfl,ho,hf,hc,rfl⟩:=key;obtain⟨p,as,zs,ep,hv,hd,ht,hk,rs⟩:=Si.P4 ho;refine tD.intro Si ey λu H1 e1 ru=>⟨.ref p,hv,tD.intro (Si.go e1) ek λw H2 e2 lI=>?_⟩
 obtain⟨τ1,f1,q1⟩:=ru;obtain⟨τ2,f2,q2⟩:=lI;cases q2 with
 | @tup _ b _ _ hb QS =>
  cases QS.ofInts;have es:=e1.trans e2;have Bc:=Si.go es;have hd2:=es _ _ hd;have pq:eH=1000000:=rfl;have hz:sizeLine=16777216:=abf;refine⟨p,b,cs,as,zs,ep,c,rfl,rfl,hd2,hk.imp λ_ _ h=>aY.same es h,hb,by left,λzr=>?_⟩;have hn:fZ H2 p (.d cs as zs ep):=hd2;have rk:i6 X R τ H2 u y:=oT ((jL (N':=nd X.K R (λ_=>False) τ H1) (k':=[]) q1 hf).imp (λ_ _ h=>aY.same e2 h) λ_ _ _ _ h=>nd.same e2 h) hf;obtain⟨p',NL,SQ,ac5,Zn,Mm,ht',Zu,mK⟩:=Bc.P4 ho;rw[hv]at Zn;cases Zn;rw[hd2]at Mm;obtain⟨τ3,yh⟩:=Bc.PM (m:=0) (n':=.d (dm cs c) (wb cs as c b) (b9 cs zs c u) zr) (o:=.ext (DO p (dm cs c) (wb cs as c b) (b9 cs zs c u) zr)) (d1:=.cO .ow (dm cs c) (b9 cs vs c y)) (xs':=b9 cs zs c u) (ds':=b9 cs vs c y) ho hv hn ht (rs.imp (λ_ _ h=>aY.same es h) λ_ _ _ _ h=>nd.same es h) rk bj
   (λhN r=>.cO hN (Dj ((hk.imp λ_ _ h=>aY.same es h).imp λ_ _ h=>BU hn h) (BU hn hb)) r) (λrs r=>Cd (λk=>jL r hf) rs)
  exact hq σ _ R τ3 yh (xr Bc es (λ_ h=>h) hn ht)
variable {P:aE}{w:World}
theorem Lm{h:Heap}{a:Addr}{o:HO}(x:cS P w H h a o):∃u,h.get? a=some u:=by
 cases o with
 |lst xs=>obtain⟨_,_,_,_,e⟩:=x;exact⟨_,e⟩
 |tup xs=>obtain⟨_,_,_,o,e,_⟩:=x;exact⟨_,e⟩
 |dK nq=>obtain⟨_,_,_,_,o,_,_,e,_⟩:=x;exact⟨_,e⟩
 |dT nq=>obtain⟨_,_,_,_,o,_,_,e,_⟩:=x;exact⟨_,e⟩
 |set S n=>obtain⟨o,_,_,_,e,_⟩:=x;exact⟨_,e⟩
 |ins C dx fs=>obtain⟨_,_,_,e,_⟩:=x;exact⟨_,e⟩
 |own y=>exact x
 |xd fs=>obtain⟨_,⟨o,_,_,e,_⟩,_⟩:=x;exact⟨_,e⟩
 |jK lo hi=>obtain⟨_,_,_,e⟩:=x;exact⟨_,e⟩
 |i4 o u=>exact⟨_,x.1⟩
 |FQ ps=>exact⟨_,x⟩
 |met f y=>exact⟨_,x⟩
 |ext φ=>exact x.2.1
theorem Inv.Qv{pins:aq}{s:Shared}{t':Nat}{a:Addr}{o:HO}(I:Inv X pins σ H s)(k:∀b u,s.heap.get? b=some u->h'.get? b=some u)(ha:s.heap.get? a=none)(new:cS X.prog X.w (upd H a o) h' a o):
  H a=none/\Inv X pins σ (upd H a o) { s with heap:=h',toks:=t' }:=by
 have hn:H a=none:=by
  cases q:H a with
  |none=>rfl
  |some u =>
   obtain⟨z,hz⟩:=Lm (I.cA a u q);rw[ha]at hz;exact nk hz
 have up:∀b u,H b=some u->upd H a o b=some u:=λb u e=>by rw[aV (b_ e hn)];exact e
 refine⟨hn,I.step (g':=s.gens) (d':=s.drawn) (ch:=[]) (λb hb=>nomatch hb) (λb o _ _ _ e _=>k b o e) (λb o _ _ _ e _=>⟨o.slots,k b o e⟩) (λb u _ e n=>?_)
  (λb o _ e=>⟨o,k b o e⟩) (λ_ _ e=>up _ _ e) (λ_ _ _ e=>up _ _ e) (λb ps e=>⟨#[],by rw[up _ _ e];simp⟩) (λm hm=>?_) (λb u e=>?_) I.bare⟩
 ·rw[aV λz=>by rw[z,ha]at e;cases e];exact n
 ·obtain⟨o,es,ep,ho,r⟩:=hm;exact⟨o,es,ep,k _ o ho,r⟩
 ·by_cases z:b=a
  ·subst z;rw[bj]at e;cases e;exact new
  ·rw[aV z]at e;exact(I.cA b u e).i_ (λc v _ q=>k c v q) (λ_ q=>up _ _ q) λ_ _ q=>up _ _ q
section
variable {X:Cx}{pins:aq}{σ:St}{H:Hp}{s:Shared}{d:Addr}{cs:aA}{as:aR}{xs:af}{ep:Nat}
theorem sL(I:Inv X pins σ H s)(h:H d=some (.ext (DO d cs as xs ep))):∃es:Array DictEntry,uk s.heap d es ep/\es.size=as.length/\es.toList.map (·.key)=as.map Value.ref/\cs.Nodup/\as.length=cs.length/\(d==sysModules)=false:=by
 obtain⟨⟨zs,o,es,e1,e2,e3,ho,hx,hd,he,hn,hl,hs⟩,_⟩:=(show cS X.prog X.w H s.heap d (.ext (DO d cs as xs ep)) from I.cA d _ h)
 refine⟨es,⟨o,ho,hx,hd⟩,?_,?_,hn,?_,hs⟩
 ·rw[<- Array.length_toList,he,<- e2,List.length_map,List.length_map]
 ·rw[he,<- e2,List.map_map,List.map_map];rfl
 ·rw[<- e1,<- e2,List.length_map,List.length_map]
noncomputable def Itd(d:Addr)(cs:aA)(as:aR)(xs:af)(ep:Nat):It :=
 ⟨λi H=>H d=some (.ext (DO d cs as xs ep))/\i<as.length,λi H v H'=>H'=H/\∃a,as[i]?=some a/\v=.ref a,λi H=>H d=some (.ext (DO d cs as xs ep))/\as.length<=i⟩
theorem Ae(d it:Addr)(cs:aA)(as:aR)(xs:af)(ep:Nat):Turn P w K tg (Itd d cs as xs ep) [it] it (λi h=>h.IsKeyIter it d i as.length ep) where
 mem:=by simp
 obj:=λi h st b hb=>by
  have e:b=it:=by simpa using hb
  subst e;obtain⟨o,e,c,d⟩:=st;exact⟨o,e,λv z=>by rw[d]at z;cases z⟩
 keep:=λi h h' st k=>st.at λo e=>k it (by simp) o e
 item:=by
  intro X hP hw hK hc i pins s σ H E I hf st hg;subst hP hw hK;obtain⟨hd,hi⟩:=hg;obtain⟨es,hr,hz,mS,_⟩:=sL I hd;obtain⟨f0,f1,f2,f3,f4,f5⟩:=hf it (by simp);have iu:i<es.size:=by rw[hz];exact hi
  have WJ:es[i].key=.ref as[i]:=by
   have:=aaX (λl=>l[i]?) mS;simp only[List.getElem?_map,Array.getElem?_toList]at this;rw[Array.getElem?_eq_getElem iu,List.getElem?_eq_getElem hi]at this;exact aar this
  rw[<- hz]at st;refine zy st hr iu λh' m6 sb=>?_;have I1:Inv X pins σ H { s with heap:=h' }:=I.turned (t':=s.toks) (λb o hb e=>(sb.2 b hb).trans e) f0 f1 f3 f4 f5;obtain⟨o,e,c,d'⟩:=id m6;refine⟨_,rfl,ze (s:={ s with heap:=h' }) e c d' (by decide) ⟨.ref as[i],H,I1,by rw[WJ];rfl,⟨rfl,as[i],aam hi,rfl⟩,?_,λb hb=>(hf b hb).1⟩⟩;rw[hz]at m6;exact m6
 done:=by
  intro X hP hw hK hc i pins s σ H E I hf st hg;subst hP hw hK;obtain⟨hd,hi⟩:=hg;obtain⟨es,hr,hz,mS,_⟩:=sL I hd;obtain⟨f0,f1,f2,f3,f4,f5⟩:=hf it (by simp);rw[<- hz]at st;exact El (I.ok.hd hc) st hr (by rw[hz];exact hi) λh' eb=>⟨rfl,I.turned (t':=s.toks) (λb o hb e=>eb b o hb e) f0 f1 f3 f4 f5⟩
 self:=λ_ _ _ _ _ st h=>wpAny_pyIter_keyiter st h
end
def pP(xs:aa):O D:=match one xs with
 |some d=>match hX d with
  |some z=>ok (.lst .ow (z.1.map cP))
  |none=>none
 |none=>none
theorem A1{r:D}(h:pP xs=ok r):∃f cs vs,xs=[.cO f cs vs]/\r=.lst .ow (cs.map cP):=by
 unfold pP at h;cases h1:one xs with
 |none=>rw[h1]at h;exact nk h
 |some d =>
  rw[h1]at h;have h:(match hX d with|some z=>ok (D.lst .ow (z.1.map cP))|none=>none)=ok r:=h;cases h2:hX d with
  |none=>rw[h2]at h;exact nk h
  |some z =>
   rw[h2]at h;cases h;obtain⟨f,e⟩:=lq h2;exact⟨f,z.1,z.2,by rw[bS h1,e],rfl⟩
theorem gu(g:Fl->Fl):∀cs:aA,aF g (cs.map cP)=cs.map cP
 |[]=>rfl
 |c::cs=>by
  show aS g (cP c)::aF g (cs.map cP)=_;rw[gu g cs];have:∀c:ae,aF g (c.map D.int)=c.map D.int:=λc=>by
   induction c with
   |nil=>rfl
   |cons i c ih=>show D.int i::aF g (c.map D.int)=_;rw[ih];rfl
  show D.tup (aF g (c.map D.int))::_=_;rw[this];rfl
theorem yK{N:gj}{k:br}{a:Addr}{c:ae}(h:T a (c.map V.int)):Rep T N k (.ref a) (cP c):=.tup h (aI.ints c)
def EE(_:Scope)(_:ao)(e:Expr):Option (aC):=if isNm e=true then some [e]else none
theorem Ej{n:Nat}(hΦ:Φ n=pP){sc:Scope}{bl:ao}{k:Nat}(L:PX X sc bl k){e:Expr}(he:EE sc bl e=some args)(ht:(decide (1100<=n)||gH tg)=true)(hs:mz X F Φ cs args)
  {pins:aq} {s:Shared} {d:D} (I:Inv X pins σ H s) (Si:SI X F R τ ρ σ H) (cn:cf Φ cs ρ=ok xs) (ed:Φ n xs=ok d) (ei:m9 d=ok items) (Rr:It->Hp->Prop)
  (hR:∀J H2 vs,aM H H2->cF X.K (gP X F) R τ (dF cs) H H2 vs xs->JR X.K J H2 vs xs items->Rr J H2) :
  wpAny (model X.prog X.w) X.A (eval e X.env) (λv s1=>wpAny (model X.prog X.w) X.A (pyIter v) (Bt X pins σ tg Rr) X.xe s1) X.xe s:=by
 unfold EE at he;by_cases hn:isNm e=true
 ·rw[if_pos hn]at he;cases he;cases cs with
  |nil=>exact hs.elim
  |cons c cs=>cases cs with
   |cons _ _=>exact hs.2.2.2.elim
   |nil =>
    rw[hΦ]at ed;obtain⟨f,ks,vs,rfl,rfl⟩:=A1 ed;cases ei;obtain⟨x,ex,cn⟩:=aH cn;cases cn;refine dg (hs.1 pins s σ H _ I (tD.intro Si ex (Q:=λv H1=>aM H H1/\cx X.K (gP X F) R τ (i7 c) H H1 v (.cO f ks vs)) λv H1 e1 r1=>⟨e1,r1⟩)) λu s1 bR=>?_;obtain⟨v,H1,I1,rv,e1,r1⟩:=bR;obtain⟨τt,fr,q1⟩:=id r1;cases q1 with
    | @cO _ p _ as ys ep _ _ y_ hk hr =>
     cases rv;have hd:=y_.dat;obtain⟨es,Mb,hz,mS,Q4,hlen,Hm⟩:=sL I1 hd;refine zA Hm Mb ?_;have hb:s1.heap.objs.size<=s1.heap.objs.size:=aak _;refine⟨s1.heap.objs.size,[s1.heap.objs.size],_,Itd p ks as ys ep,H1,rfl,I1.kept (t':=s1.toks) (λb o e=>aag _ e),Ae p s1.heap.objs.size ks as ys ep,⟨_,aao _ rfl,rfl,by rw[hz];rfl⟩,λb hb=>?_,hR _ H1 [.ref p] e1 (cF.cons e1 (aM.refl _) (r1.mono λj hj=>aaC _ hj) ⟨λ_=>none,λ_ _ h=>by simp at h,.nil⟩) ?_⟩
     ·have:b=s1.heap.objs.size:=by simpa using hb
      subst this;exact I1.AV (aak _) (I1.cA.fresh (aak _))
     ·rw[gu];have i_:∀H',r_ X.K H1 [.ref p] [.cO f ks vs] H'->H' p=some (.ext (DO p ks as ys ep)):=λH' st=>by
       obtain⟨R0,rs0,hl⟩:=st.n0;cases rs0 with
       |cons h0 _=>cases h0 with
        |cO h1 _ _ =>
         cases f with
         |sc=>exact h1.elim
         |ow=>exact hl p _ h1.2 hd
         |fz=>exact hl p _ h1.2 hd
         |al=>exact hl p _ h1.2 hd
      refine⟨λi H' R' st rs hi=>⟨i_ H' st,by rw[List.length_map]at hi;left⟩,λi H' R' x lK st rs hi hy=>?_,λi H' R' st rs hi=>⟨i_ H' st,by rw[List.length_map]at hi;left⟩⟩;obtain⟨rfl,a,ha,rfl⟩:=hy;rw[List.length_map]at hi;refine⟨aM.refl _,cP ks[i],by rw[List.getElem?_map,List.getElem?_eq_getElem hi];rfl,yK (st.tp _ _ (hk.tup i a _ ha (aam hi)))⟩
 ·rw[if_neg hn]at he;cases he
theorem x6(hc:X.calm=true)(hu:X.A.units+2<cLine):fD X (.builtin "sorted") (λxs H Q=>∃(d:Addr) (cs:aA) (as:aR) (ys:af) (ep:Nat),xs=[.ref d]/\H d=some (.ext (DO d cs as ys ep))/\dW (aY X.K H) as cs/\cs.length<64 /\
  ∀(l:Addr) (bs:aR),H l=none->dW (aY X.K H) bs (bt cs)->Q (.ref l) (upd H l (.lst (bs.map V.ref)))):=by
 intro pins s σ H xs us Q I r h;obtain⟨d,cs,as,ys,ep,rfl,hd,hk,pw,q⟩:=h;obtain⟨u,rfl,ru⟩:=r.one;cases ru;obtain⟨es,Mb,hz,mS,Q4,hlen,Hm⟩:=sL I hd;have ht:p6 s.heap (es.toList.map (·.key)) cs:=by
  rw[mS];refine⟨by rw[List.length_map,hlen],λi ns e=>?_⟩;have hi:i<as.length:=by rw[hlen];exact(List.getElem?_eq_some_iff.mp e).1
  obtain⟨Dk,rj,ij,_⟩:=I.tuple (hk.tup i as[i] ns (aam hi) e);exact⟨as[i],Dk,by rw[List.getElem?_map,List.getElem?_eq_getElem hi];rfl,ij,cT rj⟩
 refine uF (I.ok.hd hc) hu Hm Mb (by rw[hz,hlen];exact pw) Q4 ht λS h' tk e p hS Oi hp hs hl=>?_;rw[mS]at hl;have Md:(p.toList.map λi=>(as.map Value.ref).getD i Value.none)=(p.toList.map λi=>as.getD i 0).map Value.ref:=by
  rw[List.map_map];refine aaj λi hi=>?_;have iu:i<as.length:=by
   have:=List.mem_range.mp (hp.pm.mem_iff.mp hi);left
  simp[iu]
 rw[Md]at hl;have Mp:dW (aY X.K H) (p.toList.map λi=>as.getD i 0) (bt cs):=by
  rw[<- hs];refine⟨by simp,λj a c h1 h2=>?_⟩;rw[List.getElem?_map]at h1 h2;cases hj:p.toList[j]? with
  |none=>rw[hj]at h1;exact nk h1
  |some i =>
   rw[hj]at h1 h2;have iu:i<as.length:=by
    have:=List.mem_range.mp (hp.pm.mem_iff.mp (aas hj));left
   cases h1;cases h2;exact hk.tup i _ _ (by simp[iu]) (by simp[show i<cs.length by left])
 have Dw:∀l:aR,Vals (l.map V.ref) (l.map Value.ref):=λl=>by
  induction l with
  |nil=>exact .nil
  |cons a l ih=>exact .cons rfl ih
 have hsz:sizeLine=16777216:=abf;obtain⟨hn,I'⟩:=Inv.Qv (t':=tk) (o:=.lst ((p.toList.map λi=>as.getD i 0).map V.ref)) I Oi hS ⟨by rw[List.length_map,List.length_map,Array.length_toList,hp.sz];left,_,e,Dw _,hl⟩;exact⟨.ref S,_,I',rfl,q S _ hn Mp⟩
def pN(xs:aa):O D:=match one xs with
 |some d=>match hX d with
  |some z=>if z.1.length<64 then ok (.lst .ow ((bt z.1).map cP))else none
  |none=>none
 |none=>none
theorem A0{r:D}(h:pN xs=ok r):∃f cs vs,xs=[.cO f cs vs]/\cs.length<64/\r=.lst .ow ((bt cs).map cP):=by
 unfold pN at h;cases h1:one xs with
 |none=>rw[h1]at h;exact nk h
 |some d =>
  rw[h1]at h;have h:(match hX d with|some z=>if z.1.length<64 then ok (D.lst .ow ((bt z.1).map cP))else none|none=>none)=ok r:=h;cases h2:hX d with
  |none=>rw[h2]at h;exact nk h
  |some z =>
   rw[h2]at h;obtain⟨hl,rfl⟩:=qk (show(if z.1.length<64 then ok (D.lst .ow ((bt z.1).map cP))else none)=ok r from h);obtain⟨f,e⟩:=lq h2;exact⟨f,z.1,z.2,by rw[bS h1,e],hl,rfl⟩
theorem lT{T:mV}{N:gj}:∀{bs:aR} {cs:aA} {k:br} {n:Nat},dW T bs cs->aI T N k n (bs.map V.ref) (cs.map cP)
 |[],[],_,_,_=>.nil
 |[],_::_,_,_,h=>by have:=h.len;simp at this
 |_::_,[],_,_,h=>by have:=h.len;simp at this
 |b::bs,c::cs,_,_,h=>.cons (yK (h.tup 0 b c rfl rfl)) (lT ⟨by have:=h.len;simpa using this,λj a c' h1 h2=>h.tup (j+1) a c' h1 h2⟩)
theorem Eg{n:Nat}(hΦ:Φ n=pN){sc:Scope}{bl:ao}{k:Nat}(L:PX X sc bl k){e:Expr}(he:fg ("sorted" : Str) sc bl e=some args)(hs:mz X F Φ cs args):PE X e (tD X F Φ (.cI n cs))/\PT X e (gW X F Φ (.cI n cs)):=by
 obtain⟨p,pos,a,rfl,rfl,h1,h2⟩:=hZ he;cases cs with
 |nil=>exact hs.elim
 |cons c cs=>cases cs with
  |cons _ _=>exact hs.2.2.2.elim
  |nil =>
   have pa:PA X [a] (uo X F Φ [c]):=PA.imp (cJ hs.1 (PA.imp eJ λ_ _ _ h=>jI h) (hs.2.1 _)) λ_ _ _ h=>fP h;have hu:X.A.units+2<cLine:=aaq (ab6 (by decide:2<=64) _) L.room.units;have this:PE X (.Call (.Name ("sorted" : Str) p) [a] [] pos) (tD X F Φ (.cI n [c])):=by
    refine PE.imp (d9 (x6 L.calm hu) (L.gl h1) (L.bl _ h2) (by decide +kernel) pa (he:=hs.2.1 _)) λσ H Q hq=>?_;obtain⟨R,τ,ρ,d,Si,ev,hq⟩:=hq;obtain⟨xs,cn,ev⟩:=aH ev;rw[hΦ]at ev;obtain⟨f,ks,vs,rfl,hl,rfl⟩:=A0 ev;refine⟨R,τ,ρ,_,Si,cn,λus H1 e1 r1=>?_⟩;obtain⟨τt,fr,rs⟩:=r1;obtain⟨v,rfl,rv⟩:=rs.one;cases rv with
    |cO hn hk hr =>
     refine⟨_,ks,_,_,_,rfl,hn.dat,hk,hl,λl bs qC Mp=>hq _ _ (e1.trans (aM.upd qC)) (cx.xf (e1.free qC) (e1.trans (aM.upd qC)) bj ?_)⟩;exact lT (Mp.imp λ_ _ h=>aY.same (aM.upd qC) h)
   exact⟨this,cR this λ_=>rfl⟩
def zH(f g:Str)(sc:Scope)(bl:ao)(e:Expr):Option (aC):=match fg f sc bl e with
 |some z=>match one z with
  |some i=>fg g sc bl i
  |none=>none
 |none=>none
theorem ED{f g:Str}{sc:Scope}{bl:ao}{e:Expr}(h:zH f g sc bl e=some args):∃p pos p' pos' a,e=.Call (.Name f p) [.Call (.Name g p') [a] [] pos'] [] pos/\args=[a]/\fV sc f=true/\f∈bl/\fV sc g=true/\g∈bl:=by
 unfold zH at h;cases h1:fg f sc bl e with
 |none=>rw[h1]at h;exact nk h
 |some z =>
  rw[h1]at h;obtain⟨p,pos,i,rfl,rfl,g1,g2⟩:=hZ h1;have h:fg g sc bl i=some args:=h;obtain⟨p',pos',a,rfl,rfl,g3,g4⟩:=hZ h;exact⟨p,pos,p',pos',a,rfl,rfl,g1,g2,g3,g4⟩
def Dc(xs:aa):O D:=match one xs with
 |some x=>match x with
  |.lst _ ds=>match intsOf ds with
   |some ns=>if ns.length<4000 then ok (.int (i5 ns).length)else none
   |none=>none
  |_=>none
 |none=>none
theorem G9{d:D}(h:Dc xs=ok d):∃(f:Fl) (ns:ae),xs=[.lst f (ns.map D.int)]/\ns.length<4000/\d=.int (i5 ns).length:=by
 unfold Dc at h;cases hw:one xs with
 |none=>rw[hw]at h;exact nk h
 |some x =>
  obtain rfl:=bS hw;rw[hw]at h;cases x<;>first|exact nk h | (cases h;done)|skip
  rename_i f ds;have h:(match intsOf ds with|some ns=>if ns.length<4000 then ok (D.int (i5 ns).length)else none|none=>none)=ok d:=h;cases hn:intsOf ds with
  |none=>rw[hn]at h;exact nk h
  |some ns =>
   rw[hn]at h;obtain⟨h1,h2⟩:=qk h;cases dS hn;exact⟨f,ns,rfl,h1,h2.symm⟩
def rLl(K:au):af->Hp->VK->Prop:=λxs H Q=>∃(p:Addr) (ns:ae),xs=[.ref p]/\dH K H p (ns.map V.int)/\ns.length<4000/\Q (.int (i5 ns).length) H
theorem CF{e:Expr}{t:TA}{p p':Pos}(hc:X.calm=true)(Rc:Gl X ("len" : Str))(Q7:X.mg ("len" : Str)=none)(WM:Gl X ("set" : Str))(Q6:X.mg ("set" : Str)=none)(ha:PA X [e] t)
  (mQ:∀es,starEach (e::es) X.env=(false,eval e X.env)::starEach es X.env):PE X (.Call (.Name ("len" : Str) p) [.Call (.Name ("set" : Str) p') [e] [] pos'] [] pos) (NV (rLl X.K) t):=by
 intro pins s σ H Q I h;refine aaR (eK I Rc Q7 aci ?_ (by decide) (by decide));refine aba ?_ rfl rfl;show wpAny _ _ (spliced ((false,eval (.Call (.Name ("set" : Str) p') [e] [] pos') X.env)::[])) _ _ s;refine abt ?_;refine aaR (eK I WM Q6 boot_set ?_ (by decide) (by decide));refine aaw (dg (ha pos' pins s σ H _ I h) λus s1 bR=>?_) (mQ _) rfl;obtain⟨vs,H1,I1,r1,q1⟩:=bR;obtain⟨a,ns,rfl,hq,hl,q⟩:=q1;obtain⟨u,rfl,ru⟩:=r1.one;cases ru;obtain⟨aK,rv,pl,hz⟩:=I1.list hq;have hle:aK.length=ns.length:=by rw[<- rv.length];simp
 refine call_set_list (I1.ok.hd hc) (cY pl) (ns:=ns) (by simpa using cT rv) (by simp;unfold scanBound;left) λh' tk hS kp=>abF ?_;have e1:aK.toArray.size=ns.length:=by rw[List.size_toArray,hle]
 rw[e1]at hS;change h'.SetOf (intKind X.prog X.w) s1.heap.objs.size (λk=>(dist ns).any (· == k)) (dist ns).length at hS;rw[vP]at hS;obtain⟨o,es,ep,tb,g1,g2,g3,_,_,g6,g7,g8⟩:=hS;refine call_len_set g1 g2 g3 g7 (by unfold scanBound at g6;omega) ?_;exact⟨.int (i5 ns).length,H1,I1.kept (t':=tk+1+1) λb u z=>kp b u (aah z) z,⟨_,by rw[g8]⟩,q⟩
theorem LC{n:Nat}(hΦ:Φ n=Dc){sc:Scope}{bl:ao}{k:Nat}(L:PX X sc bl k){e:Expr}(he:zH ("len" : Str) ("set" : Str) sc bl e=some args)(hs:mz X F Φ cs args):PE X e (tD X F Φ (.cI n cs))/\PT X e (gW X F Φ (.cI n cs)):=by
 obtain⟨p,pos,p',pos',a,rfl,rfl,h1,h2,h3,h4⟩:=ED he;obtain⟨pa,s1⟩:=yP hs;cases cs with
 |nil=>exact hs.elim
 |cons c cs=>cases cs with
  |cons _ _=>exact hs.2.2.2.elim
  |nil =>
   have this:PE X (.Call (.Name ("len" : Str) p) [.Call (.Name ("set" : Str) p') [a] [] pos'] [] pos) (tD X F Φ (.cI n [c])):=by
    refine PE.imp (CF L.calm (L.gl h1) (L.bl _ h2) (L.gl h3) (L.bl _ h4) pa s1) λσ H Q hq=>?_;obtain⟨R,τ,ρ,d,Si,ev,hq⟩:=hq;obtain⟨xs,cn,ev⟩:=aH ev;rw[hΦ]at ev;obtain⟨f,ns,rfl,hl,rfl⟩:=G9 ev;refine⟨R,τ,ρ,_,Si,cn,λvs H1 e1 r1=>?_⟩;obtain⟨τt,fr,rs⟩:=r1;obtain⟨v,rfl,rv⟩:=rs.one;cases rv with
    |lst h r=>cases r.ofInts;exact⟨_,ns,rfl,h.sq,hl,hq _ H1 e1 .int⟩
   exact⟨this,cR this λ_=>rfl⟩
def vS(xs:aa):O D:=match two xs with
 |some z=>match z.1 with
  |.tup ds=>match z.2 with
   |.int k=>if 1<=k/\k<=ds.length/\aQ anyF ds=false then ok (.tup (ds.drop k.toNat))else none
   |_=>none
  |_=>none
 |none=>none
theorem Ep{x y d:D}(h:vS [x,y]=ok d):∃(ds:aa) (k:Nat),x=.tup ds/\y=.int k/\1<=k/\k<=ds.length/\aQ anyF ds=false/\d=.tup (ds.drop k):=by
 cases x<;>first|exact nk h | (cases h;done) | (cases y<;>first|exact nk h | (cases h;done)|skip)
 obtain⟨⟨h1,h2,h3⟩,h4⟩:=qk h;rename_i ds k;exact⟨ds,k.toNat,rfl,by rw[Int.toNat_of_nonneg (by left)],by left,by left,h3,h4.symm⟩
theorem qZ{T:mV}{N N':gj}:∀{k k':br} {n n':Nat} {vs:af} {ds:aa},aI T N k n vs ds->aQ anyF ds=false->aI T N' k' n' vs ds
 |_,_,_,_,_,_,.nil,_=>.nil
 |_,_,_,_,_,_,.cons h t,hf=>.cons (jL h (CP hf).1) (qZ t (CP hf).2)
theorem any_drop:∀(k:Nat) {ds:aa},aQ anyF ds=false->aQ anyF (ds.drop k)=false
 |0,_,h=>h
 |k+1,[],h=>h
 |k+1,_::_,h=>any_drop k (CP h).2
theorem uQ{n k:Nat}(h:k<=n):HT.eF n 0 (some (k:Int))=k:=by
 unfold HT.eF;simp;rw[if_neg (by left)];left
theorem oP(n m:Nat):HT.eF n m none=m:=by
 unfold HT.eF;rfl
theorem Ib{n:Nat}(hΦ:Φ n=vS){sc:Scope}{bl:ao}{k:Nat}(L:PX X sc bl k){e:Expr}(he:mi true sc bl e=some args)(hs:mz X F Φ cs args):PE X e (tD X F Φ (.cI n cs))/\PT X e (gW X F Φ (.cI n cs)):=by
 obtain⟨a,ke,p,pos,rfl,rfl⟩:=rW he;cases cs with
 |nil=>exact hs.elim
 |cons c cs=>cases cs with
  |nil=>exact hs.2.2.2.elim
  |cons c' cs=>cases cs with
   |cons _ _=>exact hs.2.2.2.2.2.2.elim
   |nil =>
    obtain⟨h1,_,_,h2,_,_,_⟩:=hs;have this:PE X (.Subscript a (.Slice (some ke) none none p) pos) (tD X F Φ (.cI n [c,c'])):=by
     refine PE.imp (uZ (Kq) h1 (sN h2) sO) λσ H Q hq=>?_;obtain⟨R,τ,ρ,d,Si,ev,hq⟩:=hq;obtain⟨xs,cn,ev⟩:=aH ev;obtain⟨x,ex,cn⟩:=aH cn;obtain⟨ys,ma,cn⟩:=aH cn;cases cn;obtain⟨y,ey,ma⟩:=aH ma;cases ma;rw[hΦ]at ev;obtain⟨ds,j,rfl,rfl,j1,j2,hf,rfl⟩:=Ep ev;refine tD.intro Si ex λv H1 e1 r1=>tD.intro (Si.go e1) ey λw H2 e2 r2=>?_;cases r2.isInt;refine⟨j,rfl,?_⟩;obtain⟨τt,fr,rp⟩:=r1;cases rp with
     | @tup _ q xs _ hT rs =>
      have hT2:aY X.K H2 q xs:=aY.same e2 hT;have hlen:=rs.length;have ee:=e1.trans e2;refine⟨q,xs,rfl,hT2,by rw[uQ (by left),oP];left,λl hl=>?_⟩;have WT:vR xs (some (j:Int)) none=xs.drop j:=by
       unfold vR;rw[uQ (by left),oP,<- List.length_drop,List.take_length]
      rw[WT];refine hq _ _ (ee.trans (aM.upd hl)) ⟨λ_=>none,λ_ _ h=>by simp at h,.tup (aY.of bj) ?_⟩;have r3:=qZ (N':=nd X.K R (kg (gP X F) τ (i7 (.cI n [c,c']))) (λ_=>none) H1) (k':=[]) (n':=0) (rs.Eh j) (any_drop j hf);exact(r3.imp (λ_ _ h=>aY.same (e2.trans (aM.upd hl)) h) λ_ _ _ _ h=>nd.same (e2.trans (aM.upd hl)) h)
    exact⟨this,cR this λ_=>rfl⟩
noncomputable def bq(g b:Bool):Bool:=match g with
 |true=>b
 |false=>!b
def Th(g:Bool)(xs:aa):O D:=match two xs with
 |some z=>match z.2 with
  |.lst _ ds=>if dA 8 z.1=true/\ds.all (dA 8)=true then ok (.bl (bq g (ds.any λd=>iU d z.1)))else none
  |_=>none
 |none=>none
abbrev YT:=Th false
abbrev TF:=Th true
theorem KS{g:Bool}{x y d:D}(h:Th g [x,y]=ok d):∃f ds,y=.lst f ds/\dA 8 x=true/\ds.all (dA 8)=true/\d=.bl (bq g (ds.any λd=>iU d x)):=by
 cases y<;>first | (cases h;done)|skip
 rename_i f ds;obtain⟨⟨h1,h2⟩,h3⟩:=qk h;exact⟨f,ds,rfl,h1,h2,h3.symm⟩
noncomputable abbrev Oz(g:Bool):CmpOp:=if g then .In else .NotIn
structure Seen(K:au)(H:Hp)(x:V)(d:D):Prop where
 ex:∃(N:gj) (k:br),Rep (aY K H) N k x d/\∀q p xs f,N q p (.l xs) f->dH K H p xs
structure SH(K:au)(H:Hp)(xs:af)(ds:aa):Prop where
 ex:∃(N:gj) (k:br),aI (aY K H) N k 0 xs ds/\∀q p xs f,N q p (.l xs) f->dH K H p xs
def YM(g:Bool)(K:au):R2:=λx y H Q=>∃p xs ds d,y=.ref p/\dH K H p xs/\SH K H xs ds/\Seen K H x d/\dA 8 d=true/\ds.all (dA 8)=true/\Q (.bl (bq g (ds.any λe=>iU e d))) H
section
variable {X:Cx}
open Classical in
theorem Ji(g:Bool)(hu:X.A.units+1+8<cLine):kC X (compareOp (Oz g)) (YM g X.K):=by
 intro pins s σ H x y v u Q I rx ry h;obtain⟨p,xs,ds,d,rfl,hq,⟨N,k,rs,hN⟩,⟨N',k',rp,Bo⟩,ho,Me,q⟩:=h;cases ry;obtain⟨aK,r,pl,hz⟩:=I.list hq;have at_:∀(j:Nat) (w:Value),aK[j]?=some w->∃e,ds[j]?=some e/\SeqAt.EqAt X.A.in1 s w v (iU e d):=λj w hw=>by
  have Jw:j<xs.length:=by rw[r.length];exact(List.getElem?_eq_some_iff.mp hw).1
  have y6:xs[j]?=some xs[j]:=aam Jw;obtain⟨w',Zm,rx'⟩:=r.get y6;rw[hw]at Zm;cases Zm;obtain⟨e,he,re⟩:=rs.tH y6;exact⟨e,he,(alike I hN Bo 8 X.A.in1 re rp (List.all_eq_true.mp Me e (aas he)) ho rx' rx (by show X.A.units+1+8<cLine;exact hu)).eq⟩
 let e:Value->Bool:=λw=>decide (∃(j:Nat) (c:D),aK[j]?=some w/\ds[j]?=some c/\iU c d=true)
 have hE:∀w∈aK.toArray,SeqAt.EqAt X.A.in1 s w v (e w):=λw hw=>by
  obtain⟨j,hj⟩:=List.mem_iff_getElem?.mp (show w∈aK by simpa using hw);by_cases he:∃(j:Nat) (c:D),aK[j]?=some w/\ds[j]?=some c/\iU c d=true
  ·have:e w=true:=aaM he;rw[this];obtain⟨j',c,h1,h2,h3⟩:=he;obtain⟨c',h4,h5⟩:=at_ j' w h1;rw[h2]at h4;cases h4;rw[h3]at h5;exact h5
  ·have:e w=false:=aaN he;rw[this];obtain⟨c,h4,h5⟩:=at_ j w hj;have:iU c d=false:=by
    cases hb:iU c d with
    |false=>rfl
    |true=>exact absurd ⟨j,c,hj,h4,hb⟩ he
   rw[this]at h5;exact h5
 have hA:aK.toArray.any e=ds.any λc=>iU c d:=by
  rw[show aK.toArray.any e=aK.any e by simp];apply Bool.eq_iff_iff.mpr;rw[List.any_eq_true,List.any_eq_true];constructor
  ·rintro ⟨w,hw,he⟩;obtain⟨j,c,h1,h2,h3⟩:=aad he;exact⟨c,aas h2,h3⟩
  ·rintro ⟨c,hc,h3⟩;obtain⟨j,hj⟩:=List.mem_iff_getElem?.mp hc;obtain⟨x',y6,_⟩:=rs.get hj;obtain⟨w,hw,_⟩:=r.get y6;exact⟨w,aas hw,aaM ⟨j,c,hw,hj,h3⟩⟩
 rw[<- hA]at q;cases g with
 |true=>exact SeqAt.in_listAt e pl.isList hE ⟨.bl _,H,I,rfl,q⟩
 |false=>exact SeqAt.notIn_listAt e pl.isList hE ⟨.bl _,H,I,rfl,q⟩
end
def Ex(g:Bool)(_:Scope)(_:ao)(e:Expr):Option (aC):=match Ab e with
 |some z=>match one z.2.2 with
  |some r=>if z.2.1=[Oz g]/\jf r=true then some [z.1,r]else none
  |none=>none
 |none=>none
theorem EA{g:Bool}{sc:Scope}{bl:ao}{e:Expr}(h:Ex g sc bl e=some args):∃l r p,e=.Compare l [Oz g] [r] p/\args=[l,r]/\jf r=true:=by
 unfold Ex at h;cases hv:Ab e with
 |none=>rw[hv]at h;cases h
 |some z =>
  obtain⟨l,os,rs⟩:=z;rw[hv]at h;obtain⟨p,rfl⟩:=sk hv;replace h:(match one rs with|some r=>if os=[Oz g]/\jf r=true then some [l,r]else none|none=>none)=some args:=h;cases hw:one rs with
  |none=>rw[hw]at h;cases h
  |some r =>
   rw[hw]at h;replace h:(if os=[Oz g]/\jf r=true then some [l,r]else none)=some args:=h;obtain rfl:=bS hw;by_cases hc:os=[Oz g]/\jf r=true
   ·rw[if_pos hc]at h;cases h;obtain⟨hc,hn⟩:=hc;subst hc;exact⟨l,r,p,rfl,rfl,hn⟩
   ·rw[if_neg hc]at h;cases h
theorem Jl{g:Bool}{n:Nat}(hΦ:Φ n=Th g){sc:Scope}{bl:ao}{k:Nat}(L:PX X sc bl k){e:Expr}(he:Ex g sc bl e=some args)(hs:mz X F Φ cs args):PE X e (tD X F Φ (.cI n cs))/\PT X e (gW X F Φ (.cI n cs)):=by
 obtain⟨l,r,p,rfl,rfl,hn⟩:=EA he;have hu:X.A.units+1+8<cLine:=by have:=L.room.units;left
 cases cs with
 |nil=>exact hs.elim
 |cons c cs=>cases cs with
  |nil=>exact hs.2.2.2.elim
  |cons c' cs=>cases cs with
   |cons _ _=>exact hs.2.2.2.2.2.2.elim
   |nil =>
    obtain⟨h1,_,_,h2,_,_,_⟩:=hs;have key:∀{σ:St} {H:Hp} {R:ak} {τ:Addr->Option br} {ρ:aZ} {d:D} {Q:VK},SI X F R τ ρ σ H->bz Φ (.cI n [c,c']) ρ=ok d->(∀b H2,d=.bl b->aM H H2->Q (.bl b) H2)->F0 (YM g X.K) (tD X F Φ c) (tD X F Φ c') σ H Q:=by
     intro σ H R τ ρ d Q Si ev hq;obtain⟨xs,cn,ev⟩:=aH ev;obtain⟨x,ex,cn⟩:=aH cn;obtain⟨ys,ma,cn⟩:=aH cn;cases cn;obtain⟨y,ey,ma⟩:=aH ma;cases ma;rw[hΦ]at ev;obtain⟨f,ds,rfl,ha,hb,rfl⟩:=KS ev;refine tD.intro Si ex λv H1 e1 r1=>tD.intro (Si.go e1) ey λu H2 e2 r2=>?_;obtain⟨_,_,p1⟩:=r1.go e2;obtain⟨_,_,p2⟩:=r2;obtain⟨_,_,rfl,t2,s2⟩:=p2.wA;exact⟨_,_,_,_,rfl,t2.sq,⟨_,_,s2,λq p xs f h=>h.sq⟩,⟨_,_,p1,λq p xs f h=>h.sq⟩,ha,hb,hq _ H2 rfl (e1.trans e2)⟩
    refine⟨PE.imp (sS (Ji g hu) h1 h2 (sV hn)) λσ H Q hq=>?_,PT.imp (sM (Ji g hu) h1 h2 (sV hn)) λσ H Q hq=>?_⟩
    ·obtain⟨R,τ,ρ,d,Si,ev,hq⟩:=hq;exact key Si ev λb H2 e es=>hq _ H2 es (by subst e;exact .bl)
    ·obtain⟨R,τ,ρ,b,Si,ev,hq⟩:=hq;obtain⟨d,ed,et⟩:=aH ev;refine key Si ed λb' H2 e es=>?_;subst e;cases et;exact⟨_,rfl,hq H2 es⟩
def gk:aa->Option (aA)
 |[]=>some []
 |d::ds=>match keyOf d with
  |some c=>(gk ds).map (c :: ·)
  |none=>none
theorem oQ:∀{ds:aa} {nss:aA},gk ds=some nss->ds=nss.map cP
 |[],nss,h=>by cases h;rfl
 |d::ds,nss,h=>by
  have h:(match keyOf d with|some c=>(gk ds).map (c :: ·)|none=>none)=some nss:=h;cases hk:keyOf d with
  |none=>rw[hk]at h;cases h
  |some c =>
   rw[hk]at h;obtain⟨mss,h1,rfl⟩:=Option.map_eq_some_iff.mp (show(gk ds).map (c :: ·)=some nss from h);rw[oQ h1,ji hk];rfl
theorem lS:∀nss:aA,gk (nss.map cP)=some nss
 |[]=>rfl
 |c::nss=>by
  show(match keyOf (cP c)with|some c=>(gk (nss.map cP)).map (c :: ·)|none=>none)=_;have:keyOf (cP c)=some c:=bx c;rw[this,lS nss];rfl
def Ci(K:au)(H:Hp)(ys:af)(nss:aA):Prop:=ys.length=nss.length/\∀(i:Nat) (ns:ae),nss[i]?=some ns->∃t,ys[i]?=some (.ref t)/\aY K H t (ns.map V.int)
theorem qX{N:gj}{k:br}{n:Nat}{ys:af}(r:aI (aY K H) N k n ys (nss.map cP)):Ci K H ys nss:=by
 refine⟨by rw[r.length,List.length_map],λi ns e=>?_⟩;obtain⟨v,hv,rv⟩:=r.get (j:=i) (d:=cP ns) (by rw[List.getElem?_map,e];rfl);cases rv with
 |tup ht rs=>cases rs.ofInts;exact⟨_,hv,ht⟩
section
variable {prog:aE}{w:World}{A:aJ}{E:aB}{s:Shared}
theorem sC{l:Addr}(hu:A.units+2<cLine)(hl:s.heap.IsList l vs.toArray)(pw:vs.length<64)(y_:nss.Nodup)(ht:p6 s.heap vs nss)
  (h:∀p:Array Nat,Arr p vs.length->(p.toList.map λi=>nss.getD i [])=bt nss->Q (.ref (s.heap.objs.size+1)) { s with heap:=sortedAll s.heap vs (List.toArray (p.toList.map λi=>vs.getD i Value.none)) }) :
  wpAny (model prog w) A (call (.builtin "sorted") [.ref l]) Q E s:=by
 refine abr kind_sorted plain_sorted entry_sorted (args_sorted1 _) ?_;unfold Builtin.«sorted»;have hz:vs.length<=sizeLine:=by rw[sizeLine_eq];left
 refine aab (m:=checkCount "sorted" 1 1 _) (aaf (aab (collect_list hl (aab (abK ?_ hz)) hz)));have e1:((s.heap.push (seqObj "list" #[] 0)).update s.heap.objs.size (Obj.mapSeq (· ++ vs.toArray))).objs.size=s.heap.objs.size+1:=by rw[Heap.size_update,size_push']
 have e2:(((s.heap.push (seqObj "list" #[] 0)).update s.heap.objs.size (Obj.mapSeq (· ++ vs.toArray))).push (seqObj "list" vs.toArray 0)).get? (s.heap.objs.size+1)=some (seqObj "list" vs.toArray 0):=by
  rw[<- e1];exact aao _ rfl
 show wpAny _ _ _ _ _ ({ s with heap:=((s.heap.push (seqObj "list" #[] 0)).update s.heap.objs.size (Obj.mapSeq (· ++ vs.toArray))).push (seqObj "list" vs.toArray 0) }:Shared);rw[e1];have k1:∀b o,s.heap.get? b=some o->(((s.heap.push (seqObj "list" #[] 0)).update s.heap.objs.size (Obj.mapSeq (· ++ vs.toArray))).push (seqObj "list" vs.toArray 0)).get? b=some o:=λb o e=>by
  refine aag _ ?_;rw[Heap.get?_update_other _ _ (Nat.ne_of_gt (Heap.lt_size e))];exact aag _ e
 have k6:∀b o,s.heap.get? b=some o->((((((s.heap.push (seqObj "list" #[] 0)).update s.heap.objs.size (Obj.mapSeq (· ++ vs.toArray))).push (seqObj "list" vs.toArray 0)).update (s.heap.objs.size+1) (Obj.mapSeq λ_=>#[])).push (seqObj "tuple" vs.toArray 0)).push (seqObj "list" #[] 0)).get? b=some o:=λb o e=>by
  refine aag _ (aag _ ?_);rw[Heap.get?_update_other _ _ (Nat.ne_of_gt (Nat.lt_succ_of_lt (Heap.lt_size e)))];exact k1 b o e
 exact aab (aaF (aaH slot_list_sort ⟨_,e2,rfl⟩ entry_list_sort (uG (s:={ s with heap:=((s.heap.push (seqObj "list" #[] 0)).update s.heap.objs.size (Obj.mapSeq (· ++ vs.toArray))).push (seqObj "list" vs.toArray 0) }) (nss:=nss) (show A.in1.in1.units<cLine by show A.units+1+1<cLine;left) e2 pw y_ (ht.mono k6) λp hp hs=>⟨_,rfl,aaf ⟨_,rfl,h p hp hs⟩⟩) (args_list_sort _)))
end
theorem x5(hu:X.A.units+2<cLine):fD X (.builtin "sorted") (λxs H Q=>∃(p:Addr) (ys:af) (nss:aA),xs=[.ref p]/\dH X.K H p ys/\Ci X.K H ys nss/\nss.Nodup/\nss.length<64 /\
  ∀(l:Addr) (bs:aR),H l=none->dW (aY X.K H) bs (bt nss)->Q (.ref l) (upd H l (.lst (bs.map V.ref)))):=by
 intro pins s σ H xs us Q I r h;obtain⟨p,ys,nss,rfl,hq,⟨hl,hT⟩,y_,pw,q⟩:=h;obtain⟨u,rfl,ru⟩:=r.one;cases ru;obtain⟨aK,rv,pl,hz⟩:=I.list hq;have Jx:aK.length=nss.length:=by rw[<- rv.length];exact hl
 have at_:∀(i:Nat) (ns:ae),nss[i]?=some ns->∃t,ys[i]?=some (.ref t)/\aK[i]?=some (.ref t)/\aY X.K H t (ns.map V.int):=λi ns e=>by
  obtain⟨t,e1,e2⟩:=hT i ns e;obtain⟨u,hu,ru⟩:=rv.get e1;cases ru;exact⟨t,e1,hu,e2⟩
 have Mx:∃as:aR,aK=as.map Value.ref/\as.length=nss.length:=by
  have:∀(aK:av) (nss:aA),aK.length=nss.length->(∀(i:Nat) (ns:ae),nss[i]?=some ns->∃t,aK[i]?=some (.ref t))->∃as:aR,aK=as.map Value.ref/\as.length=nss.length:=λaK=>by
   induction aK with
   |nil=>intro nss h _;exact⟨[],rfl,by simpa using h⟩
   |cons v aK ih =>
    intro nss h hh;cases nss with
    |nil=>simp at h
    |cons ns nss =>
     obtain⟨t,ht⟩:=hh 0 ns rfl;obtain⟨as,h1,h2⟩:=ih nss (by simpa using h) λi ms e=>hh (i+1) ms e;cases ht;exact⟨t::as,by rw[h1];rfl,by simp[h2]⟩
  exact this aK nss Jx λi ns e=>let ⟨t,_,h,_⟩:=at_ i ns e;⟨t,h⟩
 obtain⟨as,rfl,Ro⟩:=Mx;have hk:dW (aY X.K H) as nss:=⟨Ro,λj a c h1 h2=>by
  obtain⟨t,_,e2,e3⟩:=at_ j c h2;rw[List.getElem?_map,h1]at e2;cases e2;exact e3⟩
 refine sC (nss:=nss) hu (cY pl) (by rw[List.length_map];left) y_ ⟨by rw[List.length_map,Ro],λi ns e=>?_⟩ λpm hp hs=>?_
 ·obtain⟨t,_,e2,e3⟩:=at_ i ns e;obtain⟨Dk,rj,ij,_⟩:=I.tuple e3;exact⟨t,Dk,e2,ij,cT rj⟩
 ·rw[List.length_map]at hp;have Md:(pm.toList.map λi=>(as.map Value.ref).getD i Value.none)=(pm.toList.map λi=>as.getD i 0).map Value.ref:=by
   rw[List.map_map];refine aaj λi hi=>?_;have iu:i<as.length:=List.mem_range.mp (hp.pm.mem_iff.mp hi);simp[iu]
  rw[Md];have Mp:dW (aY X.K H) (pm.toList.map λi=>as.getD i 0) (bt nss):=by
   rw[<- hs];refine⟨by simp,λj a c h1 h2=>?_⟩;rw[List.getElem?_map]at h1 h2;cases hj:pm.toList[j]? with
   |none=>rw[hj]at h1;cases h1
   |some i =>
    rw[hj]at h1 h2;have iu:i<as.length:=List.mem_range.mp (hp.pm.mem_iff.mp (aas hj));cases h1;cases h2;exact hk.tup i _ _ (by simp[iu]) (by simp[show i<nss.length by left])
  have Dw:∀l:aR,Vals (l.map V.ref) (l.map Value.ref):=λl=>by
   induction l with
   |nil=>exact .nil
   |cons a l ih=>exact .cons rfl ih
  obtain⟨e,he⟩:=sortedAll_at s.heap (as.map Value.ref) (List.toArray ((pm.toList.map λi=>as.getD i 0).map Value.ref));have hn:H (s.heap.objs.size+1)=none:=I.cA.fresh (abo _);refine⟨.ref (s.heap.objs.size+1),upd H (s.heap.objs.size+1) (.lst ((pm.toList.map λi=>as.getD i 0).map V.ref)),I.laid (t':=s.toks) (λb u z=>sortedAll_old z) (abo _) ⟨?_,_,e,Dw _,he⟩,rfl,q _ _ hn Mp⟩;rw[List.length_map,List.length_map,Array.length_toList,hp.sz,sizeLine_eq];left
def oM(xs:aa):O D:=match one xs with
 |some x=>match x with
  |.lst _ ds=>match gk ds with
   |some nss=>if nss.Nodup/\nss.length<64 then ok (.lst .ow ((bt nss).map cP))else none
   |none=>none
  |_=>none
 |none=>none
theorem Aj{r:D}(h:oM xs=ok r):∃(f:Fl) (nss:aA),xs=[.lst f (nss.map cP)]/\nss.Nodup/\nss.length<64/\r=.lst .ow ((bt nss).map cP):=by
 unfold oM at h;cases h1:one xs with
 |none=>rw[h1]at h;cases h
 |some x =>
  rw[h1]at h;obtain rfl:=bS h1;cases x<;>first | (cases h;done)|skip
  rename_i f ds;have h:(match gk ds with|some nss=>if nss.Nodup/\nss.length<64 then ok (D.lst .ow ((bt nss).map cP))else none|none=>none)=ok r:=h;cases h2:gk ds with
  |none=>rw[h2]at h;cases h
  |some nss =>
   rw[h2]at h;obtain⟨⟨g1,g2⟩,g3⟩:=qk h;cases oQ h2;exact⟨f,nss,rfl,g1,g2,g3.symm⟩
theorem BX{n:Nat}(hΦ:Φ n=oM){sc:Scope}{bl:ao}{k:Nat}(L:PX X sc bl k){e:Expr}(he:fg ("sorted" : Str) sc bl e=some args)(hs:mz X F Φ cs args):PE X e (tD X F Φ (.cI n cs))/\PT X e (gW X F Φ (.cI n cs)):=by
 obtain⟨p,pos,a,rfl,rfl,h1,h2⟩:=hZ he;cases cs with
 |nil=>exact hs.elim
 |cons c cs=>cases cs with
  |cons _ _=>exact hs.2.2.2.elim
  |nil =>
   have pa:PA X [a] (uo X F Φ [c]):=PA.imp (cJ hs.1 (PA.imp eJ λ_ _ _ h=>jI h) (hs.2.1 _)) λ_ _ _ h=>fP h;have hu:X.A.units+2<cLine:=aaq (ab6 (by decide:2<=64) _) L.room.units;have this:PE X (.Call (.Name ("sorted" : Str) p) [a] [] pos) (tD X F Φ (.cI n [c])):=by
    refine PE.imp (d9 (x5 hu) (L.gl h1) (L.bl _ h2) (by decide +kernel) pa (he:=hs.2.1 _)) λσ H Q hq=>?_;obtain⟨R,τ,ρ,d,Si,ev,hq⟩:=hq;obtain⟨xs,cn,ev⟩:=aH ev;rw[hΦ]at ev;obtain⟨f,nss,rfl,g1,g2,rfl⟩:=Aj ev;refine⟨R,τ,ρ,_,Si,cn,λus H1 e1 r1=>?_⟩;obtain⟨τt,fr,rs⟩:=r1;obtain⟨v,rfl,rv⟩:=rs.one;cases rv with
    |lst h r =>
     refine⟨_,_,nss,rfl,h.sq,qX r,g1,g2,λl bs qC Mp=>hq _ _ (e1.trans (aM.upd qC)) (cx.xf (e1.free qC) (e1.trans (aM.upd qC)) bj ?_)⟩;exact lT (Mp.imp λ_ _ h=>aY.same (aM.upd qC) h)
   exact⟨this,cR this λ_=>rfl⟩
def Hk(xs:aa):O D:=match two xs with
 |some z=>match z.1 with
  |.lst _ ds=>match gk ds with
   |some nss=>match keyOf z.2 with
    |some c=>if c∈nss/\nss.length<=eH then ok (.int (nss.idxOf c))else none
    |none=>none
   |none=>none
  |_=>none
 |none=>none
theorem Hj{x y r:D}(h:Hk [x,y]=ok r):∃(f:Fl) (nss:aA) (c:ae),x=.lst f (nss.map cP)/\y=cP c/\c∈nss/\nss.length<=eH/\r=.int (nss.idxOf c):=by
 cases x<;>first | (cases h;done)|skip
 rename_i f ds;have h:(match gk ds with|some nss=>(match keyOf y with|some c=>if c∈nss/\nss.length<=eH then ok (D.int (nss.idxOf c))else none|none=>none)|none=>none)=ok r:=h;cases h2:gk ds with
 |none=>rw[h2]at h;cases h
 |some nss =>
  rw[h2]at h;have h:(match keyOf y with|some c=>if c∈nss/\nss.length<=eH then ok (D.int (nss.idxOf c))else none|none=>none)=ok r:=h;cases h3:keyOf y with
  |none=>rw[h3]at h;cases h
  |some c =>
   rw[h3]at h;obtain⟨⟨g1,g2⟩,g3⟩:=qk h;cases oQ h2;exact⟨f,nss,c,rfl,ji h3,g1,g2,g3.symm⟩
def VD(K:au):V->af->Hp->VK->Prop:=λx vs H Q=>∃(l b:Addr) (xs:af) (nss:aA) (c:ae),x=.ref l/\vs=[.ref b]/\dH K H l xs/\Ci K H xs nss/\aY K H b (c.map V.int)/\c∈nss/\nss.length<=eH/\Q (.int (nss.idxOf c)) H
theorem uT{p:Addr}{c:ae}(h:T p (c.map V.int))(N:gj)(k:br):Rep T N k (.ref p) (cP c):=.tup h (jP c)
open Classical in
theorem C4(hu:X.A.units+1+8<cLine):UB X "list.index" (VD X.K):=by
 intro pins s σ H x vs v us Q I rx rv h;obtain⟨l,b,xs,nss,c,rfl,rfl,hq,⟨hl,hT⟩,hb,hc,pq,q⟩:=h;cases rx;obtain⟨u,rfl,ru⟩:=rv.one;cases ru;obtain⟨aK,r,pl,hz⟩:=I.list hq;have Jx:aK.length=nss.length:=by rw[<- r.length];exact hl
 have at_:∀(j:Nat) (ns:ae),nss[j]?=some ns->∃t,aK[j]?=some (.ref t)/\aY X.K H t (ns.map V.int)/\SeqAt.EqAt X.A.in1 s (.ref t) (.ref b) (decide (ns=c)):=λj ns e=>by
  obtain⟨t,e1,e2⟩:=hT j ns e;obtain⟨w,hw,lI⟩:=r.get e1;cases lI;have k1:=(alike I (N:=λ_ _ _ _=>False) (N':=λ_ _ _ _=>False) (λ_ _ _ _ h=>h.elim) (λ_ _ _ _ h=>h.elim) 8 X.A.in1 (uT e2 _ []) (uT hb _ []) (by show(ns.map D.int).all (dA 7)=true;rw[List.all_eq_true];intro d hd;obtain⟨i,_,rfl⟩:=List.mem_map.mp hd;rfl) (by show(c.map D.int).all (dA 7)=true;rw[List.all_eq_true];intro d hd;obtain⟨i,_,rfl⟩:=List.mem_map.mp hd;rfl) rfl rfl (by show X.A.units+1+8<cLine;exact hu)).eq;have k2:iU (cP ns) (cP c)=decide (ns=c):=by
   show e_ (ns.map D.int) (c.map D.int)=_;clear k1 hb hc q e e1 e2 hw;induction ns generalizing c with
   |nil=>cases c<;>rfl
   |cons a as ih =>
    cases c with
    |nil=>rfl
    |cons b' bs =>
     show((a==b')&&e_ (as.map D.int) (bs.map D.int))=_;rw[ih];by_cases ha:a=b'<;>by_cases hs:as=bs<;>simp[ha,hs]
  rw[k2]at k1;exact⟨t,hw,e2,k1⟩
 let e:Value->Bool:=λw=>decide (∃j:Nat,aK[j]?=some w/\nss[j]?=some c)
 have hj:nss.idxOf c<nss.length:=List.idxOf_lt_length_iff.mpr hc;have hjc:nss[nss.idxOf c]?=some c:=by rw[List.getElem?_eq_getElem hj,List.getElem_idxOf]
 have unique:∀(j j':Nat) (w:Value) (ns:ae),aK[j]?=some w->aK[j']?=some w->nss[j]?=some ns->nss[j']?=some c->ns=c:=λj j' w ns h1 h2 h3 h4=>by
  obtain⟨t,a1,a2,_⟩:=at_ j ns h3;obtain⟨t',b1,b2,_⟩:=at_ j' c h4;rw[h1]at a1;cases a1;rw[h2]at b1;cases b1;have:=I.jG a2 b2;have inj:∀a b:ae,a.map V.int=b.map V.int->a=b:=λa=>by
   induction a with
   |nil=>intro b h;cases b with|nil=>rfl|cons _ _=>cases h
   |cons x xs ih=>intro b h;cases b with|nil=>cases h|cons y ys=>rw[ih ys (List.cons.inj h).2,V.int.inj (List.cons.inj h).1]
  exact inj _ _ this
 obtain⟨⟨cls,dd,dat,sl⟩,n,ho,vz,hdn,DL⟩:=pl;simp only at vz hdn DL;subst vz DL;have hjs:nss.idxOf c<aK.toArray.size:=by rw[List.size_toArray];left
 have ZF:nss.length<=1000000:=pq;have ej:e aK.toArray[nss.idxOf c]=true:=aaM ⟨nss.idxOf c,by rw[List.getElem_toArray];exact aam (by left),hjc⟩;have en:∀m (hm:m<aK.toArray.size),m<nss.idxOf c->e aK.toArray[m]=false:=λm hm iR=>by
  refine aaN ?_;rintro ⟨j',h1,h2⟩;have hm':m<nss.length:=by left
  rw[List.getElem_toArray]at h1;have:=unique m j' _ nss[m] (aam (by simpa using hm)) h1 (aam hm') h2;have z:=List.not_of_lt_findIdx (p:=λx=>x==c) iR;rw[this]at z;simp at z
 refine abb PySem.F.slot_list_index ⟨_,ho,rfl⟩ PySem.F.entry_list_index (PySem.F.args_list_index_2 _ _) (SeqAt.list_indexAt l aK.toArray n dd sl (.ref b) e (nss.idxOf c) hjs (by omega) ej en) ⟨ho,λy hy=>?_,?_⟩
 ·obtain⟨j,Fg⟩:=List.mem_iff_getElem?.mp (show y∈aK by simpa using hy);have Jw:j<nss.length:=by rw[<- Jx];exact(List.getElem?_eq_some_iff.mp Fg).1
  obtain⟨t,a1,a2,a3⟩:=at_ j nss[j] (aam Jw);rw[Fg]at a1;cases a1;by_cases wt:nss[j]=c
  ·have:e (.ref t)=true:=aaM ⟨j,Fg,by rw[List.getElem?_eq_getElem Jw,wt]⟩;rw[this];rw[decide_eq_true wt]at a3;exact a3
  ·have:e (.ref t)=false:=aaN λ⟨j',h1,h2⟩=>wt (unique j j' _ _ Fg h1 (aam Jw) h2);rw[this];rw[decide_eq_false wt]at a3;exact a3
 ·exact⟨.int (nss.idxOf c),H,I.tok _,⟨_,rfl⟩,q⟩
def tU(_:Scope)(_:ao)(e:Expr):Option (aC):=match mI ("index" : Str) (.Expr e ⟨0,0,0,0⟩)with
 |some z=>match one z.2 with
  |some y=>if isNm z.1=true then some [z.1,y]else none
  |none=>none
 |none=>none
theorem A4{sc:Scope}{bl:ao}{e:Expr}(h:tU sc bl e=some args):∃x p p1 p2 a,e=.Call (.Attribute (.Name x p) ("index" : Str) p1) [a] [] p2/\args=[.Name x p,a]/\(p1.endLine==p2.line)=true:=by
 unfold tU at h;cases h1:mI ("index" : Str) (.Expr e ⟨0,0,0,0⟩)with
 |none=>rw[h1]at h;cases h
 |some z =>
  obtain⟨o,as⟩:=z;rw[h1]at h;have h2:(match one as with|some y=>if isNm o=true then some [o,y]else none|none=>none)=some args:=h;clear h;cases h3:one as with
  |none=>rw[h3]at h2;cases h2
  |some y =>
   rw[h3]at h2;have h4:(if isNm o=true then some [o,y]else none)=some args:=h2;clear h2;by_cases hn:isNm o=true
   ·rw[if_pos hn]at h4;cases h4;obtain⟨p1,p2,pos,e1,hl⟩:=oB h1;cases e1;cases o<;>first | (cases hn;done)|skip
    obtain rfl:=bS h3;exact⟨_,_,_,_,_,rfl,rfl,hl⟩
   ·rw[if_neg hn]at h4;cases h4
theorem L5{n:Nat}(hΦ:Φ n=Hk){sc:Scope}{bl:ao}{k:Nat}(L:PX X sc bl k){e:Expr}(he:tU sc bl e=some args)(hs:mz X F Φ cs args):PE X e (tD X F Φ (.cI n cs))/\PT X e (gW X F Φ (.cI n cs)):=by
 obtain⟨x,p,p1,p2,a,rfl,rfl,hl⟩:=A4 he;have hu:X.A.units+1+8<cLine:=by have:=L.room.units;left
 cases cs with
 |nil=>exact hs.elim
 |cons c cs=>cases cs with
  |nil=>exact hs.2.2.2.elim
  |cons c' cs=>cases cs with
   |cons _ _=>exact hs.2.2.2.2.2.2.elim
   |nil =>
    obtain⟨h1,_,_,h2,s2,_,_⟩:=hs;have this:PE X (.Call (.Attribute (.Name x p) ("index" : Str) p1) [a] [] p2) (tD X F Φ (.cI n [c,c'])):=by
     refine PE.imp (CG abE PySem.F.slot_list_index PySem.F.type_list_index (C4 hu) h1 (cJ h2 eJ (s2 _)) (hfew:=by rw[s2];rfl) (hline:=hl) (hs:=s2 _)) λσ H Q hq=>?_;obtain⟨R,τ,ρ,d,Si,ev,hq⟩:=hq;obtain⟨xs,cn,ev⟩:=aH ev;obtain⟨y,ey,cn⟩:=aH cn;obtain⟨ys,ma,cn⟩:=aH cn;cases cn;obtain⟨w,ew,ma⟩:=aH ma;cases ma;rw[hΦ]at ev;obtain⟨f,nss,t,rfl,rfl,g1,g2,rfl⟩:=Hj ev;refine tD.intro Si ey λv H1 e1 r1=>?_;obtain⟨_,_,q1⟩:=r1;cases q1 with
     |lst hn rs =>
      refine⟨.inl ⟨rfl,_,hn.sq⟩,tD.intro (Si.go e1) ew λu H2 e2 r2=>?_⟩;obtain⟨_,_,q2⟩:=r2;cases q2 with
      |tup hT Vs =>
       cases Vs.ofInts;obtain⟨k1,k2⟩:=qX rs;exact⟨_,_,_,nss,t,rfl,rfl,(nd.same e2 hn).sq,⟨k1,λi ns e=>let ⟨z,z1,z2⟩:=k2 i ns e;⟨z,z1,aY.same e2 z2⟩⟩,hT,g1,g2,hq _ H2 (e1.trans e2) .int⟩
    exact⟨this,cR this λ_=>rfl⟩
variable {it:Addr}
section
variable {prog:aE}{w:World}{A:aJ}{E:aB}{s:Shared}
theorem C0(l:Addr)(items:aP):Meets (Builtin.«enumerate.__new__» ⟨[.type "enumerate",.ref l],[]⟩) (λ_ R s=>s.heap.IsTuple l items /\
  R (.ok (.ret (.ref (s.heap.push { cls:=.type "tuple_iterator",data:=.fields #[.ref l,.int 0 0] }).objs.size))) { s with heap:=(s.heap.push { cls:=.type "tuple_iterator",data:=.fields #[.ref l,.int 0 0] }).push { cls:=.type "enumerate",data:=.fields #[.none,.bool false,.ref s.heap.objs.size,rawInt 0,.none,.none] } }) :=
 .of_wp λprog w A R s h=>by
  obtain⟨hp,g,d,tk,os⟩:=s;obtain⟨hL,h⟩:=h;obtain⟨ob,hl,r⟩:=id hL;have QN:=sub_enumerate
  wp_walk using AutoSeq1.wpAny_loadPart' hl
  refine wpAny_stack_any λst=>aaf ?_;split
  ·rename_i c _ _ _ _ _;cases (c==Value.type "enumerate")<;>(wp_walk using AutoSeq1.wpAny_loadPart' hl,wpAny_pyIter_tuple hL;exact⟨_,rfl,h⟩)
  ·wp_walk using AutoSeq1.wpAny_loadPart' hl,wpAny_pyIter_tuple hL
   exact⟨_,rfl,h⟩
theorem x8{l:Addr}{items:aP}(hL:s.heap.IsTuple l items)
  (h:∀h',IsEnum h' (s.heap.objs.size+1) s.heap.objs.size 0 .none->h'.IsTupleIter s.heap.objs.size l 0->(∀b o,s.heap.get? b=some o->h'.get? b=some o)->Q (.ref (s.heap.objs.size+1)) { s with heap:=h' }) :
  wpAny (model prog w) A (call (.type "enumerate") [.ref l]) Q E s:=by
 refine callType_new F.called_enumerate (by decide) (F.typeCall_enumerate_1 _) (F.newCall_enumerate_1 _) (λobj=>F.args_object_init_2 obj _) F.entry_enumerate_new (C0 l items) ⟨hL,?_⟩;have hz:(s.heap.push { cls:=.type "tuple_iterator",data:=.fields #[.ref l,.int 0 0] }).objs.size=s.heap.objs.size+1:=Heap.size_push ..;show _/\_;rw[hz];have he:IsEnum ((s.heap.push { cls:=.type "tuple_iterator",data:=.fields #[.ref l,.int 0 0] }).push { cls:=.type "enumerate",data:=.fields #[.none,.bool false,.ref s.heap.objs.size,rawInt 0,.none,.none] }) (s.heap.objs.size+1) s.heap.objs.size 0 .none:=by
  have:=aao (s.heap.push { cls:=.type "tuple_iterator",data:=.fields #[.ref l,.int 0 0] }) (o:={ cls:=.type "enumerate",data:=.fields #[.none,.bool false,.ref s.heap.objs.size,rawInt 0,.none,.none] }) rfl;rw[hz]at this;exact this
 exact⟨⟨_,he,rfl⟩,h _ he ⟨_,aag _ (aao _ rfl),rfl,rfl⟩ λb o x=>aag _ (aag _ x)⟩
theorem AZ{e l:Addr}{i:Nat}{items:aP}{old:Value}{Q:Option Value->Shared->Prop}(hh:A.handled=none)(he:IsEnum s.heap e it i old)(hit:s.heap.IsTupleIter it l i)(hl:s.heap.IsTuple l items)(hx:items[i]?=none)
  (hQ:∀h',Heap.ExtBut it s.heap h'->Q none { s with heap:=h' }):wpAny (model prog w) A (pyNext (.ref e)) Q E s:=by
 have hT:s.TypeIs (.ref e) "enumerate":=⟨_,he,rfl⟩
 unfold pyNext;refine aab (abL (aaO (name:=Str.ofString "__next__") hT F.slot_enumerate_next (aaH F.slot_enumerate_next hT F.entry_enumerate_next ?_ (F.args_enumerate_next_1 _))));show wpAny _ _ (field (.ref e) 2 >>= _) _ _ _;refine aab (aaP he rfl (x:=.ref it) rfl (aab (qQ (A:=A.in1) hh hx s _ _ ⟨hit,hl⟩ λh' x WR y6=>?_)));obtain⟨o,ho,hc⟩:=y6;exact aab (wpAny_isInstance (T:="StopIteration") (b:=true) ⟨o,ho,hc⟩ isSubtype_stop (aaf (hQ _ WR)))
end
def NR(K:au)(a:Addr):It :=
  ⟨λi H=>∃xs x,aY K H a xs/\xs[i]?=some x,
   λi H v H'=>∃T x,(∀xs,aY K H a xs->xs[i]?=some x)/\H T=none/\v=.ref T/\H'=upd H T (.tup [.int i,x]),
   λi H=>∃xs,aY K H a xs/\xs.length<=i⟩
theorem wI{tp:Pos}{a e:Addr}(uq:e≠it):
  Turn P w K (.Tuple elts n1 tp) (NR K a) [e,it] e (λi h=>(∃old,IsEnum h e it (i:Int) old)/\h.IsTupleIter it a i):=by
 refine⟨by simp,λi h st c hc=>?_,λi h h' st k=>?_,?_,?_,λA i s Q E st hQ=>?_⟩
 ·obtain⟨⟨old,he⟩,⟨o1,e1,_,d1⟩⟩:=st;simp only[List.mem_cons,List.not_mem_nil,or_false]at hc;rcases hc with rfl|rfl
  ·exact⟨_,he,λv q=>by cases q⟩
  ·exact⟨o1,e1,λv q=>by rw[d1]at q;cases q⟩
 ·obtain⟨⟨old,he⟩,l1⟩:=st;exact⟨⟨old,k e (by simp) _ he⟩,l1.at λo z=>k it (by simp) o z⟩
 ·intro X hP hw hK hc i pins s σ H E I hf st hg;subst hP hw hK;obtain⟨xs,x,q1,ex⟩:=hg;obtain⟨⟨old,he⟩,l1⟩:=st;obtain⟨aK,rv,p,_⟩:=I.tuple q1;obtain⟨u,hu,ru⟩:=rv.get ex;have pt:s.heap.IsTuple a aK.toArray:=p;have hai:a≠it:=by
   obtain⟨o,ho,WU,_⟩:=pt;obtain⟨o1,e1,c1,_⟩:=l1;exact cV ho e1 (by rw[WU,c1];simp)
  have hae:a≠e:=by
   obtain⟨o,ho,WU,_⟩:=pt;exact cV ho he (by rw[WU];simp)
  have Jx:i<aK.toArray.size:=by rw[List.size_toArray];exact(List.getElem?_eq_some_iff.mp hu).1
  refine wpAny_pyNext_enum_itemD (vM (A:=X.A.in1) (I.ok.hd hc) it a hai aK.toArray) he ⟨l1,pt⟩ Jx uq (by simp;exact⟨uq,λz=>hae z.symm⟩) λy h1 tk hy e1 a1 t1 Pf k1=>⟨_,rfl,?_⟩
  obtain rfl:y=u:=by
   have:aK.toArray[i]?=some u:=by simpa using hu
   rw[this]at hy;cases hy;rfl
  refine wpAny_letOwnedTupleGo_enum e1 λh2 e2 EZ=>?_;have ene:s.heap.objs.size≠e:=aau (aah he);have kk:∀c o,c∉[e,it]->s.heap.get? c=some o->h2.get? c=some o:=λc o hc z=>by
   simp only[List.mem_cons,List.not_mem_nil,or_false,not_or]at hc;exact EZ.extBut c o hc.1 (k1 c o hc.1 hc.2 z)
  have hT:h2.get? s.heap.objs.size=some { cls:=.type "tuple",data:=.seq #[.int i tk,y] }:=EZ.extBut _ _ ene t1;have hn:H s.heap.objs.size=none:=I.cA.fresh (aak _);have ci:((i+1:Nat):Int)=(i:Int)+1:=by push_cast;rfl
  refine⟨.ref s.heap.objs.size,upd H s.heap.objs.size (.tup [.int i,x]),yv (s:=s) (h':=h2) (t':=tk+1) I hf kk (aak _) (sr ⟨_,rfl⟩ ru hT),rfl,⟨_,x,λzs hz=>by rw[I.jG hz q1];exact ex,hn,rfl,rfl⟩,⟨⟨y,by rw[ci];exact e2⟩,a1.1.extBut EZ.extBut uq.symm⟩,λc hc=>?_⟩;rw[aV]
  ·exact(hf c hc).1
  ·intro z;subst z;simp only[List.mem_cons,List.not_mem_nil,or_false]at hc;rcases hc with z|z
   ·exact absurd (aah he) (by rw[<- z];exact aax _)
   ·obtain⟨_,w,_⟩:=l1;exact absurd (aah w) (by rw[<- z];exact aax _)
 ·intro X hP hw hK hc i pins s σ H E I hf st hg;subst hP hw hK;obtain⟨xs,q1,hl⟩:=hg;obtain⟨⟨old,he⟩,l1⟩:=st;obtain⟨aK,rv,p,_⟩:=I.tuple q1;have e1:=rv.length;refine AZ (I.ok.hd hc) he l1 (show s.heap.IsTuple a aK.toArray from p) (by simp;left) λh1 k1=>⟨rfl,yu (t':=s.toks) I hf λc o hc z=>?_⟩
  simp only[List.mem_cons,List.not_mem_nil,or_false,not_or]at hc;exact k1 c o hc.2 z
 ·obtain⟨⟨old,he⟩,_⟩:=st;exact wpAny_pyIter_enum he hQ
theorem Cv{e1:Expr}{tp p:Pos}(hg:Gl X "enumerate")(hm:X.mg "enumerate" = none)(ha:PA X [e1] ta)(hs:∀es,starEach (e1::es) X.env=(false,eval e1 X.env)::starEach es X.env):
  PI X (.Tuple elts n1 tp) (.Call (.Name "enumerate" p) [e1] [] pos) (λσ H R=>ta σ H λvs H1=>∃a,vs=[.ref a]/\(∃xs,aY X.K H1 a xs)/\R (NR X.K a) H1):=by
 intro pins s σ H R I h;refine Call_ (eK I hg hm A_ (aaw (dg (ha pos pins s σ H _ I h) λus s1 bR=>?_) (hs _) rfl));obtain⟨vs,H1,I1,r1,q1⟩:=bR;obtain⟨a,e,⟨xs,q1⟩,q⟩:=q1;subst e;obtain⟨u,rfl,ru⟩:=vals1 r1;cases ru;obtain⟨aK,_,p1,_⟩:=I1.tuple q1;refine x8 (show s1.heap.IsTuple a aK.toArray from p1) λh' z l1 k=>wpAny_pyIter_enum z ?_;refine⟨s1.heap.objs.size+1,[s1.heap.objs.size+1,s1.heap.objs.size],_,_,H1,rfl,I1.kept (t':=s1.toks) k,wI (Nat.succ_ne_self _),⟨⟨_,z⟩,l1⟩,λb hb=>?_,q⟩;have jQ:s1.heap.objs.size<=b:=by
  simp only[List.mem_cons,List.not_mem_nil,or_false]at hb;rcases hb with rfl|rfl<;>first|exact Nat.le_add_right .. |exact aak _
 exact I1.AV jQ (I1.cA.fresh jQ)
def tQ:aw
 |[.tup a]=>ok (.lst .ow (bN 0 a))
 |_=>none
theorem z8{p:Addr}{a:aa}{H2:Hp}:JR K (NR K p) H2 [.ref p] [.tup a] (aF aW (bN 0 a)):=by
 have len:(aF aW (bN 0 a)).length=a.length:=by rw[aX,List.length_map,ll]
 have two:∀{H':Hp} {R':ak},aI (aY K H') (nd K R' (λ_=>False) (λ_=>none) H') [] 0 [.ref p] (aF aW [.tup a]) ->
   ∃xs,aY K H' p xs/\aI (aY K H') (nd K R' (λ_=>False) (λ_=>none) H') [0] 0 xs (aF aW a):=by
  intro H' R' h;rw[aF,aS,aF]at h;cases h with
  |cons h t=>cases h with
   |tup h r=>exact⟨_,h,r⟩
 refine⟨λi H' R' _ h hi=>?_,λi H' R' x lK _ h hi hy=>?_,λi H' R' _ h hi=>?_⟩
 ·obtain⟨xs,h1,r1⟩:=two h;rw[len]at hi;have l1:=r1.length;rw[aX,List.length_map]at l1;exact⟨xs,xs[i]'(by left),h1,aam _⟩
 ·obtain⟨xs,h1,r1⟩:=two h;obtain⟨T,u,g1,hn,rfl,rfl⟩:=hy;obtain⟨d1,e1,p1⟩:=r1.tH (g1 xs h1);have es:aM H' (upd H' T (.tup [.int i,u])):=aM.upd hn;refine⟨es,.tup [.int i,d1],?_,.tup (aY.of bj) (.cons (.int _) (.cons (p1.UT es) .nil))⟩;rw[aX,List.getElem?_map]at e1 ⊢;obtain⟨c1,q1,rfl⟩:=Option.map_eq_some_iff.mp e1;rw[lp,q1];simp[aS,aF]
 ·obtain⟨xs,h1,r1⟩:=two h;rw[len]at hi;have l1:=r1.length;rw[aX,List.length_map]at l1;exact⟨xs,h1,by left⟩
theorem Eb{n:Nat}(hΦ:Φ n=tQ){sc:Scope}{bl:ao}{k:Nat}(L:PX X sc bl k){e:Expr}(he:fg "enumerate" sc bl e=some args)(ht:gH tg=true)(hs:mz X F Φ cs args)
  {pins:aq} {s:Shared} {d:D} (I:Inv X pins σ H s) (Si:SI X F R τ ρ σ H) (cn:cf Φ cs ρ=ok xs) (ed:Φ n xs=ok d) (ei:m9 d=ok items) (Rr:It->Hp->Prop)
  (hR:∀J H2 vs,aM H H2->cF X.K (gP X F) R τ (dF cs) H H2 vs xs->JR X.K J H2 vs xs items->Rr J H2) :
  wpAny (model X.prog X.w) X.A (eval e X.env) (λv s1=>wpAny (model X.prog X.w) X.A (pyIter v) (Bt X pins σ tg Rr) X.xe s1) X.xe s:=by
 obtain⟨p,pos,a,rfl,rfl,h1,h2⟩:=hZ he;cases tg<;>try (cases ht;done)
 obtain⟨pa,s1⟩:=yP hs;refine Cv (L.gl h1) (L.bl _ h2) pa s1 pins s σ H Rr I ⟨R,τ,ρ,xs,Si,cn,λvs H1 e1 rv=>?_⟩;have Vp:=rv;obtain⟨τt,fr,rs⟩:=rv;rw[hΦ]at ed;unfold tQ at ed;split at ed
 ·cases ed;cases ei;obtain⟨v,rfl,rx⟩:=rs.one;cases rx with
  |tup hx _=>exact⟨_,rfl,⟨_,hx⟩,hR _ H1 _ e1 Vp z8⟩
 ·cases ed
end DI
end
section
end
section
namespace DI
open PySem PySem.Spec PyProof.Rows PySem.W
structure XC(K:Frag)(C:Addr):Prop where
 ga:findIn K (.ref C) "__getattribute__" = some (some (.builtin "BaseException.__getattribute__"))
 gt:findIn K (.ref C) "__getattr__" = some none
 cl:findIn K (.ref C) "__class__" = some (some (.builtin "object.__class__"))
 be:mroIn K C (.type "BaseException")=some true
 ob:mroIn K C (.type "object")=some true
 cs:(clsIn K C).isSome=true
section
variable {prog:aE}{w:World}{A:aJ}{E:aB}{h:Heap}{g:Array GenState}{d:Drawn}{t:Nat}{os:OsState}{K:Frag}{x C:Addr}{o:Obj}
theorem UJ{R:Result->Shared->Prop}(Z:XC K C)(X:K.In h)(hx:h.get? x=some o)(hc:o.cls=.ref C)(hq:R (.ok (.ret (.ref C))) ⟨h,g,d,t,os⟩):
  codeAny (model prog w) A (.call (.builtin "getset_descriptor.__get__") ⟨[.builtin "object.__class__",.ref x,.ref C],[]⟩) R ⟨h,g,d,t,os⟩:=by
 have L1:=looks_mroIn (M:=model prog w) X Z.ob;refine abY KF.slot_gs.plain KF.entry_gs (KF.slot_gs.check _ _ _ _ _ _ _ _ KF.type_class (KF.args_gs _ _ _) ?_);have hT5:(⟨h,g,d,t,os⟩:Shared).TypeIs (.builtin "object.__class__") "getset_descriptor":=abR;have e1:(".".intercalate ("object.__class__".cutAt '.').dropLast) = "object":=F.owner_object_class
 repeat (any_goals (first|assumption | (with_reducible refine aaZ hx ?_;rw[hc]) | (with_reducible refine L1.at ?_) | (rw[e1];with_reducible refine L1.at ?_)|wp_step))
 refine⟨ab_ _ (by decide +kernel),abc F.entry_object_class ?_⟩
 repeat (any_goals (first|assumption | (with_reducible refine aaZ hx ?_;rw[hc])|wp_step))
theorem J1{tk:Tok}{Q:Fin->Shared->Prop}(Z:XC K C)(X:K.In h)(hx:h.get? x=some o)(hc:o.cls=.ref C)(hq:Q (.done (.ret (.ref C))) ⟨h,g,d,t,os⟩):
  wpAny (model prog w) A (Builtin.«object.__getattribute__» ⟨[.ref x,.str "__class__" tk],[]⟩) Q E ⟨h,g,d,t,os⟩:=by
 have hT5:(⟨h,g,d,t,os⟩:Shared).TypeIs (.builtin "object.__class__") "getset_descriptor":=abR;have f5:=abR;have f6:=F.slot_gs_get.lookup;have f7:=F.slot_gs_set.lookup;have L1:=looks_findIn (M:=model prog w) X Z.cl
 repeat (any_goals (first|assumption | (with_reducible refine aaZ hx ?_;rw[hc]) | (with_reducible refine L1.at ?_)|wp_step))
 refine UJ Z X hx hc ?_
 repeat (any_goals (first|assumption|wp_step))
theorem J2{M:Model}{Jo:Value}{Q:Unit->Shared->Prop}(Z:XC K C)(X:K.In h)(hx:h.get? x=some o)(hc:o.cls=.ref C)(hq:Q () ⟨h,g,d,t,os⟩):
  wpAny M A (checkBuiltinCall "BaseException.__getattribute__" ⟨[.ref x,Jo],[]⟩) Q E ⟨h,g,d,t,os⟩:=by
 have hk:builtinKind "BaseException.__getattribute__" = some .slot:=by decide +kernel
 have L_:splitId "BaseException.__getattribute__" = some ("BaseException","__getattribute__"):=by decide +kernel
 have L1:=looks_mroIn (M:=M) X Z.be;have ha:=F.args_bexc_ga (.ref x) Jo;simp only[checkBuiltinCall,hk,L_];refine aab ?_
 ·unfold isInstance
  repeat (first | (with_reducible refine aaZ hx ?_;rw[hc]) | (with_reducible refine L1.at ?_)|wp_step)
  exact hq
theorem ON{tk:Tok}{R:Result->Shared->Prop}(B:ExcAttrFacts "ValueError")(Z:XC K C)(X:K.In h)(hx:h.get? x=some o)(hc:o.cls=.ref C)(hq:R (.ok (.ret (.ref C))) ⟨h,g,d,t,os⟩):
  codeAny (model prog w) A (.call (.builtin "BaseException.__getattribute__") ⟨[.ref x,.str "__class__" tk],[]⟩) R ⟨h,g,d,t,os⟩ :=
 abY B.ga.plain F.entry_bexc_ga (J2 Z X hx hc (J1 Z X hx hc hq))
theorem xby{tk:Tok}{Q:aB}(B:ExcAttrFacts "ValueError")(Z:XC K C)(X:K.In h)(hx:h.get? x=some o)(hc:o.cls=.ref C)(hq:Q (.ref C) ⟨h,g,d,t,os⟩):
  wpAny (model prog w) A (getAttrBy (.ref x) (.str "__class__" tk) false) Q E ⟨h,g,d,t,os⟩:=by
 have f3:=B.ga.bind (.ref x);have hx0:(false&&onTheHeap (Value.builtin "BaseException.__getattribute__"))=false:=rfl;have hx2:(Value.builtin "BaseException.__getattribute__" == Value.builtin "object.__getattribute__")=false:=by decide +kernel
 have hx1:(onTheHeap (Value.ref C)&&Value.builtin "BaseException.__getattribute__" == Value.builtin "object.__getattribute__")=false:=by rw[hx2];rfl
 have L1:=looks_findIn (M:=model prog w) X Z.ga;have L2:=looks_findIn (M:=model prog w) X Z.gt
 repeat (any_goals (first|assumption | (with_reducible refine aaZ hx ?_;rw[hc]) | (with_reducible refine L1.at ?_) | (with_reducible refine L2.at ?_)|wp_step))
 refine ON B Z X hx hc ?_
 repeat (any_goals (first|assumption|wp_step))
theorem OO{Q:Option Value->Shared->Prop}(B:ExcAttrFacts "ValueError")(Z:XC K C)(X:K.In h)(hx:h.get? x=some o)(hc:o.cls=.ref C)(hq:Q (some (.ref C)) ⟨h,g,d,t+1,os⟩):
  wpAny (model prog w) A (getAttr? (.ref x) "__class__") Q E ⟨h,g,d,t,os⟩:=by
 unfold getAttr? getAttrBy?
 repeat (any_goals (first|assumption|with_reducible apply xby B Z X hx hc|wp_step))
end
def Fs(x C:Addr)(h:Heap):Prop:=∃o,h.get? x=some o/\o.cls=.ref C
theorem Di{K:Frag}{x C:Addr}(B:ExcAttrFacts "ValueError")(Z:XC K C):KitX K (.ref x) (.ref C) (Fs x C) where
 ty:=λM h _ p=>by
  obtain⟨o,h1,h2⟩:=p;exact h2▸(Looks.ld h1).andThen .now
 it:=λ_ _ X _=>by
  obtain⟨cdD,Mo⟩:=Option.isSome_iff_exists.mp Z.cs;unfold clsIn at Mo;split at Mo
  ·rename_i c' d' cd' Vm ho;intro A' Q' E' s' k q;unfold isType loadHead;exact aab (wpAny_loadPart (k _ _ (X _ _ ho)) (aaf q))
  ·cases Mo
 ne:=λh tp dd aK n sl X htp=>by
  obtain⟨cdD,Mo⟩:=Option.isSome_iff_exists.mp Z.cs;refine Bool.eq_false_iff.mpr λq=>?_;have e:C=tp:=Value.ref.inj (beq_iff_eq.mp q);subst e;unfold clsIn at Mo;split at Mo
  ·rename_i c' d' cd' Vm ho;have z:=(X _ _ ho).symm.trans htp;cases z
  ·cases Mo
 ca:=λ{prog w A E Q s} X p k=>by
  obtain⟨o,h1,h2⟩:=p;obtain⟨h,g,d,t,os⟩:=s;exact OO B Z X h1 h2 k
end DI
end
section
namespace DI
open PySem PySem.Spec PyProof.Rows L2
variable {H H' H1:Hp}{P:aE}{w:World}
theorem mM{h:Heap}{a:Addr}{o:HO}(x:cS P w H h a o):∃u,h.get? a=some u:=by
 cases o with
 |lst xs=>obtain⟨_,_,_,_,e⟩:=x;exact⟨_,e⟩
 |tup xs=>obtain⟨_,_,_,o,e,_⟩:=x;exact⟨_,e⟩
 |dK nq=>obtain⟨_,_,_,_,o,_,_,e,_⟩:=x;exact⟨_,e⟩
 |dT nq=>obtain⟨_,_,_,_,o,_,_,e,_⟩:=x;exact⟨_,e⟩
 |set S n=>obtain⟨o,_,_,_,e,_⟩:=x;exact⟨_,e⟩
 |ins C dx fs=>obtain⟨_,_,_,e,_⟩:=x;exact⟨_,e⟩
 |own y=>obtain⟨_,e⟩:=x;exact⟨_,e⟩
 |xd fs=>obtain⟨_,⟨_,_,_,e,_⟩,_⟩:=x;exact⟨_,e⟩
 |jK lo hi=>obtain⟨_,_,_,e⟩:=x;exact⟨_,e⟩
 |i4 ob u=>obtain⟨e,_⟩:=x;exact⟨_,e⟩
 |FQ ps=>exact⟨_,(show h.get? a=some _ from x)⟩
 |met f y=>exact⟨_,(show h.get? a=some _ from x)⟩
 |ext φ=>obtain⟨_,⟨_,e⟩,_⟩:=x;exact⟨_,e⟩
def UH(l:List Env)(H':Hp)(h h' B:Heap):Prop:=∀b o,h'.get? b=some o->b∉l_ l->(H' b≠none\/h.get? b≠none)->B.get? b=some o
variable {B base h' h2 h3:Heap}
theorem moved{l:List Env}{h:Heap}(un:Un (l_ l) [] H H' h h2)(cA:jZ P w H' h2)(Fq:UH l H' h h2 B)(fu:h.FunFrames base l)(Bq:∀b∈l_ l,H b=none)
  (st:B.StaysIn h3) (sl:h2.UpToSlots h3):Un (l_ l) [] H H' h h3/\jZ P w H' h3/\UH l H' h h3 B:=by
 have fr:∀b∈l_ l,H' b=none:=λb hb=>by
  obtain⟨_,o,ho,_⟩:=fu.mem hb;exact un.free b o ho (Bq b hb) (by simp)
 have keep:∀b o,h2.get? b=some o->b∉l_ l->(H' b≠none\/h.get? b≠none)->h3.get? b=some o:=λb o e hb hc=>st b o (Fq b o e hb hc);have slot:∀b o,h.get? b=some o->b∈l_ l->∃sl,h3.get? b=some { o with slots:=sl }:=λb o e hb=>by
  obtain⟨sl1,e1⟩:=un.slot b o e (Bq b hb) hb (by simp);obtain⟨_,o',gg,nf⟩:=fu.mem hb;rw[e]at gg;cases gg;obtain⟨yE,e2⟩:=sl b _ e1 (λvs z=>nf vs z);exact⟨yE,e2⟩
 refine⟨⟨λb o e n hb _=>keep b o (un.keep b o e n hb (by simp)) hb (.inr (by rw[e];simp)),λb o e n hb _=>slot b o e hb,un.free,λb o e _=>?_,un.mZ,un.l9,un.m4⟩,λa o e=>?_,λb o e hb hc=>?_⟩
 ·by_cases hb:b∈l_ l
  ·obtain⟨s1,e1⟩:=slot b o e hb;exact⟨_,e1⟩
  ·obtain⟨o',e1⟩:=un.there b o e (by simp);exact⟨o',keep b o' e1 hb (.inr (by rw[e];simp))⟩
 ·refine(cA a o e).i_ (λb u hb q=>?_) (λ_ q=>q) λ_ _ q=>q;have ht:H' b≠none:=by
   rcases hb with rfl|hb
   ·rw[e];simp
   ·rw[hb];simp
  exact keep b u q (λz=>ht (fr b z)) (.inl ht)
 ·have:∃o2,h2.get? b=some o2:=by
   rcases hc with hc|hc
   ·cases q:H' b with
    |none=>exact absurd q hc
    |some u=>exact mM (cA b u q)
   ·cases q:h.get? b with
    |none=>exact absurd q hc
    |some u=>exact un.there b u q (by simp)
  obtain⟨o2,e2⟩:=this;have e3:=keep b o2 e2 hb hc;rw[e]at e3;cases e3;exact Fq b _ e2 hb hc
structure UD(P:aE)(w:World)(C:Addr)(l:List Env)(H:Hp)(s:Shared)(e:Addr)(H':Hp)(s':Shared):Prop where
 fly:∃t B,Heap.FlyingW B l e (.ref C) (.ref t) s'.heap/\UH l H' s.heap s'.heap B
 os:s'.os=s.os
 bare:AllBare s'.gens
 un:Un (l_ l) [] H H' s.heap s'.heap
 cA:jZ P w H' s'.heap
noncomputable abbrev um(P:aE)(w:World)(C:Addr):z4:=λl H s E e s'=>∃ea H',e=.ref ea/\UD P w C l H s ea H' s'/\E (.ref C) none H'
theorem vJ{l:List Env}{e:Addr}{cls a0:Value}{h:Heap}(f:Heap.FlyingW B l e cls a0 h):e∉l_ l:=λhm=>by
 obtain⟨_,o,ho,nf⟩:=f.2.2.1.mem hm;obtain⟨oe,vs,he,_,hd,_⟩:=f.first;rw[ho]at he;cases he;exact nf vs hd
variable {C ea:Addr}
theorem UD.new{l:List Env}{s s':Shared}{e:Addr}(f:UD P w C l H s e H' s'):H' e=none/\s.heap.get? e=none:=by
 obtain⟨t,B,fw,Fq⟩:=f.fly;obtain⟨oe,vs,he,_⟩:=fw.first;have key:¬ (H' e≠none\/s.heap.get? e≠none):=λz=>by
  have:=Fq e oe he (vJ fw) z;rw[fw.2.1]at this;cases this
 exact⟨Classical.not_not.mp λz=>key (.inl z),Classical.not_not.mp λz=>key (.inr z)⟩
variable {s1:Shared}{σ:L2.St}
section
variable {P:aE}{w:World}{C:Addr}{K:au}{mg:aU}{base:Heap}{N:ao}{qual:Str}{scope:Scope}{f:Addr}{cd:Value}{A:aJ}{outer:List Env}{s:Shared}{H:Hp}{E:XK}
theorem left{pins:aq}{s2:Shared}{t:Addr}
  (I:Inv (jq (um P w C) P w K mg base N qual scope f cd A outer s H E) pins σ H1 s1)
  (un:Un (l_ (jq (um P w C) P w K mg base N qual scope f cd A outer s H E).stack) [] H1 H' s1.heap h2) (cA:jZ P w H' h2) (Fq:UH (jq (um P w C) P w K mg base N qual scope f cd A outer s H E).stack H' s1.heap h2 B)
  (fw:Heap.FlyingW B outer ea (.ref C) (.ref t) h3) (sl:h2.UpToSlots h3) (os:s2.os=s1.os) (bare:AllBare s2.gens):UD P w C outer H s ea H' { s2 with heap:=h3 }:=by
 obtain⟨un3,QZ,XW⟩:=moved un cA Fq I.stack I.kU fw.1 sl;have J:=I.zJ (s':={ s2 with heap:=h3 }) (ch:=[]) os un3 QZ bare λ_ z=>nomatch z;refine⟨⟨t,B,fw,λb o e hb hc=>?_⟩,J.os,bare,J.base,QZ⟩;have hbL:b≠s.heap.objs.size:=by
  rcases hc with hc|hc
  ·rintro rfl;exact hc J.free
  ·rintro rfl;exact hc (Heap.get?_none_of_le (aak _))
 refine XW b o e (λz=>?_) ?_
 ·rcases List.mem_cons.mp (I.ki b z)with z|z
  ·exact hbL z
  ·exact hb z
 ·rcases hc with hc|hc
  ·exact .inl hc
  ·right;cases q:s.heap.get? b with
   |none=>exact absurd q hc
   |some u =>
    obtain⟨o',e'⟩:=I.base.there b u q (by intro z;cases z);rw[e'];simp
theorem PZ{E1:XK}(hE:∀H',E1 (.ref C) none H'->E (.ref C) none H'):Passes (um P w C) (jq (um P w C) P w K mg base N qual scope f cd A outer s H E) E1:=by
 intro pins σ H1 s1 e s2 I hx;obtain⟨ea,H',rfl,⟨⟨t,B,fw,Fq⟩,os,bare,un,cA⟩,he⟩:=hx;show wpAny (model P w) _ (leaving _ (.ref ea)) _ _ s2;refine wpAny_leaves_onW (L:=s.heap.objs.size) I.ok.frames rfl fw λh' fw' sl=>?_;exact⟨ea,H',rfl,left I un cA Fq fw' sl os bare,hE H' he⟩
theorem Gw{pins:aq}{vs:av}
  (I:Inv (jq (um P w C) P w K mg base N qual scope f cd A outer s H E) pins σ H1 s1) (hm:Heap.MadeExcOf s1.heap h' ea (.ref C) vs) (he:E (.ref C) none H1) :
  (jq (um P w C) P w K mg base N qual scope f cd A outer s H E).xe (.ref ea) { s1 with heap:=h' }:=by
 show wpAny (model P w) _ (leaving _ (.ref ea)) _ _ _
 let l:=(jq (um P w C) P w K mg base N qual scope f cd A outer s H E).stack
 let B:=PySem.W.hideAll s1.heap (l_ l)
 have hB:B.StaysIn s1.heap:=λb o e=>PySem.W.of_hideAll _ e;refine wpAny_leaves_madeW (h:=s1.heap) (base:=B) (L:=s.heap.objs.size) I.ok.frames rfl hB (PySem.W.funFrames_hide (as:=l_ l) I.stack λenv he a ha=>List.mem_filterMap.mpr ⟨env,he,ha⟩) hm λZN t fw _ _ sl=>?_;refine⟨ea,H1,rfl,left (s2:=s1) (H':=H1) I (Un.kept hm.keeps) (I.cA.kept hm.keeps) (λb o e hb hc=>?_) fw sl rfl I.bare,he⟩;have:∃o1,s1.heap.get? b=some o1:=by
  rcases hc with hc|hc
  ·cases q:H1 b with
   |none=>exact absurd q hc
   |some u=>exact mM (I.cA b u q)
  ·cases q:s1.heap.get? b with
   |none=>exact absurd q hc
   |some u=>exact⟨u,rfl⟩
 obtain⟨o1,e1⟩:=this;have e2:=hm.keeps b o1 e1;have e:h'.get? b=some o:=e;rw[e]at e2;cases e2;exact PySem.W.hideAll_get _ e1 hb
end
abbrev J4:av:=[.type "ValueError",.type "Exception",.type "BaseException",.type "object"]
noncomputable abbrev qd(x:Str)(C:Addr)(mg:aU)(h:Heap):Prop:=OwnCls x C J4 "ValueError.__new__" mg h
variable {K:au}
theorem zp(q:PySem.W.excIn K C J4 "ValueError.__new__" = true):∃(dd:Option Addr) (nm:Str) (bs bm:av) (ns:Addr) (qn:Str) (hd:Bool) (sn:ao) (sub:av) (ab:Bool) (col:Option Bool) (k0 k1 k2 k3 k5:Option Value),
  K.lookup C=some (excClassObj nm qn C ns bs bm hd sn sub ab col dd k0 k1 k2 k3 k5 "ValueError.__new__")/\PySem.W.tailIn K J4 bm=true/\PySem.W.nsOkIn K ns=true/\PySem.W.nsIn K ns "__init__" = some none:=by
 unfold PySem.W.excIn at q;split at q
 case h_2=>cases q
 case h_1 dd cd sl ho =>
  split at q
  case h_2=>cases q
  case h_1 C' bm k0 k1 k2 k3 n k5 hm hs =>
   rw[Bool.and_eq_true,Bool.and_eq_true,Bool.and_eq_true,Bool.and_eq_true,Bool.and_eq_true]at q;obtain⟨⟨⟨⟨⟨e1,e2⟩,e3⟩,e4⟩,e5⟩,e6⟩:=q;have e1:=beq_iff_eq.mp e1;have e2:=beq_iff_eq.mp e2;have e6:=beq_iff_eq.mp e6;subst e1;subst e2;cases cd with
   |mk nm bs mro ns qn hd sn sub ab col del =>
    cases hm;have e3:del=false:=by simpa using e3
    subst e3;cases sl with
    |mk l =>
     cases hs;exact⟨_,_,_,_,_,_,_,_,_,_,_,_,_,_,_,_,ho,e4,e5,e6⟩
variable {mg:Str->Option Value}
theorem yS{h:Heap}{x:Str}(X:K.In h)(G:h.Ns mainGlobals mg)(e:PySem.W.nsIn K mainGlobals x=some (some (.ref C)))(q:PySem.W.excIn K C J4 "ValueError.__new__" = true):qd x C mg h:=by
 obtain⟨_,_,_,_,_,_,_,_,_,_,_,_,_,_,_,_,ho,e4,e5,e6⟩:=zp q;exact⟨aa_ X G e,_,_,_,_,_,_,_,_,_,_,_,_,_,_,_,_,_,X _ _ ho,.of_isNs (PySem.W.isNs_of_in X e5),PySem.W.nsMap_none_of_in X e5 e6,PySem.W.tail_of_in X e4⟩
variable {cpos hpos np p1 p2 p3 pos:Pos}
section
variable {X:Cx}{C:Addr}{x:Str}
noncomputable def Kb(X:Cx)(C:Addr):TS:=λD σ H=>∀pins s h' ea vs,Inv X pins σ H s->Heap.MadeExcOf s.heap h' ea (.ref C) vs->X.xe (.ref ea) { s with heap:=h' }
theorem Co{m:Str}{j:Nat}{p:Pos}(hc:X.calm=true)(O:qd x C X.mg X.base)(hg:Gl X x)(hd:(x==("__debug__" : Str))=false):
  PS X (.Raise (some (.Call (.Name x np) [.Constant (.str m) j p] [] cpos)) none pos) (Kb X C):=by
 intro pins s σ H D I hw;obtain⟨tl,N,nm,q,bs,hdct,sn,sub,ab,col,dd,k0,k1,k2,k3,k5,mN,hC,hN,hni,T⟩:=O.obj;refine wpAny_Raise_call_subT (C:=C) (nm:=nm) (q:=q) (N:=N) (bs:=bs) (bm:=tl) (hdct:=hdct) (sn:=sn) (sub:=sub) (ab:=ab) (col:=col) (dd:=dd) (k0:=k0) (k1:=k1) (k2:=k2) (k3:=k3) (k5:=k5)
  F.excBase_ValueError (mN:=mN) (T.hasType F.excBase_ValueError.hasBase) (I.ok.hd hc) rfl hni (tm I hg O.bound ⟨rfl,?_⟩ hd)
 have he:starEach [.Constant (.str m) j p] X.env=(false,eval (.Constant (.str m) j p) X.env)::starEach [] X.env:=rfl;have hp:=cJ (K5 (X:=X) (x:=m) (j:=j) (pos:=p)) eJ he cpos pins s σ H (λvs H'=>H'=H/\vs.length<=1) I ⟨rfl,aak 1⟩;rw[he]at hp ⊢;refine abX (dg hp λus s2 bR=>?_);obtain⟨vs,H2,I2,r,q2,q3⟩:=bR;subst q2;exact⟨rfl,by rw[<- r.length];exact aaD q3 (by decide),I2.bk _ _ hC,hN.keeps I2.bk,T.keeps I2.bk,λh' e hm=>hw pins s2 h' e us I2 hm⟩
end
variable {X:Cx}
theorem Cx.Ok.mk'(ok:X.Ok)(e:Value)(E:aB):Cx.Ok { X with A:=X.A.mark (some e),calm:=false,xe:=E } :=
 ⟨ok.mod,ok.kind,ok.glob,ok.blt,ok.above,ok.inj,ok.has,ok.JK,(λh=>by cases h),ok.frames,ok.Kh,ok.R8,ok.bs,ok.EK,ok.ve,ok.xK,ok.kn,ok.Bq⟩
theorem Du{pins:aq}{s:Shared}(I:Inv X pins σ H s)(e:Value)(E:aB):Inv { X with A:=X.A.mark (some e),calm:=false,xe:=E } pins σ H s :=
 ⟨Cx.Ok.mk' I.ok e E,I.os,I.bare,I.base,I.loc,I.cell,I.free,I.fW,I.pin,I.cA,I.len⟩
variable {E:Value->Shared->Prop}
theorem xw{pins:aq}{s:Shared}{e:Value}(ok:X.Ok)(I:Inv { X with A:=X.A.mark (some e),calm:=false,xe:=E } pins σ H s):Inv X pins σ H s :=
 ⟨ok,I.os,I.bare,I.base,I.loc,I.cell,I.free,I.fW,I.pin,I.cA,I.len⟩
theorem GF{i:Nat}{x:Str}(hN:X.N[i]?=some x)(hv:JS X.env.scope x)(hd:(x==("__debug__" : Str))=false)(xE:(x==("__classdict__" : Str))=false):PE X (.Name x pos) (wL i):=oV hN hv hd xE
noncomputable def only(n j:Nat)(v:V):St:=(List.replicate n none).set j (some v)
theorem CU{n j i:Nat}{v w:V}(h:(only n j v)[i]?=some (some w)):i=j/\w=v:=by
 unfold only at h;by_cases hi:i=j
 ·subst hi;refine⟨rfl,?_⟩;by_cases hl:i<n
  ·rw[List.getElem?_set_self (by simpa using hl)]at h;cases h;rfl
  ·rw[List.getElem?_eq_none (by simpa using hl)]at h;cases h
 ·rw[List.getElem?_set_ne (Ne.symm hi),List.getElem?_replicate]at h;split at h<;>cases h
variable {A:aJ}
section
variable {X:Cx}{C:Addr}{x n y:Str}{i j:Nat}{E1:XK}
theorem xg{M:Model}{pins:aq}{s:Shared}{v:V}{Q:Unit->Shared->Prop}(I:Inv X pins σ H s)(hl:X.env.kindOf n=some .local)(Wl:y≠n)(nd:X.N.Nodup)(hj:X.N[j]?=some y)(hv:σ[j]?=some (some v))
  (h:∀s',Inv X pins (only X.N.length j v) H s'->Q () s'):wpAny M A (do bindName X.env n .none;unbindBehindTheSuite X.env n pos) Q E s:=by
 obtain⟨m,hn,hlk⟩:=id I.loc;have vz:(X.env.scope.kind==.class||(X.env.scope.kind==.module&&X.env.locals != X.env.globals))=false:=by rw[I.ok.kind];rfl
 refine wpAny_nameGoes_keeps hl hn vz λh' u za hs=>h _ ?_;have tracked:jZ X.prog X.w H h':=λb ob e=>by
  refine(I.cA b ob e).i_ (λc w' hc q=>(hs.2 c ?_).trans q) (λ_ q=>q) λ_ _ q=>q;rintro rfl;rcases hc with rfl|hc
  ·rw[I.free]at e;cases e
  ·rw[I.free]at hc;cases hc
 refine⟨I.ok,I.os,I.bare,⟨λb o e n hb hx=>?_,λb o e n hb hx=>?_,I.base.free,λb o e hx=>?_,I.base.mZ,I.base.l9,I.base.m4⟩,⟨_,za,λk z v' e1 e2 e3=>?_⟩,λz c e=>?_,I.free,I.fW,λp hp=>?_,tracked,by unfold only;simp⟩
 ·exact(hs.2 b (aan (aal (aah e) I.ok.above))).trans (I.base.keep b o e n hb hx)
 ·obtain⟨sl,e1⟩:=I.base.slot b o e n hb hx;exact⟨sl,(hs.2 b (aan (aal (aah e) I.ok.above))).trans e1⟩
 ·obtain⟨o',e1⟩:=I.base.there b o e hx;exact⟨o',(hs.2 b (aan (aal (aah e) I.ok.above))).trans e1⟩
 ·obtain⟨rfl,rfl⟩:=CU e2;rw[hj]at e1;cases e1;obtain⟨u',r',q⟩:=hlk k y _ hj hv e3;refine⟨u',r',?_⟩;rcases q with ⟨kk,e⟩|⟨kk,c,e,z⟩
  ·exact .inl ⟨kk,by show(if y=n then u else m y)=_;rw[if_neg Wl];exact e⟩
  ·exact .inr ⟨kk,c,e,z.sameBut hs (I.Ig y c e)⟩
 ·obtain⟨w',z'⟩:=I.cell z c e;exact⟨w',z'.sameBut hs (I.Ig z c e)⟩
 ·obtain⟨e,n,ne,nf,d⟩:=I.pin p hp;exact⟨(hs.2 p.1 ne).trans e,n,ne,nf,d⟩
end
noncomputable abbrev Cx.uz(X:Cx)(pins:aq)(E:aB):Cx:={ X with xe:=E,pn:=X.pn++pins }
section
variable {X:Cx}{C:Addr}{x n y:Str}{i j:Nat}{E1:XK}
theorem Hi{pins:aq}{s:Shared}(I:Inv X pins σ H s)(E:aB):Inv (Cx.uz X pins E) [] σ H s :=
 ⟨⟨I.ok.mod,I.ok.kind,I.ok.glob,I.ok.blt,I.ok.above,I.ok.inj,I.ok.has,I.ok.JK,I.ok.hd,I.ok.frames,I.ok.Kh,I.ok.R8,I.ok.bs,I.ok.EK,I.ok.ve,I.ok.xK,I.ok.kn,I.ok.Bq⟩,I.os,I.bare,I.base,I.loc,I.cell,I.free,I.fW,λp hp=>I.pin p (by simpa using hp),I.cA,I.len⟩
theorem g5{pins q:aq}{s:Shared}(I:Inv (Cx.uz X pins E) q σ H s):Inv X pins σ H s :=
 ⟨⟨I.ok.mod,I.ok.kind,I.ok.glob,I.ok.blt,I.ok.above,I.ok.inj,I.ok.has,I.ok.JK,I.ok.hd,I.ok.frames,I.ok.Kh,I.ok.R8,I.ok.bs,I.ok.EK,I.ok.ve,I.ok.xK,I.ok.kn,I.ok.Bq⟩,I.os,I.bare,I.base,I.loc,I.cell,I.free,I.fW,λp hp=>I.pin p (aaC _ hp),I.cA,I.len⟩
theorem tracked{l:List Env}{h:Heap}(un:Un (l_ l) [] H H' h h')(cA:jZ P w H' h')(n1:H' ea=none)(n2:h.get? ea=none)(at_:Fs ea C h'):
  Un (l_ l) [] H (upd H' ea (.ext (Fs ea C))) h h'/\jZ P w (upd H' ea (.ext (Fs ea C))) h':=by
 have ne:∀b u,H' b=some u->b≠ea:=λb u q=>b_ q n1;refine⟨⟨un.keep,un.slot,λb o e n hx=>?_,un.there,λb xs q=>?_,λb o u q=>?_,λb ps q=>?_⟩,λb u q=>?_⟩
 ·have:b≠ea:=by rintro rfl;rw[n2]at e;cases e
  rw[aV this];exact un.free b o e n hx
 ·have:=un.mZ b xs q;rw[aV (ne _ _ this)];exact this
 ·have:=un.l9 b o u q;rw[aV (ne _ _ this)];exact this
 ·obtain⟨m,this⟩:=un.m4 b ps q;exact⟨m,by rw[aV (ne _ _ this)];exact this⟩
 ·by_cases hb:b=ea
  ·subst hb;rw[bj]at q;cases q;obtain⟨o,e1,e2⟩:=at_;exact⟨⟨o,e1,e2⟩,⟨o,e1⟩,λh1 h2 ⟨o,e1,e2⟩ k=>⟨o,k o e1,e2⟩⟩
  ·rw[aV hb]at q;exact(cA b u q).i_ (λ_ _ _ q=>q) (λc r=>by rw[aV (ne _ _ r)];exact r) λc xs r=>by rw[aV (ne _ _ r)];exact r
end
theorem D3{M:Model}{nm q nm' q':Str}{N B N':Addr}{bs bm bs' X4:av}{hdct Rj:Bool}{sn sn':ao}{sub Vi:av}{ab ab':Bool}{col XX:Option Bool}{dd XT:Option Addr}{k0 k1 k2 k3 k5 l0 l1 l2 l3 l5:Option Value}{newId Lr:String}
  {h:Heap} {g:Array GenState} {d:Drawn} {t:Nat} {os:OsState} {e:Addr} {oe:Obj} {Q:Bool->Shared->Prop}
  (hC:h.get? C=some (excClassObj nm q C N bs bm hdct sn sub ab col dd k0 k1 k2 k3 k5 newId)) (hB:h.get? B=some (excClassObj nm' q' B N' bs' X4 Rj sn' Vi ab' XX XT l0 l1 l2 l3 l5 Lr)) (he:h.get? e=some oe) (vz:oe.cls=.ref C) (vD:X4.contains (.type "BaseException")=true) (Ra:bm.contains (.ref B)=true)
  (hq:Q true ⟨h,g,d,t,os⟩):wpAny M A (excMatches (.ref e) (.ref B)) Q E ⟨h,g,d,t,os⟩:=by
 have hcB:(Value.ref B::X4).contains (.type "BaseException")=true:=by rw[List.contains_cons,vD,Bool.or_true]
 have hcC:(Value.ref C::bm).contains (.ref B)=true:=by rw[List.contains_cons,Ra,Bool.or_true]
 have f:=tc_notTuple;unfold excMatches
 repeat (first | (with_reducible refine aaZ he ?_;rw[vz])|with_reducible refine aaZ hB ?_ | (with_reducible refine wpAny_isSubtype_exc hB ?_;rw[hcB]) | (with_reducible refine wpAny_isSubtype_exc hC ?_;rw[hcC])|wp_step)
 exact hq
def mB(C B:Addr)(h:Heap):Prop:=∃(nm q:Str) (N:Addr) (bs bm:av) (hdct:Bool) (sn:ao) (sub:av) (ab:Bool) (col:Option Bool) (dd:Option Addr) (k0 k1 k2 k3 k5:Option Value) (newId:String),h.get? C=some (excClassObj nm q C N bs bm hdct sn sub ab col dd k0 k1 k2 k3 k5 newId)/\bm.contains (.ref B)=true
section
variable {X:Cx}{C B:Addr}{x n y:Str}{i j:Nat}{E1:XK}
theorem GD{body:ba}{tb:TS}(QO:X.stack=X.env::X.outer)(Oj:X.env.frame=some X.env.locals)(O:qd x B X.mg X.base)(OS:mB C B X.base)(hg:Gl X x)(hd:(x==("__debug__" : Str))=false)
  (nd:X.N.Nodup) (hi:X.N[i]?=some n) (hj:X.N[j]?=some y) (Wl:y≠n) (DE:X.env.scope.names.lookup n=some .local) (Zs:X.env.scope.names.lookup y=some .local) (dn:(n==("__debug__" : Str))=false) (dc:(n==("__classdict__" : Str))=false)
  (QM:swapsWith (.Name n p2) (some (.Name y p1)) p3.line (X.env)=pure false)
  (hb:∀pn SS,Passes (um X.prog X.w C) (Cx.uz X pn SS) E1->iY (Cx.uz X pn SS) body tb) :
  PS X (.Try body [.ExceptHandler (some (.Name x np)) (some n) [.Assign [.Name y p1] (.Name n p2) p3] hpos] [] [] pos)
   (λD σ H=>tb D σ H/\∀ea H',E1 (.ref C) none H'->H' ea=none->D.nx (only X.N.length j (.ref ea)) (upd H' ea (.ext (Fs ea C)))):=by
 intro pins s σ H D I hw;obtain⟨hbd,hh⟩:=hw;have ok:=I.ok;refine wpAny_Try_except ?_;refine aav (hb pins _ ?_ [] s σ H D (Hi I (λe s₁=>wpAny (model X.prog X.w) X.A (noteFrame e X.env) (λ_ s₂=>wpAny (model X.prog X.w) X.A (setFlight e none) (λ_ s₃=>wpAny (model X.prog X.w) X.A (handleBy e X.env [.ExceptHandler (some (.Name x np)) (some n) [.Assign [.Name y p1] (.Name n p2) p3] hpos]) (SP X pins D) X.xe s₃) X.xe s₂) X.xe s₁)) hbd) (λf s₁ q=>?_) (λ_ _ q=>q)
 ·intro Ct σ1 H1 s1 e s2 I1 hx;obtain⟨ea,H',rfl,fl,he⟩:=hx;obtain⟨n1,n2⟩:=fl.new;obtain⟨⟨t,B,fw,Fq⟩,os,bare,un,cA⟩:=fl;have I1:Inv X pins σ1 H1 s1:=g5 I1;have fw:Heap.FlyingW B (X.env::X.outer) ea (.ref C) (.ref t) s2.heap:=QO▸fw;have Xq:X.A.frames=some (X.env::X.outer):=QO▸I1.ok.frames;show wpAny (model X.prog X.w) X.A (noteFrame (.ref ea) X.env) _ X.xe s2;refine wpAny_looks_onW Xq Oj fw λh4 held sl4=>?_;refine wpAny_landsW held λh5 Xp sl5=>?_;obtain⟨Yt,QY,XU⟩:=moved un cA Fq I1.stack I1.kU Xp.1 (sl4.trans sl5);have I5:Inv X pins σ1 H' { s2 with heap:=h5 }:=I1.zJ (ch:=[]) os Yt QY bare λ_ z=>nomatch z;refine wpAny_handleBy_cons (codeAny_handlers_test (abi I5.ok.kind hg (Calls.loadGlobal_global (by rw[I5.ok.glob];exact I5.mod.glob.keeps I5.bk) O.bound ?_) hd)) (by intro q;cases q);obtain⟨bm,nsA,nm,qn,bs,hdct,sn,sub,ab,col,dd,k0,k1,k2,k3,k5,mN,hB,_,_,TL⟩:=(O.keeps I5.bk).obj;obtain⟨nm2,q2,N2,bs2,bm2,Zz,sn2,aa6,ab2,adm,A3,l0,l1,l2,l3,l5,id2,hC,Ra⟩:=OS;have hC:=I5.bk _ _ hC;obtain⟨ob,hob,WE⟩:=Xp.there;refine D3 hC hB hob WE (TL.hasType (by decide +kernel)) Ra (codeAny_handlers_suite_as ?_);refine lands_againW Xp λh6 ZP sl6=>?_;obtain⟨un6,Wz,adl⟩:=moved Yt QY XU I1.stack I1.kU ZP.1 sl6;obtain⟨un7,Wy⟩:=tracked (C:=C) un6 Wz n1 n2 ZP.there;have I7:Inv X pins σ1 (upd H' ea (.ext (Fs ea C))) { s2 with heap:=h6 }:=I1.zJ (s':={ s2 with heap:=h6 }) (ch:=[]) os un7 Wy bare λ_ z=>nomatch z;have iu:i<σ1.length:=by rw[I7.len];exact(List.getElem?_eq_some_iff.mp hi).1
  have Fg:j<σ1.length:=by rw[I7.len];exact(List.getElem?_eq_some_iff.mp hj).1
  refine gY I7 nd hi (.inl DE) (v:=.ref ea) (u:=.ref ea) rfl (λs8 I8=>?_) (.inr DE)
  let X2:Cx:={ X with A:=X.A.mark (some (.ref ea)),calm:=false,xe:=AsSuiteRaised (model X.prog X.w) (X.A.mark (some (.ref ea))) X.env n hpos (notedBy (model X.prog X.w) (X.A.mark (some (.ref ea))) X.env (cameBackBy (model X.prog X.w) X.A X.env X.xe)) }
  have ps:iY X2 [.Assign [.Name y p1] (.Name n p2) p3] _:=nM (wZ (X:=X2) (i:=j) nd hj (.inl Zs) (GF (X:=X2) (i:=i) (pos:=p2) hi (.inl DE) dn dc) QM (hf:=.inr Zs));refine aav (ps pins s8 _ _ { nx:=λσ' lK=>lK=upd H' ea (.ext (Fs ea C))/\σ'[j]?=some (some (.ref ea)),rt:=λ_ _=>False } (Du I8 _ _) ⟨.ref ea,by rw[List.getElem?_set_self iu],rfl,by rw[List.getElem?_set_self (by simpa using Fg)]⟩) (λf s9 q9=>?_) (λ_ _ q=>q);cases f with
  |next =>
   obtain⟨σ9,H9,I9,rfl,e9⟩:=q9;have I9:=xw ok I9;exact xg I9 DE Wl nd hj e9 λs10 I10=>⟨_,_,I10,hh ea H' he n1⟩
  |ret v=>obtain⟨_,_,_,_,_,z⟩:=q9;exact z.elim
  |brk=>obtain⟨_,_,_,z⟩:=q9;exact z.elim
  |cont=>obtain⟨_,_,_,z⟩:=q9;exact z.elim
 ·cases f with
  |next=>obtain⟨σ',H',I',q⟩:=q;exact abp ⟨σ',H',g5 I',q⟩
  |ret v=>obtain⟨v,σ',H',I',r,q⟩:=q;exact⟨v,σ',H',g5 I',r,q⟩
  |brk=>obtain⟨σ',H',I',q⟩:=q;exact⟨σ',H',g5 I',q⟩
  |cont=>obtain⟨σ',H',I',q⟩:=q;exact⟨σ',H',g5 I',q⟩
end
def U2(C:Addr)(i:Nat)(b:Bool):TE:=λσ H Q=>∃ea,σ[i]?=some (some (.ref ea))/\H ea=some (.ext (Fs ea C))/\Q (.bl b) H
section
variable {X:Cx}{C:Addr}{i:Nat}
theorem LV{cv:V}{cu:Value}{b:Bool}(Z:XC X.K C)(hr:∀u,RelV cv u->u=cu)(hk:PySem.W.kitOne X.K (.ref C) cu=some b):
  fD X (.builtin "isinstance") (λxs H Q=>∃ea,xs=[.ref ea,cv]/\H ea=some (.ext (Fs ea C))/\Q (.bl b) H):=by
 intro pins s σ H xs us Q I r h;obtain⟨ea,rfl,hH,q⟩:=h;obtain⟨u,w',rfl,ru,lI⟩:=vals2 r;cases ru;cases hr w' lI;obtain⟨⟨o,e1,e2⟩,_⟩:=(show cS X.prog X.w H s.heap ea (.ext (Fs ea C)) from I.cA ea _ hH)
 exact aa3 (Di PySem.F.attr_ValueError Z) I.AD ⟨o,e1,e2⟩ hk (λz=>nomatch z) λtk=>⟨.bl b,H,I.tok tk,rfl,q⟩
structure SO(X:Cx)(C:Addr)(cl:Str->Option Bool):Prop where
 xc:XC X.K C
 isi:Gl X "isinstance"
 isn:X.mg "isinstance" = none
 ex:∀x b,cl x=some b->∀p,∃cv cu,PE X (.Name x p) (tC cv)/\(∀u,RelV cv u->u=cu)/\PySem.W.kitOne X.K (.ref C) cu=some b
def Dm(err:Str)(cl:Str->Option Bool)(e:Expr):Option Bool:=(eE e).bind λz=>(two z.2).bind λw=>(BB w.1).bind λy=>(BB w.2).bind λx=>if z.1 = "isinstance" /\ y=err then cl x else none
theorem K8{err:Str}{cl:Str->Option Bool}(Z:SO X C cl)(he:∀p,PE X (.Name err p) (wL i)){e:Expr}{b:Bool}(h:Dm err cl e=some b):PE X e (U2 C i b)/\(∀es,starEach (e::es) X.env=(false,eval e X.env)::starEach es X.env)/\∀whole,isTrue e X.env whole=(do let v <- whole;standAt e.pos;holding [v] (truthy v)):=by
 obtain⟨⟨f,as⟩,hv,g1⟩:=Option.bind_eq_some_iff.mp h;obtain⟨p0,pos,rfl⟩:=cC hv;obtain⟨⟨ey,ex⟩,hw,g2⟩:=Option.bind_eq_some_iff.mp g1;obtain rfl:as=[ey,ex]:=i9 hw;obtain⟨y,hy,g3⟩:=Option.bind_eq_some_iff.mp g2;obtain⟨p1,rfl⟩:=i8 hy;obtain⟨x,hx,g4⟩:=Option.bind_eq_some_iff.mp g3;obtain⟨p2,rfl⟩:=i8 hx;by_cases hh:f = "isinstance" /\ y=err
 ·rw[if_pos hh]at g4;obtain⟨rfl,rfl⟩:=hh;refine⟨?_,λ_=>rfl,λ_=>rfl⟩;obtain⟨cv,cu,h1,h2,h3⟩:=Z.ex x b g4 p2;refine PE.imp (d9 (LV Z.xc h2 h3) Z.isi Z.isn PyProof.Rows.boot_isinstance (cJ (he p1) (cJ h1 eJ))) λσ H Q hq=>?_;obtain⟨ea,e1,e2,q⟩:=hq;exact⟨_,e1,ea,rfl,e2,q⟩
 ·rw[if_neg hh]at g4;cases g4
end
variable {ps:ao}{qual share:Str}{st:Stmt}
theorem XS{CX:z4}{x:Str}{f:Addr}{fd:FuncData}{N:ao}{k:Nat}{sp:Sp}(F:Bv K x qual st f fd)(S:fK N ps (aN st))(len:∀vs H Q E,sp vs H Q E->vs.length=ps.length)
  (vA:∀(gi:Value) (A:aJ) (outer:List Env) (s:Shared) (H:Hp) (vs:af) (Q:VK) (E:XK),gK k (A.deeper (envOfC qual (aN st) s.heap.objs.size f gi))->sp vs H Q E ->
   ∃t,iY (jq CX P w K mg base N qual (aN st) f gi A outer s H E) (bJ st) t/\t { nx:=λ_ H'=>Q .bV H',rt:=Q } (L2.start N vs) H):gL P w K mg base CX (k+1) f fd ps sp:=by
 obtain⟨oc,od,kV,doc,pm,an,gi,ct,CN,rfl,lk,xE⟩:=F.ex;exact JD lk xE S len λA outer s H vs Q E hr wm=>vA gi A outer s H vs Q E hr wm
def Vk(K:au)(C:Addr)(n:Nat)(mr:aa->Prop):Sp:=λvs H _ E=>∃(F:ak) (ds:aa),vs.length=n/\aI (aY K H) (nd K F (λ_=>False) (λ_=>none) H) [] 0 vs ds/\mr ds/\∀H',aM H H'->E (.ref C) none H'
theorem uJ{F:ak}{N:ao}{vs:af}{ds:aa}(h0:X.H₀=H)(hl:ds.length<=N.length)(rs:aI (aY X.K H) (nd X.K F (λ_=>False) (λ_=>none) H) [] 0 vs ds):
  SI X F (λp=>F p/\H p≠none) (λ_=>none) (ds.map some++List.replicate (N.length - ds.length) none) (L2.start N vs) H:=by
 have Hl:vs.length=ds.length:=rs.length;refine⟨?_,λi d hi=>?_,λ_ _=>rfl,λp h=>h.2,λp h=>.inl h.1,λ_ _ h=>by simp at h,λ_ _ h=>by simp at h,h0▸aM.refl H⟩
 ·unfold L2.start;simp[Hl]
 ·have Rb:i<ds.length:=by
   by_cases iu:i<ds.length
   ·exact iu
   ·rw[List.getElem?_append_right (by simpa using iu),List.getElem?_replicate]at hi;split at hi<;>simp at hi
  rw[List.getElem?_append_left (by simpa using Rb),List.getElem?_map]at hi;have hd:ds[i]?=some d:=by
   cases q:ds[i]? with
   |none=>rw[q]at hi;exact nk hi
   |some z=>rw[q]at hi;simp at hi;rw[hi]
  obtain⟨v,hv,rv⟩:=rs.get hd;refine⟨v,?_,rv.imp (q:=[0+i]) (q':=[i]) (λ_ _ h=>h) λc p xs f h=>?_⟩
  ·unfold L2.start;rw[List.getElem?_append_left (by rw[List.length_map,Hl];exact Rb),List.getElem?_map,hv];rfl
  ·cases f with
   |ow=>exact nomatch h.2
   |fz=>exact⟨h.1,h.2,h.1.ne⟩
   |al=>exact h.2.elim
   |sc=>exact h
noncomputable def kT(X:Cx)(F:ak)(bad:aZ->Prop):TS:=λ_ σ H=>∃R τ ρ,SI X F R τ ρ σ H/\bad ρ
theorem PS.Fb{X:Cx}{st:Stmt}{t:TS}(h:PS X.Fb st t):PS X st t:=λpins s σ H D I hw =>
 aav (h pins s σ H D (I.ox _) hw) (λ_ _ q=>q.ig) λ_ _ q=>q.elim
theorem SI.Fb{X:Cx}{F R:ak}{τ:Addr->Option br}{ρ:aZ}{σ:St}{H:Hp}(S:SI X F R τ ρ σ H):SI X.Fb F R τ ρ σ H:=⟨S.len,S.rep,S.rt,S.rh,S.rf,S.th,S.t0,S.same⟩
noncomputable def Ag(X:Cx)(F:ak)(bad:aZ->Prop):TE:=λσ H _=>∃R τ ρ,SI X F R τ ρ σ H/\bad ρ
section
variable {X:Cx}{S:Sx}{k:Nat}{Φ:aT}{F:ak}{bad:aZ->Prop}{C:Addr}
theorem HG{f':Addr}{ZQ:FuncData}{To:ao}{Y0:aa->Prop}{ce:aD}{g:Str}{e:Expr}{es:aC}(L:Lk X S k Φ)(hx:Passes (um X.prog X.w C) X (λc _ H'=>c=.ref C/\aM X.H₀ H'))
  (F':gL X.prog X.w X.K X.mg X.base (um X.prog X.w C) k f' ZQ To (Vk X.K C To.length Y0)) (h2:fV S.sc g=true) (hg:X.mg g=some (.ref f')) (hk:PySem.W.keepIn X.K (.ref f')=true) (hb:Binds X.K ZQ To []) (hd:(g==("__debug__" : Str))=false)
  (h3:bU S ce (e::es)=true) (mQ:∀r,starEach (e::r) X.env=(false,eval e X.env)::starEach r X.env) (hpl:(backTo cpos (starEach es X.env)).any (·.1)=false) :
  PE X (.Call (.Name g np) (e::es) [] cpos) (Ag X F λρ=>∃ds',cf Φ ce ρ=ok ds'/\Y0 (aF aW ds')/\ds'.length=To.length):=by
 refine PE.imp (yO (X:=X) (p:=np) (pos:=cpos) F' L.room (L.gl h2) hg hk hb .nil hx (sy (F:=F) L ce (e::es) h3) hd (mQ _) hpl) λσ H Q hq=>?_;obtain⟨R,τ,ρ,Si,ds',WQ,WG,WS⟩:=hq;refine⟨R,τ,ρ,ds',Si,WQ,λvs' H2 e2 rv=>?_⟩;obtain⟨τt,ft,YL⟩:=rv;rw[List.append_nil];refine⟨λ_=>True,aF aW ds',by rw[YL.length,WS],aI.j6 (λ_ _ h=>h) (λk k' p xs f h=>?_) YL _ _,WG,λH' e'=>⟨rfl,(Si.same.trans e2).trans e'⟩⟩;cases f with
 |ow=>exact⟨h.1,trivial⟩
 |fz=>exact⟨h.1,trivial⟩
 |al=>exact⟨h.1,trivial⟩
 |sc=>exact h
theorem Nf{e:Expr}(h:PE X e (Ag X F bad)):PS X (.Return (some e) pos) (kT X F bad):=PS.imp (w6 h) λ_ _ _ q=>q
theorem JG{e:Expr}(h:PE X e (Ag X F bad))(hs:swapsWith e none pos.line X.env=pure false):PS X (.Expr e pos) (kT X F bad):=PS.imp (nN h hs) λ_ _ _ q=>q
theorem Nc{i:Nat}{x:Str}{e:Expr}{p:Pos}(hN:X.N.Nodup)(hi:X.N[i]?=some x)(hx:L2.Loc X.env.scope x)(hf:X.fn x=true)(h:PE X e (Ag X F bad))(hs:swapsWith e (some (.Name x p)) pos.line X.env=pure false):PS X (.Assign [.Name x p] e pos) (kT X F bad) :=
 PS.imp (wZ hN hi hx h hs (.inl hf)) λ_ _ _ q=>q
end
structure Nr where
 ps:ao
 err:Str
 ex:Str
 cls:Str
 f:Str
 al:Str
noncomputable def Nr.N(n:Nr):ao:=n.ps++[n.err,n.ex]
noncomputable def xT(x:Str):Bool:=!(x==("__debug__" : Str))&&!(x==("__classdict__" : Str))
theorem SI.uz{X:Cx}{F R:ak}{τ:Addr->Option br}{ρ:aZ}{σ:St}{H:Hp}{pn:aq}{E:aB}(S:SI X F R τ ρ σ H):SI (Cx.uz X pn E) F R τ ρ σ H:=⟨S.len,S.rep,S.rt,S.rh,S.rf,S.th,S.t0,S.same⟩
theorem Cs{S:Sx}{env:Env}{pos:Pos}:∀{es:aC} {cs:aD},bU S cs es=true->(backTo pos (starEach es env)).any (·.1)=false
 |[],_,_=>rfl
 |e::es,[],h=>by exact(aac h).elim
 |e::es,c::cs,h=>by
  replace h:=aL h;rw[cj h.1 es env];show(false||(backTo pos (starEach es env)).any (·.1))=false;rw[Cs h.2];rfl
noncomputable def Qa:CI->Bool
 |.seq _=>true
 |_=>false
mutual
inductive qm(Φ:aT)(Ψ:Nat->aa->Prop)(n:Nat):CS->aZ->Prop
 |ex {g:Nat} {es:aD} {ρ:aZ} {xs:aa} (h1:cf Φ es ρ=ok xs) (h2:Ψ g (aF aW xs)):qm Φ Ψ n (.ex (.call g es)) ρ
 |asg {i g:Nat} {es:aD} {ρ:aZ} {xs:aa} (h1:cf Φ es ρ=ok xs) (h2:Ψ g (aF aW xs)):qm Φ Ψ n (.asg (.nm i) (.call g es)) ρ
 |ret {g:Nat} {es:aD} {ρ:aZ} {xs:aa} (h1:cf Φ es ρ=ok xs) (h2:Ψ g (aF aW xs)):qm Φ Ψ n (.ret (.call g es)) ρ
 |rs {ρ:aZ}:qm Φ Ψ n (.rs n) ρ
 |TK {c:CE} {a b:ag} {ρ:aZ} (h1:xM Φ c ρ=ok true) (h2:Er Φ Ψ n a ρ):qm Φ Ψ n (.ifs c a b) ρ
 |iff {c:CE} {a b:ag} {ρ:aZ} (h1:xM Φ c ρ=ok false) (h2:Er Φ Ψ n b ρ):qm Φ Ψ n (.ifs c a b) ρ
 |fr {t:Tg} {a:CI} {b:ag} {ρ ρ1:aZ} {items:aa} (h1:cc Φ a ρ=ok (items,ρ1)) (h2:NT Φ Ψ n t b items ρ1) (h3:Qa a=true):qm Φ Ψ n (.fr t a b) ρ
inductive Er(Φ:aT)(Ψ:Nat->aa->Prop)(n:Nat):ag->aZ->Prop
 |hd {c:CS} {cs:ag} {ρ:aZ} (h:qm Φ Ψ n c ρ):Er Φ Ψ n (c::cs) ρ
 |tl {c:CS} {cs:ag} {ρ ρ':aZ} (h1:qG Φ c ρ=ok (.nx,ρ')) (h2:Er Φ Ψ n cs ρ'):Er Φ Ψ n (c::cs) ρ
inductive NT(Φ:aT)(Ψ:Nat->aa->Prop)(n:Nat):Tg->ag->aa->aZ->Prop
 |hd {t:Tg} {b:ag} {d:D} {ds:aa} {ρ ρ1:aZ} (h1:bT t d ρ=ok ρ1) (h2:Er Φ Ψ n b ρ1):NT Φ Ψ n t b (d::ds) ρ
 |tl {t:Tg} {b:ag} {d:D} {ds:aa} {ρ ρ1 ρ2:aZ} (h1:bT t d ρ=ok ρ1) (h2:bI Φ b ρ1=ok (.nx,ρ2)) (h3:NT Φ Ψ n t b ds ρ2):NT Φ Ψ n t b (d::ds) ρ
end
noncomputable def Yr:Stmt->Option Expr
 |.Raise e c _=>match c with
  |none=>e
  |some _=>none
 |_=>none
theorem J5{s:Stmt}{e:Expr}(h:Yr s=some e):∃p,s=.Raise (some e) none p:=by
 cases s<;>first|exact nk h | (cases h;done)|skip
 rename_i a c p;cases c with
 |some _=>cases h
 |none=>cases h;exact⟨p,rfl⟩
noncomputable def QE:Expr->Bool
 |.Constant c _ _=>match c with|.str _=>true|_=>false
 |_=>false
theorem Hf{e:Expr}(h:QE e=true):∃m j p,e=.Constant (.str m) j p:=by
 cases e<;>first|exact(aac h).elim|skip
 rename_i c _ _;cases c<;>first|exact(aac h).elim|exact⟨_,_,_,rfl⟩
def YK(y:Str)(st:Stmt):Bool:=bA (Yr st) λe=>bA (eE e) λz=>(z.1==y)&&bA (one z.2) QE
mutual
noncomputable def xk(gl:Bool)(n:Nat)(y:Str):CS->Stmt->Bool
 |.rs m,st=>!(m==n)||(gl&&YK y st)
 |.ifs _ a b,st=>bA (J7 st) λz=>z9 gl n y a z.2.1&&z9 gl n y b z.2.2
 |.fr _ _ b,st=>bA (J8 st) λz=>z9 gl n y b z.2.2.1
 |_,_=>true
noncomputable def z9(gl:Bool)(n:Nat)(y:Str):ag->ba->Bool
 |c::cs,st::qj=>xk gl n y c st&&z9 gl n y cs qj
 |_,_=>true
end
structure iO(P:aE)(w:World)(K:au)(mg:aU)(base:Heap)(k:Nat)(C:Addr)(y:Str)(mr:aa->Prop):Prop where
 ex:∃(f:Addr) (fd:FuncData) (ps:ao),gL P w K mg base (um P w C) k f fd ps (Vk K C ps.length mr)/\mg y=some (.ref f)/\PySem.W.keepIn K (.ref f)=true/\Binds K fd ps []/\∀ds,mr ds->ds.length=ps.length
structure NQ(X:Cx)(S:Sx)(k:Nat)(Φ:aT)(Ψ:Nat->aa->Prop)(C:Addr)(y:Str)(gl:Bool):Prop where
 ls:qe X S k Φ
 hR:∀pins σ H1 s1 h' ea vs,Inv X pins σ H1 s1->aM X.H₀ H1->Heap.MadeExcOf s1.heap h' ea (.ref C) vs->X.xe (.ref ea) { s1 with heap:=h' }
 hx:Passes (um X.prog X.w C) X (λc _ H'=>c=.ref C/\aM X.H₀ H')
 fe:∀g x,S.fn g=some x->(∃ds,Ψ g ds)->iO X.prog X.w X.K X.mg X.base k C x (Ψ g)
 gy:gl=true->Gl X y/\(y==("__debug__" : Str))=false
 own:qd y C X.mg X.base
variable {R1:Addr->Prop}{es:aD}{xs:aa}{ρ:aZ}
section
variable {X:Cx}{S:Sx}{k n:Nat}{Φ:aT}{Ψ:Nat->aa->Prop}{F:ak}{C:Addr}{y:Str}{gl:Bool}
theorem vK(L:Lk X S k Φ)(hx:Passes (um X.prog X.w C) X (λc _ H'=>c=.ref C/\aM X.H₀ H'))(fe:∀g x,S.fn g=some x->(∃ds,Ψ g ds)->iO X.prog X.w X.K X.mg X.base k C x (Ψ g)){g:Nat}{e:Expr}(h:cW S (.call g es) e=true):PE X e (Ag X F λρ=>∃xs,cf Φ es ρ=ok xs/\Ψ g (aF aW xs)):=by
 obtain⟨⟨x,as⟩,hv,q1⟩:=bp h;obtain⟨p,pos,rfl⟩:=cC hv;obtain⟨q2,q3⟩:=aL q1;obtain⟨q4,h3⟩:=aL q2;obtain⟨h1,h2⟩:=aL q4;obtain⟨⟨a,NL⟩,hu,h4⟩:=bp q3;obtain rfl:as=a::NL:=wD hu;by_cases uq:∃ds,Ψ g ds
 case neg=>exact λ_ _ _ _ _ _ ⟨_,_,_,_,xs,_,e2⟩=>absurd ⟨_,e2⟩ uq
 obtain⟨f,fd,ps,Fo,hm,hk,hb,hl⟩:=(fe g x (aad h1) uq).ex;unfold o4 at h3;simp only[Bool.and_eq_true,Bool.not_eq_true']at h3;have mQ:∀r,starEach (a::r) X.env=(false,eval a X.env)::starEach r X.env:=λr=>by
  cases es with
  |nil=>exact(aac h4).elim
  |cons c cs=>exact cj (aL h4).1 r _
 have hpl:(backTo pos (starEach NL X.env)).any (·.1)=false:=by
  cases es with
  |nil=>exact(aac h4).elim
  |cons c cs=>exact Cs (aL h4).2
 refine PE.imp (HG (F:=F) (C:=C) (np:=p) (cpos:=pos) L hx Fo h2 hm hk hb h3.1.1 h4 mQ hpl) λσ H Q hq=>?_;obtain⟨R,τ,ρ,Si,xs,e1,e2⟩:=hq;exact⟨R,τ,ρ,Si,xs,e1,e2,by have:=hl _ e2;rw[aX,List.length_map]at this;exact this⟩
theorem tP(L:NQ X S k Φ Ψ C y gl){g:Nat}{e:Expr}(h:cW S (.call g es) e=true):PE X e (Ag X F λρ=>∃xs,cf Φ es ρ=ok xs/\Ψ g (aF aW xs)):=vK L.ls.toLk L.hx L.fe h
def Be(X:Cx)(F:ak)(Φ:aT)(Ψ:Nat->aa->Prop)(n:Nat)(t:Tg)(b:ag)(R1:ak)(H1:Hp)(items:aa)(i:Nat)(σ:St)(H:Hp):Prop:=∃R' τ' ρ',SI X F R' τ' ρ' σ H/\Kp R1 H1 R' H/\NT Φ Ψ n t b (items.drop i) ρ'
def Yx(X:Cx)(F:ak)(Φ:aT)(Ψ:Nat->aa->Prop)(n:Nat)(b:ag):TS:=λD σ H=>oG X F Φ b D σ H\/kT X F (Er Φ Ψ n b) D σ H
theorem zq{g:TG}{t:Tg}{b:ag}{D:L2.Ends}{items:List DI.D}{xs:af}{q:br}
  (vx:∀(v:V) (σ:St) (H:Hp) (Q:St->Hp->Prop) (R:ak) (τ:Addr->Option br) (ρ ρ':aZ) (d:DI.D),SI X F R τ ρ σ H->i6 X R τ H v d->bT t d ρ=ok ρ'->(∀σ' τ',SI X F R τ' ρ' σ' H->Q σ' H)->g v σ H Q)
  (rs:aI (aY X.K H1) (nd X.K R1 (λ_=>False) (λ_=>none) H1) q 0 xs items) (i:Nat) (x:V) (σ:St) (H:Hp) (hx:xs[i]?=some x) (h:Be X F Φ Ψ n t b R1 H1 items i σ H) :
  g x σ H λσ2 H2=>Yx X F Φ Ψ n b { D with nx:=Be X F Φ Ψ n t b R1 H1 items (i+1),ct:=Be X F Φ Ψ n t b R1 H1 items (i+1),bk:=D.nx } σ2 H2:=by
 obtain⟨R',τ',ρ',Si,kp,ef⟩:=h;obtain⟨d,hd,rd⟩:=rs.tH hx;have hi:i<items.length:=by
  by_cases hi:i<items.length
  ·exact hi
  ·rw[List.getElem?_eq_none (by left)]at hd;cases hd
 have pk:items.drop i=d::items.drop (i+1):=by
  rw[List.drop_eq_getElem_cons hi];rw[List.getElem?_eq_getElem hi]at hd;cases hd;rfl
 rw[pk]at ef;cases ef with
 |hd e1 e2=>exact vx x σ H _ R' τ' ρ' _ d Si (jM (Rep.lZ (kp.rep rd))) e1 λσ' sf fC=>.inr ⟨R',sf,_,fC,e2⟩
 |tl e1 e2 e3=>exact vx x σ H _ R' τ' ρ' _ d Si (jM (Rep.lZ (kp.rep rd))) e1 λσ' sf fC=>.inl ⟨R',sf,_,(.nx,_),fC,e2,λσ3 H3 R3 τ3 yh k3=>⟨R3,τ3,_,yh,kp.trans k3,e3⟩⟩
theorem D4{t:Tg}{b:ag}{items:List DI.D}{m:Nat}{P:Prop}(hn:m=items.length)(σ:St)(H:Hp)(h:Be X F Φ Ψ n t b R1 H1 items m σ H):P:=by
 obtain⟨_,_,_,_,_,ef⟩:=h;subst hn;rw[List.drop_length]at ef;cases ef
theorem Na(L:qe X S k Φ){t:Tg}{a:CE}{b:ag}{tg iter:Expr}{x:ba}(ht:xW S t tg=true)(hi:NG S (.seq a) iter=true)(hb:iY X x (Yx X F Φ Ψ n b)):PS X (.For tg iter x [] pos) (kT X F (qm Φ Ψ n (.fr t (.seq a) b))):=by
 obtain⟨g,hg,vx⟩:=yx (F:=F) L ht;have kb:∀y,foldedSetIterable iter X.env y=pure y:=by
  intro y;cases iter<;>first|rfl|exact(aac hi).elim|exact(aac (aL hi).2).elim
 intro pins s σ H D I Fe;obtain⟨R,τ,ρ,Si,hb0⟩:=Fe;cases hb0 with
 |fr ei ef _ =>
  replace hi:=aL hi;obtain⟨d,ed,ei⟩:=aH ei;have pe:=(gG (F:=F) L.toLk a iter hi.1).1;cases d<;>try (simp at ei;done)
  ·rename_i ds;simp at ei;obtain⟨rfl,rfl⟩:=ei;refine lU L.px L.calm (w_ pe) hg hb kb pins s σ H D I (tD.intro Si ed λv H1 e1 rv=>?_);obtain⟨R',τ',hR,fC,rp⟩:=nS Si e1 rv;rw[aS]at rp;cases rp with
   | @tup _ p xs _ hp rs =>
    refine⟨p,rfl,⟨xs,hp⟩,zm (xs:=xs) (Be X F Φ Ψ n t b R' H1 (aF aW ds)) ⟨R',τ',_,fC,Kp.refl R' H1,by rw[List.drop_zero];exact ef⟩ (λi σ' H' _ h=>?_) (λi x σ' H' hx h=>zq vx rs i x σ' H' hx h) (λσ' H' h=>D4 (rs.length) σ' H' h)⟩;obtain⟨R2,τ2,ρ2,_,kp,_⟩:=h;exact kp.Pl hp
  ·rename_i f ds;simp at ei;obtain⟨rfl,rfl⟩:=ei;refine lU L.px L.calm (sP pe) hg hb kb pins s σ H D I (tD.intro Si ed λv H1 e1 rv=>?_);obtain⟨R',τ',hR,fC,rp⟩:=nS Si e1 rv;rw[aS]at rp;cases rp with
   | @lst _ p xs _ _ hp rs =>
    refine⟨p,rfl,⟨xs,hp.sq⟩,vH (xs:=xs) (Be X F Φ Ψ n t b R' H1 (aF aW ds)) ⟨R',τ',_,fC,Kp.refl R' H1,by rw[List.drop_zero];exact ef⟩ (λi σ' H' _ h=>?_) (λi x σ' H' hx h=>zq vx rs i x σ' H' hx h) (λσ' H' h=>D4 (rs.length) σ' H' h)⟩;obtain⟨R2,τ2,ρ2,_,kp,_⟩:=h;exact(kp.nd hp).sq
theorem ku{c:CS}(h:∀ρ,qm Φ Ψ n c ρ->False):PS X st (kT X F (qm Φ Ψ n c)):=λ_ _ _ _ _ _ hq=>by
 obtain⟨_,_,ρ,_,hb⟩:=hq;exact(h ρ hb).elim
theorem D5{c:CS}(h:∀ρ,qm Φ Ψ n c ρ->PS X st (λ_ σ H=>∃R τ,SI X F R τ ρ σ H)):PS X st (kT X F (qm Φ Ψ n c)):=λpins s σ H D I hq=>by
 obtain⟨R,τ,ρ,Si,hb⟩:=hq;exact h ρ hb pins s σ H D I ⟨R,τ,Si⟩
theorem Ng(L:NQ X S k Φ Ψ C y gl){g:Nat}(h:pW S (.ex (.call g es)) st=true)(a:cf Φ es ρ=ok xs)(b:Ψ g (aF aW xs)):PS X st (λ_ σ H=>∃R τ,SI X F R τ ρ σ H):=by
 obtain⟨v,v1,q1⟩:=bp h;obtain⟨pos,rfl⟩:=oD v1;obtain⟨h1,h2⟩:=aL q1;exact PS.imp (JG (tP (F:=F) L h1) (jr h1 (je h2) _ _ _)) λD σ H hq=>by obtain⟨R,τ,Si⟩:=hq;exact⟨R,τ,ρ,Si,_,a,b⟩
theorem HF(L:NQ X S k Φ Ψ C y gl){g:Nat}(h:pW S (.ret (.call g es)) st=true)(a:cf Φ es ρ=ok xs)(b:Ψ g (aF aW xs)):PS X st (λ_ σ H=>∃R τ,SI X F R τ ρ σ H):=by
 obtain⟨z,v1,q1⟩:=bp h;obtain⟨pos,rfl⟩:=yp v1;obtain⟨v,v2,q2⟩:=bp q1;obtain rfl:z=some v:=v2;exact PS.imp (Nf (tP (F:=F) L q2)) λD σ H hq=>by obtain⟨R,τ,Si⟩:=hq;exact⟨R,τ,ρ,Si,_,a,b⟩
theorem HH(L:NQ X S k Φ Ψ C y gl){i g:Nat}(h:pW S (.asg (.nm i) (.call g es)) st=true)(a:cf Φ es ρ=ok xs)(b:Ψ g (aF aW xs)):PS X st (λ_ σ H=>∃R τ,SI X F R τ ρ σ H):=by
 obtain⟨⟨IH,v⟩,v1,q1⟩:=bp h;obtain⟨pos,rfl⟩:=nI v1;obtain⟨tg,v2,q2⟩:=bp q1;obtain rfl:IH=[tg]:=bS v2;obtain⟨q3,h4⟩:=aL q2;obtain⟨q4,h3⟩:=aL q3;obtain⟨h1,h2⟩:=aL q4;obtain⟨x,p,rfl⟩:∃x p,tg=.Name x p:=zE h2;have T5:=aL (show _=true from h2);have hc:jl v=false:=by
  obtain⟨⟨x,as⟩,hv,_⟩:=bp h1;obtain⟨p,pos,rfl⟩:=cC hv;rfl
 exact PS.imp (Nc L.ls.nd (by rw[L.ls.N];exact aad T5.1) (L.ls.loc T5.2) (L.ls.ql _) (tP (F:=F) L h1) (jr h1 hc _ _ _)) λD σ H hq=>by obtain⟨R,τ,Si⟩:=hq;exact⟨R,τ,ρ,Si,_,a,b⟩
mutual
theorem erS(L:NQ X S k Φ Ψ C y gl):∀(c:CS) (st:Stmt),pW S c st=true->xk gl n y c st=true->PS X st (kT X F (qm Φ Ψ n c))
 |.ex e,st,h,_=>D5 λρ hb=>by cases hb with|ex a b=>exact Ng L h a b
 |.ret e,st,h,_=>D5 λρ hb=>by cases hb with|ret a b=>exact HF L h a b
 |.asg t e,st,h,_=>D5 λρ hb=>by cases hb with|asg a b=>exact HH L h a b
 |.rs m,st,h,hk=>by
  by_cases hm:m=n
  ·subst hm;have hk:(!(m==m)||(gl&&YK y st))=true:=hk;rw[beq_self_eq_true,Bool.not_true,Bool.false_or]at hk;obtain⟨hg,hk⟩:=aL hk;obtain⟨gy,dy⟩:=L.gy hg;obtain⟨e,v1,q1⟩:=bp hk;obtain⟨pos,rfl⟩:=J5 v1;obtain⟨⟨x,as⟩,v2,q2⟩:=bp q1;obtain⟨p,pos',rfl⟩:=cC v2;obtain⟨q3,q4⟩:=aL q2;obtain⟨c,v3,q5⟩:=bp q4;obtain rfl:as=[c]:=bS v3;obtain⟨m',j,p',rfl⟩:=Hf q5;obtain rfl:x=y:=eq_of_beq q3;exact PS.imp (Co L.ls.calm L.own gy dy) λD σ H hq=>by
    obtain⟨R,τ,ρ,Si,hb⟩:=hq;exact λpins s h' ea us I DC=>L.hR pins _ H s h' ea us I Si.same DC
  ·exact ku λ_ hb=>by cases hb;exact absurd rfl hm
 |.ifs c a b,st,h,hk=>by
  obtain⟨⟨t,x,z⟩,v1,q1⟩:=bp h;obtain⟨pos,rfl⟩:=sj v1;obtain⟨q2,h3⟩:=aL q1;obtain⟨h1,h2⟩:=aL q2;obtain⟨k1,k2⟩:=aL (show(z9 gl n y a x&&z9 gl n y b z)=true from hk);refine PS.imp (Cp (pos:=pos) (gG (F:=F) L.ls.toLk c t h1).2 (D7 L a x h2 k1) (D7 L b z h3 k2)) λD σ H hq=>?_;obtain⟨R,τ,ρ,Si,hb⟩:=hq;cases hb with
  |TK e1 e2=>exact⟨R,τ,ρ,true,Si,e1,λH2 es=>Qy ⟨R,τ,ρ,Si.go es,e2⟩⟩
  |iff e1 e2=>exact⟨R,τ,ρ,false,Si,e1,λH2 es=>QB ⟨R,τ,ρ,Si.go es,e2⟩⟩
 |.par _ _ _ _,st,h,_=>ku λ_ hb=>by cases hb
 |.mut _ _ _,st,h,_=>ku λ_ hb=>by cases hb
 |.app _ _,st,h,_=>ku λ_ hb=>by cases hb
 |.IE _ _,st,h,_=>ku λ_ hb=>by cases hb
 |.fr t it b,st,h,hk=>by
  obtain⟨⟨tg,iter,x,z⟩,v1,q1⟩:=bp h;obtain⟨pos,rfl⟩:=yr v1;obtain⟨q2,h5⟩:=aL q1;obtain⟨q3,h4⟩:=aL q2;obtain⟨q4,h3⟩:=aL q3;obtain⟨h1,h2⟩:=aL q4;obtain rfl:z=[]:=k9 h1;have hk:z9 gl n y b x=true:=hk;cases it with
  |seq a =>
   have p1:=il (F:=F) L.ls b x h5;have p2:=D7 L b x h5 hk;exact Na L.ls h2 h3 λpins s σ H D I hq=>hq.elim (p1 pins s σ H D I) (p2 pins s σ H D I)
  |CA p cs=>exact ku λ_ hb=>by cases hb with|fr _ _ h=>cases h
  |jK a=>exact ku λ_ hb=>by cases hb with|fr _ _ h=>cases h
theorem D7(L:NQ X S k Φ Ψ C y gl):∀(cs:ag) (qj:ba),iX S cs qj=true->z9 gl n y cs qj=true->iY X qj (kT X F (Er Φ Ψ n cs))
 |[],_,_,_=>λ_ _ _ _ _ _ bR=>by obtain⟨_,_,_,_,hb⟩:=bR;cases hb
 |_::_,[],h,_=>by exact(aac h).elim
 |c::cs,st::qj,h,hk=>by
  replace h:=aL h;obtain⟨k1,k2⟩:=aL (show(xk gl n y c st&&z9 gl n y cs qj)=true from hk);have hN:iY X qj Kc:=λ_ _ _ _ _ _ z=>z.elim;have h1:PS X st (qT X F Φ c):=BV (F:=F) L.ls c st h.1;have A:iY X (st::qj) _:=jb (erS L c st h.1 k1) hN;have B:iY X (st::qj) _:=jb h1 (D7 L cs qj h.2 k2);intro pins s σ H D I hq;obtain⟨R,τ,ρ,Si,hb⟩:=hq;cases hb with
  |hd e=>exact A pins s σ H D I ⟨R,τ,ρ,Si,e⟩
  |tl e1 e2=>exact B pins s σ H D I ⟨R,τ,ρ,(.nx,_),Si,e1,λσ' H' R' τ' fC kp=>⟨R',τ',_,fC,e2⟩⟩
end
end
variable {Φ:aT}
theorem Nb{x:Str}{f:Addr}{fd:FuncData}{k n:Nat}{N bl:ao}{cs:List (Str×GK)}{px:Px}{ql:Nat->Option Str}{Ψ:Nat->aa->Prop}{mr:aa->Prop}{b:ag}{y:Str}
  (Fu:Bv K x qual st f fd) (Sc:fK N ps (aN st)) (DM:iX ⟨aN st,N,ql,bl,cs,px⟩ b (bJ st)=true) (Wn:z9 (fV (aN st) y&&!(y==("__debug__" : Str))) n y b (bJ st)=true) (DB:qc px Φ) (QW:Ft px Φ)
  (vB:∀y∈bl,mg y=none) (mT:∀y i,(y,i)∈cs->∃u,mg y=some u/\yn K i u) (wq:∀g y,ql g=some y->Ent P w K mg base k y (Φ g)) (Ml:∀g y,ql g=some y->(∃ds,Ψ g ds)->iO P w K mg base k C y (Ψ g))
  (O:qd y C mg base) (hm:∀ds,mr ds->ds.length=ps.length/\Er Φ Ψ n b (ds.map some++List.replicate (N.length - ds.length) none)):gL P w K mg base (um P w C) (k+1) f fd ps (Vk K C ps.length mr):=by
 refine XS (N:=N) Fu Sc (λvs H Q E ⟨_,_,h,_⟩=>h) λgi A outer s H vs Q E hr wm=>?_;obtain⟨F,ds,hl,rs,hmr,hE⟩:=wm;obtain⟨Om,WQ⟩:=hm ds hmr
 let X:=jq (um P w C) P w K mg base N qual (aN st) f gi A outer s H E
 have Ls:qe X ⟨aN st,N,ql,bl,cs,px⟩ k Φ:=⟨⟨rfl,rfl,Sc.nd,rfl,hr,vB,λg y h=>⟨(wq g y h).ex⟩,mT,DB⟩,λ_=>rfl,PassesOwn.leaving,Sc.kind,QW⟩
 have hpl:ps.length<=N.length:=by have:=aaX List.length Sc.pre;rw[List.length_take]at this;left
 have Lx:NQ X ⟨aN st,N,ql,bl,cs,px⟩ k Φ Ψ C y (fV (aN st) y&&!(y==("__debug__" : Str))):=⟨Ls,λpins σ H1 s1 h' ea vs I es DC=>Gw I DC (hE H1 es),PZ λH' h=>hE H' h.2,Ml,λz=>⟨Ls.gl (aL z).1,by simpa using (aL z).2⟩,O⟩
 exact⟨_,D7 (F:=F) Lx b _ DM Wn,_,_,_,uJ (X:=X) rfl (by left) rs,WQ⟩
variable {ie:Expr}
section
variable {X:Cx}{S:Sx}{k n:Nat}{Φ:aT}{Ψ:Nat->aa->Prop}{F:ak}{C B:Addr}
noncomputable def LZ:CE->Bool
 |.call _ _=>true
 |_=>false
def LW:CS->Bool
 |.ex e=>LZ e
 |_=>false
def FN:CS->Bool
 |.ex e=>LZ e
 |.ifs _ a b=>bA (one a) λx=>bA (one b) λy=>LW x&&LW y
 |_=>false
theorem y4{e:CE}(h:LZ e=true):∃g es,e=.call g es:=by
 cases e<;>first|exact(aac h).elim|exact⟨_,_,rfl⟩
theorem y3{c:CS}(h:LW c=true):∃g es,c=.ex (.call g es):=by
 cases c<;>first|exact(aac h).elim|skip
 obtain⟨g,es,rfl⟩:=y4 h;exact⟨g,es,rfl⟩
theorem JF(L:Lk X S k Φ)(hx:Passes (um X.prog X.w C) X (λc _ H'=>c=.ref C/\aM X.H₀ H'))(fe:∀g x,S.fn g=some x->(∃ds,Ψ g ds)->iO X.prog X.w X.K X.mg X.base k C x (Ψ g)){g:Nat}(h:pW S (.ex (.call g es)) st=true):PS X st (kT X F (qm Φ Ψ n (.ex (.call g es)))):=by
 obtain⟨v,v1,q1⟩:=bp h;obtain⟨pos,rfl⟩:=oD v1;obtain⟨h1,h2⟩:=aL q1;exact PS.imp (JG (vK (F:=F) L hx fe h1) (jr h1 (je h2) _ _ _)) λD σ H bR=>by obtain⟨R,τ,ρ,Si,hb⟩:=bR;cases hb with|ex a b=>exact⟨R,τ,ρ,Si,_,a,b⟩
theorem R_(L:Lk X S k Φ)(hx:Passes (um X.prog X.w C) X (λc _ H'=>c=.ref C/\aM X.H₀ H'))(fe:∀g x,S.fn g=some x->(∃ds,Ψ g ds)->iO X.prog X.w X.K X.mg X.base k C x (Ψ g)){c:CS}(ht:FN c=true)(h:pW S c st=true):PS X st (kT X F (qm Φ Ψ n c)):=by
 cases c<;>first|exact(aac ht).elim|skip
 ·obtain⟨g,es,rfl⟩:=y4 ht;exact JF L hx fe h
 ·obtain⟨ca,va,ha⟩:=bp ht;obtain⟨cb,vb,hb⟩:=bp ha;obtain⟨xa,xb⟩:=aL hb;obtain⟨_,_,rfl⟩:=y3 xa;obtain⟨_,_,rfl⟩:=y3 xb;cases bS va;cases bS vb;obtain⟨⟨t,x,z⟩,v1,q1⟩:=bp h;obtain⟨pos,rfl⟩:=sj v1;obtain⟨q2,h3⟩:=aL q1;obtain⟨h1,h2⟩:=aL q2;have one:∀{g:Nat} {es:aD} {qj:ba},iX S [.ex (.call g es)] qj=true->iY X qj (kT X F (Er Φ Ψ n [.ex (.call g es)])):=λ{g es qj} hc=>by
   cases qj with
   |nil=>exact(aac hc).elim
   |cons s0 rest =>
    have hc:=aL hc;cases rest with
    |cons _ _=>exact(aac hc.2).elim
    |nil =>
     refine iY.imp (nM (JF (F:=F) (n:=n) L hx fe hc.1)) λD σ H ⟨R,τ,ρ,Si,hb⟩=>?_;cases hb with
     |hd e=>exact⟨R,τ,ρ,Si,e⟩
     |tl _ e=>cases e
  refine PS.imp (Cp (pos:=pos) (gG (F:=F) L _ t h1).2 (one h2) (one h3)) λD σ H hq=>?_;obtain⟨R,τ,ρ,Si,hb⟩:=hq;cases hb with
  |TK e1 e2=>exact⟨R,τ,ρ,true,Si,e1,λH2 es=>Qy ⟨R,τ,ρ,Si.go es,e2⟩⟩
  |iff e1 e2=>exact⟨R,τ,ρ,false,Si,e1,λH2 es=>QB ⟨R,τ,ρ,Si.go es,e2⟩⟩
theorem FR{ex kept:Str}{cl:Str->Option Bool}{i j:Nat}{c:CS}{b:Bool}(L:Lk X S k Φ)(hk:X.stack=X.env::X.outer)(hf:X.env.frame=some X.env.locals)(O:qd share B X.mg X.base)(OS:mB C B X.base)(gs:Gl X share)(ds:(share==("__debug__" : Str))=false)
  (hi:X.N[i]?=some ex) (hj:X.N[j]?=some kept) (uq:kept≠ex) (lx:X.env.scope.names.lookup ex=some .local) (lk:X.env.scope.names.lookup kept=some .local) (dx:xT ex=true) (dk:xT kept=true) (fe:∀g x,S.fn g=some x->(∃ds,Ψ g ds)->iO X.prog X.w X.K X.mg X.base k C x (Ψ g))
  (het:∀X':Cx,Lk X' S k Φ->Passes (um X'.prog X'.w C) X' (λc _ H'=>c=.ref C/\aM X'.H₀ H')->(∀g x,S.fn g=some x->(∃ds,Ψ g ds)->iO X'.prog X'.w X'.K X'.mg X'.base k C x (Ψ g))->PS X' st (kT X' F (qm Φ Ψ n c))) (Z:SO X C cl) (WK:Dm kept cl ie=some b):∀{j1:Nat} {q1 q2 q3 np p1 p2 p3 hpos pos rp:Pos},iY X [.Assign [.Name kept q1] (.Constant .none j1 q2) q3,.Try [st] [.ExceptHandler (some (.Name share np)) (some ex) [.Assign [.Name kept p1] (.Name ex p2) p3] hpos] [] [] pos,.Return (some ie) rp]
   (λD σ H=>∃R τ ρ,SI X F R τ ρ σ H/\j<ρ.length/\qm Φ Ψ n c (ρ.set j (some .bV))/\∀H',aM X.H₀ H'->D.rt (.bl b) H'):=by
 intro j1 q1 q2 q3 np p1 p2 p3 hpos pos rp;unfold xT at dx dk;simp only[Bool.and_eq_true,Bool.not_eq_true']at dx dk;have S1:=wZ (X:=X) (pos:=q3) (pos':=q1) (i:=j) L.nd hj (.inl lk) (CD (j:=j1) (pos:=q2)) (hf:=.inr lk);have S2:=GD (X:=X) (C:=C) (B:=B) (body:=[st]) (tb:=kT X F (qm Φ Ψ n c)) (i:=i) (j:=j) (E1:=λc _ H'=>c=.ref C/\aM X.H₀ H') (np:=np) (p1:=p1) (p2:=p2) (p3:=p3) (hpos:=hpos) (pos:=pos) hk hf O OS gs ds L.nd hi hj uq lx lk dx.1 dx.2 rfl
  λpn SS hx=>iY.imp (nM (het (Cx.uz X pn SS) ⟨L.sc,L.N,L.nd,L.calm,L.room,L.bl,λf x h=>⟨(L.fn f x h).ex⟩,L.cs,L.pr⟩ hx fe)) λD σ H ⟨R,τ,ρ,Si,hb⟩=>⟨R,τ,ρ,Si.uz,hb⟩
 have S3:=w6 (X:=X) (pos:=rp) (K8 Z (λp=>oV (pos:=p) hj (.inl lk) dk.1 dk.2) WK).1;refine iY.imp (jb S1 (jb S2 (nM S3))) λD σ H hq=>?_;obtain⟨R,τ,ρ,Si,hl,Mr,q⟩:=hq;obtain⟨τ1,yi⟩:=Si.set (i:=j) (v:=.bV) (d:=.bV) ⟨λ_=>none,λ_ _ h=>by simp at h,.bV⟩ hl;refine⟨⟨R,τ1,_,yi,Mr⟩,λea H' he hn=>?_⟩;have Jw:j<X.N.length:=(List.getElem?_eq_some_iff.mp hj).1;have hg:(only X.N.length j (.ref ea))[j]?=some (some (.ref ea)):=by
  unfold only;rw[List.getElem?_set_self (by rw[List.length_replicate];exact Jw)]
 exact⟨ea,hg,bj,q _ (he.2.trans (aM.upd hn))⟩
end
theorem BK{x:Str}{IS:Stmt}{f B:Addr}{fd:FuncData}{k n i j:Nat}{N bl:ao}{cs:List (Str×GK)}{px:Px}{ql:Nat->Option Str}{Ψ:Nat->aa->Prop}{m:aw}{c:CS}{ex kept:Str}{cl:Str->Option Bool}{b:Bool}{j1:Nat}{q1 q2 q3 rp:Pos}
  (Fu:Bv K x qual st f fd) (Sc:fK N ps (aN st)) (Ma:bJ st=[.Assign [.Name kept q1] (.Constant .none j1 q2) q3,.Try [IS] [.ExceptHandler (some (.Name share np)) (some ex) [.Assign [.Name kept p1] (.Name ex p2) p3] hpos] [] [] pos,.Return (some ie) rp])
  (O:qd share B mg base) (OS:mB C B base) (gs:(fV (aN st) share&&!(share==("__debug__" : Str)))=true) (hi:N[i]?=some ex) (hj:N[j]?=some kept) (uq:kept≠ex) (lx:(aN st).names.lookup ex=some .local) (lk:(aN st).names.lookup kept=some .local) (dx:xT ex=true) (dk:xT kept=true)
  (DB:qc px Φ) (vB:∀y∈bl,mg y=none) (mT:∀y i,(y,i)∈cs->∃u,mg y=some u/\yn K i u) (wq:∀g y,ql g=some y->Ent P w K mg base k y (Φ g)) (Ml:∀g y,ql g=some y->(∃ds,Ψ g ds)->iO P w K mg base k C y (Ψ g))
  (ht:FN c=true) (hc:pW ⟨aN st,N,ql,bl,cs,px⟩ c IS=true) (Z:∀X:Cx,Lk X ⟨aN st,N,ql,bl,cs,px⟩ k Φ->X.K=K->X.mg=mg->SO X C cl) (WK:Dm kept cl ie=some b)
  (hm:∀ds r,m ds=ok r->r=.bl b/\ds.length=ps.length/\qm Φ Ψ n c ((ds.map some++List.replicate (N.length - ds.length) none).set j (some .bV))):gL P w K mg base z5 (k+1) f fd ps (EY K ps.length m):=by
 refine Fu.ok (N:=N) Sc (λvs H Q E ⟨_,_,_,h,_⟩=>h) λgi A outer s H vs Q E hr wm=>?_;obtain⟨F,ds,r,hl,rs,er,hq⟩:=wm;obtain⟨rfl,Om,Mr⟩:=hm ds r er
 let X:=(jq z5 P w K mg base N qual (aN st) f gi A outer s H E).Fb
 have L:Lk X ⟨aN st,N,ql,bl,cs,px⟩ k Φ:=⟨rfl,rfl,Sc.nd,rfl,hr,vB,λg y h=>⟨(wq g y h).ex⟩,mT,DB⟩
 have hpl:ps.length<=N.length:=by have:=aaX List.length Sc.pre;rw[List.length_take]at this;left
 have Si:=uJ (X:=X) (F:=F) (N:=N) (vs:=vs) (ds:=ds) (H:=H) rfl (by left) rs;have Jw:j<N.length:=(List.getElem?_eq_some_iff.mp hj).1;have ZO:=aL gs;rw[Ma];refine⟨_,FR (X:=X) (F:=F) (n:=n) (Ψ:=Ψ) L rfl rfl O OS (L.gl ZO.1) (by simpa using ZO.2) hi hj uq lx lk dx dk Ml (λX' L' hx fe=>R_ L' hx fe ht hc) (Z X L rfl rfl) WK,_,_,_,Si,by simp;left,Mr,λH' s'=>?_⟩;exact hq (.bl b) H' s' ⟨λ_=>none,λ_ _ h=>by simp at h,.bl b⟩
end DI
end
section
namespace DI
open PySem (Str)
section
variable {α β:Type}
@[simp]theorem dG(a:α)(f:α->O β):bd (ok a) f=f a:=rfl
@[simp]theorem Uq(c:Nat)(f:α->O β):bd (some (.error c)) f=some (.error c):=rfl
noncomputable def JQ(f:α->O β)(x:O α):O β:=bd x f
@[simp]theorem NM(f:α->O β)(a:α):JQ f (ok a)=f a:=rfl
@[simp]theorem Uv(f:α->O β)(c:Nat):JQ f (some (.error c))=some (.error c):=rfl
end
def Sv(op:IC)(x y:O D):O D:=bd x λx=>bd y λy=>cQ op x y
@[simp]theorem Uo(op:IC)(x y:D):Sv op (ok x) (ok y)=cQ op x y:=rfl
def Sl(op:Bw)(x y:O D):O D:=bd x λx=>bd y λy=>ez op x y
@[simp]theorem Ih(op:Bw)(x y:D):Sl op (ok x) (ok y)=ez op x y:=rfl
def Zc(x y:O D):O D:=bd x λx=>bd y λy=>vm x y
@[simp]theorem V9(x y:D):Zc (ok x) (ok y)=vm x y:=rfl
def Qb(x:O D):O D:=bd (bd x iZ) λb=>ok (.bl (!b))
@[simp]theorem Tw(b:Bool):Qb (ok (.bl b))=ok (.bl (!b)):=rfl
@[simp]theorem O1(b:Bool):iZ (.bl b)=ok b:=rfl
def wJ(x:O D):O Bool:=bd x iZ
@[simp]theorem FO(b:Bool):wJ (ok (.bl b))=ok b:=rfl
@[simp]theorem O0(c:Nat):wJ (some (.error c))=some (.error c):=rfl
def Zd(t:Ty)(x:O D):O D:=bd x λx=>ok (.bl (eD t x))
@[simp]theorem We(t:Ty)(x:D):Zd t (ok x)=ok (.bl (eD t x)):=rfl
def EG(m:aw)(xs:O (aa)):O D:=bd xs λxs=>bd (m (aF aW xs)) λr=>ok (aS iy r)
def Xo(x:O D):O D:=bd x λr=>ok (aS iy r)
@[simp]theorem Xn(r:D):Xo (ok r)=ok (aS iy r):=rfl
@[simp]theorem T8(c:Nat):Xo (some (.error c))=some (.error c):=rfl
@[simp]theorem Sq(m:aw)(xs:aa):EG m (ok xs)=Xo (m (aF aW xs)):=rfl
@[simp]theorem OE(m:aw)(c:Nat):EG m (some (.error c))=some (.error c):=rfl
noncomputable def zC(x:O D)(xs:O (aa)):O (aa):=bd x λx=>bd xs λxs=>ok (x::xs)
@[simp]theorem Ew(x:D)(xs:aa):zC (ok x) (ok xs)=ok (x::xs):=rfl
@[simp]theorem OA(c:Nat)(xs:O (aa)):zC (some (.error c)) xs=some (.error c):=rfl
@[simp]theorem NB(x:D)(c:Nat):zC (ok x) (some (.error c))=some (.error c):=rfl
noncomputable def QA(x:O Bool)(a b:O D):O D:=bd x λk=>if k then a else b
@[simp]theorem Wc(a b:O D):QA (ok true) a b=a:=rfl
@[simp]theorem Wd(a b:O D):QA (ok false) a b=b:=rfl
def Iq(x y:O D):O D:=bd (bd x iZ) λc=>if c then y else ok (.bl false)
@[simp]theorem X6(y:O D):Iq (ok (.bl true)) y=y:=rfl
@[simp]theorem X7(y:O D):Iq (ok (.bl false)) y=ok (.bl false):=rfl
@[simp]theorem X8(a b:Bool):Iq (ok (.bl a)) (ok (.bl b))=ok (.bl (a&&b)):=by cases a<;>rfl
def Tq(x y:O D):O D:=bd (bd x iZ) λc=>if c then ok (.bl true)else y
@[simp]theorem YQ(y:O D):Tq (ok (.bl true)) y=ok (.bl true):=rfl
@[simp]theorem YR(y:O D):Tq (ok (.bl false)) y=y:=rfl
@[simp]theorem YS(a b:Bool):Tq (ok (.bl a)) (ok (.bl b))=ok (.bl (a||b)):=by cases a<;>rfl
def Dh(x:O D):O D:=bd (bd x iZ) λc=>ok (.bl c)
@[simp]theorem Qu(c:Bool):Dh (ok (.bl c))=ok (.bl c):=rfl
@[simp]theorem Pn(d:D):yC (some (some d))=ok (aS bE d):=rfl
section
variable (Φ:aT)(ρ:aZ)
@[simp]theorem Z1:bz Φ .bV ρ=ok .bV:=rfl
@[simp]theorem adh(b:Bool):bz Φ (.bl b) ρ=ok (.bl b):=rfl
@[simp]theorem Ed(i:Int):bz Φ (.int i) ρ=ok (.int i):=rfl
@[simp]theorem Z6(x:Str)(i:Int):bz Φ (.glo x i) ρ=ok (.int i):=rfl
@[simp]theorem Z5(x:Str)(zs:ae):bz Φ (.glt x zs) ρ=ok (.tup (zs.map D.int)):=rfl
@[simp]theorem e_v(i:Nat):bz Φ (.v i) ρ=yC ρ[i]?:=rfl
@[simp]theorem Z7(op:IC)(a b:CE):bz Φ (.bin op a b) ρ=Sv op (bz Φ a ρ) (bz Φ b ρ):=rfl
@[simp]theorem JH(op:Bw)(a b:CE):bz Φ (.cmp op a b) ρ=Sl op (bz Φ a ρ) (bz Φ b ρ):=rfl
@[simp]theorem Z2(a:CE):bz Φ (.neg a) ρ=JQ GZ (bz Φ a ρ):=rfl
@[simp]theorem Z0(a:CE):bz Φ (.not a) ρ=Qb (bz Φ a ρ):=rfl
@[simp]theorem Z4(a:CE)(t:Ty):bz Φ (.vo a t) ρ=Zd t (bz Φ a ρ):=rfl
@[simp]theorem XI(f:Nat)(es:aD):bz Φ (.call f es) ρ=EG (Φ f) (cf Φ es ρ):=rfl
@[simp]theorem Sf(f:Bf)(es:aD):bz Φ (.bf f es) ρ=JQ (pY f) (cf Φ es ρ):=rfl
@[simp]theorem ZX(f:Nat)(es:aD):bz Φ (.cI f es) ρ=JQ (Φ f) (cf Φ es ρ):=rfl
@[simp]theorem XH(a b:CE):bz Φ (.ix a b) ρ=Zc (bz Φ a ρ) (bz Φ b ρ):=rfl
@[simp]theorem XG(a:CE):bz Φ (.km a) ρ=JQ yW (bz Φ a ρ):=rfl
@[simp]theorem ZW(es:aD):bz Φ (.tup es) ρ=JQ (λxs=>ok (.tup xs)) (cf Φ es ρ):=rfl
@[simp]theorem Z3(es:aD):bz Φ (.lst es) ρ=JQ (λxs=>ok (.lst .ow xs)) (cf Φ es ρ):=rfl
@[simp]theorem Z8(es:aD):bz Φ (.and es) ρ=rP Φ es ρ:=rfl
@[simp]theorem adg(es:aD):bz Φ (.or es) ρ=AX Φ es ρ:=rfl
@[simp]theorem XM(e:CE):rP Φ [e] ρ=Dh (bz Φ e ρ):=rfl
@[simp]theorem XJ(e e':CE)(es:aD):rP Φ (e::e'::es) ρ=Iq (bz Φ e ρ) (rP Φ (e'::es) ρ):=rfl
@[simp]theorem ZZ(e:CE):AX Φ [e] ρ=Dh (bz Φ e ρ):=rfl
@[simp]theorem ZY(e e':CE)(es:aD):AX Φ (e::e'::es) ρ=Tq (bz Φ e ρ) (AX Φ (e'::es) ρ):=rfl
@[simp]theorem Se:cf Φ [] ρ=ok []:=rfl
@[simp]theorem Ee(e:CE)(es:aD):cf Φ (e::es) ρ=zC (bz Φ e ρ) (cf Φ es ρ):=rfl
@[simp]theorem e_T(e:CE):xM Φ e ρ=wJ (bz Φ e ρ):=rfl
theorem XQ(e:CE):bd (bz Φ e ρ) iZ=wJ (bz Φ e ρ):=rfl
@[simp]theorem XO:iT Φ [] ρ=ok true:=rfl
@[simp]theorem XN(e:CE):iT Φ [e] ρ=wJ (bz Φ e ρ):=by
 rw[iT,XQ];cases h:wJ (bz Φ e ρ)with
 |none=>rfl
 |some r=>cases r with
  |error c=>rfl
  |ok b=>cases b<;>simp[iT,bd,ok]
end
def qF(is:aO):Nat->aZ->aZ
 |_,[]=>[]
 |n,d::ρ=>(if n∈is then d.map (aS aW)else d)::qF is (n+1) ρ
theorem JC(is:aO):∀(ρ:aZ) (n:Nat),ρ.mapIdx (λi d=>if i+n∈is then d.map (aS aW)else d)=qF is n ρ
 |[],_=>rfl
 |d::ρ,n=>by
  rw[List.mapIdx_cons,qF,<- JC is ρ (n+1)];simp only[Nat.zero_add,Nat.add_assoc,Nat.add_comm 1 n]
theorem xH(is:aO)(ρ:aZ):i4 is ρ=qF is 0 ρ:=by rw[<- JC];rfl
@[simp]theorem RX(is:aO)(n:Nat):qF is n []=[]:=rfl
@[simp]theorem Ox(is:aO)(n:Nat)(d:aG)(ρ:aZ):qF is n (d::ρ)=(if n∈is then d.map (aS aW)else d)::qF is (n+1) ρ:=rfl
def dB(e:CE)(ρ:aZ)(x:O D):O (D×aZ):=bd x λd=>ok (keep e d ρ)
variable {ρ ρ1:aZ}
@[simp]theorem vk{e:CE}{d:D}(h:bc bZ d=false):dB e ρ (ok d)=ok (d,ρ):=by
 show ok (keep e d ρ)=_;rw[keep,h];rfl
@[simp]theorem Qx{e:CE}{d:D}(h:bc bZ d=true):dB e ρ (ok d)=ok (aS aW d,qF (i7 e) 0 ρ):=by
 show ok (keep e d ρ)=_;rw[keep,h,<- xH];rfl
@[simp]theorem N6(e:CE)(ρ:aZ)(c:Nat):dB e ρ (some (.error c))=some (.error c):=rfl
def C5(i:Nat)(ρ:aZ)(o:Option (aG)):O (D×aZ):=match o with
 |some (some d)=>if bc d_ d then ok (d,ρ.set i none)else ok (d,ρ)
 |_=>none
@[simp]theorem Qg{i:Nat}{d:D}(h:bc d_ d=true):C5 i ρ (some (some d))=ok (d,ρ.set i none):=aaV h
@[simp]theorem Qh{i:Nat}{d:D}(h:bc d_ d=false):C5 i ρ (some (some d))=ok (d,ρ):=ab9 (by rw[h];exact aac)
@[simp]theorem k_v(Φ:aT)(i:Nat)(ρ:aZ):kr Φ (.v i) ρ=C5 i ρ ρ[i]?:=rfl
noncomputable def isV:CE->Bool
 |.v _=>true
 |_=>false
@[simp]theorem Y9(Φ:aT)(ρ:aZ)(op:IC)(a b:CE):kr Φ (.bin op a b) ρ=dB (.bin op a b) ρ (bz Φ (.bin op a b) ρ):=rfl
@[simp]theorem Y8(Φ:aT)(ρ:aZ)(op:Bw)(a b:CE):kr Φ (.cmp op a b) ρ=dB (.cmp op a b) ρ (bz Φ (.cmp op a b) ρ):=rfl
@[simp]theorem V5(Φ:aT)(ρ:aZ)(f:Nat)(es:aD):kr Φ (.call f es) ρ=dB (.call f es) ρ (bz Φ (.call f es) ρ):=rfl
@[simp]theorem abC(Φ:aT)(ρ:aZ)(f:Bf)(es:aD):kr Φ (.bf f es) ρ=dB (.bf f es) ρ (bz Φ (.bf f es) ρ):=rfl
@[simp]theorem Y2(Φ:aT)(ρ:aZ)(f:Nat)(es:aD):kr Φ (.cI f es) ρ=dB (.cI f es) ρ (bz Φ (.cI f es) ρ):=rfl
@[simp]theorem abA(Φ:aT)(ρ:aZ)(a b:CE):kr Φ (.ix a b) ρ=dB (.ix a b) ρ (bz Φ (.ix a b) ρ):=rfl
@[simp]theorem Y1(Φ:aT)(ρ:aZ)(es:aD):kr Φ (.tup es) ρ=dB (.tup es) ρ (bz Φ (.tup es) ρ):=rfl
@[simp]theorem Y6(Φ:aT)(ρ:aZ)(es:aD):kr Φ (.lst es) ρ=dB (.lst es) ρ (bz Φ (.lst es) ρ):=rfl
@[simp]theorem Jr(Φ:aT)(ρ:aZ)(i:Int):kr Φ (.int i) ρ=dB (.int i) ρ (bz Φ (.int i) ρ):=rfl
@[simp]theorem abB(Φ:aT)(ρ:aZ)(i:Bool):kr Φ (.bl i) ρ=dB (.bl i) ρ (bz Φ (.bl i) ρ):=rfl
@[simp]theorem Y4(Φ:aT)(ρ:aZ): kr Φ (.bV) ρ=dB (.bV) ρ (bz Φ (.bV) ρ):=rfl
@[simp]theorem Y5(Φ:aT)(ρ:aZ)(a:CE):kr Φ (.neg a) ρ=dB (.neg a) ρ (bz Φ (.neg a) ρ):=rfl
@[simp]theorem Y3(Φ:aT)(ρ:aZ)(a:CE):kr Φ (.not a) ρ=dB (.not a) ρ (bz Φ (.not a) ρ):=rfl
@[simp]theorem Y_(Φ:aT)(ρ:aZ)(es:aD):kr Φ (.and es) ρ=dB (.and es) ρ (bz Φ (.and es) ρ):=rfl
@[simp]theorem abz(Φ:aT)(ρ:aZ)(es:aD):kr Φ (.or es) ρ=dB (.or es) ρ (bz Φ (.or es) ρ):=rfl
@[simp]theorem V4(Φ:aT)(ρ:aZ)(n:Nat)(t:Tg)(caps:aO)(ik:IK)(es bO:aD)(elt:CE):kr Φ (.comp n t caps ik es bO elt) ρ=dB (.comp n t caps ik es bO elt) ρ (bz Φ (.comp n t caps ik es bO elt) ρ):=rfl
@[simp]theorem Y7(Φ:aT)(ρ:aZ)(a:CE)(t:Ty):kr Φ (.vo a t) ρ=dB (.vo a t) ρ (bz Φ (.vo a t) ρ):=rfl
@[simp]theorem V3(Φ:aT)(ρ:aZ)(a:CE):kr Φ (.km a) ρ=dB (.km a) ρ (bz Φ (.km a) ρ):=rfl
theorem Fd(Φ:aT)(e:CE)(ρ:aZ)(h:isV e=false):kr Φ e ρ=dB e ρ (bz Φ e ρ):=by cases e<;>first|rfl|cases h
@[simp]theorem NX(ρ:aZ):iP [] [] ρ=ok ρ:=rfl
variable {ds:aa}{is:aO}
@[simp]theorem Ks{i:Nat}{d:D}(h:i<ρ.length):iP (i::is) (d::ds) ρ=iP is ds (ρ.set i (some d)):=aaV h
@[simp]theorem S9{i:Nat}{d:D}(h:i<ρ.length):bT (.nm i) d ρ=ok (ρ.set i (some d)):=aaV h
@[simp]theorem S8(h:aQ d_ ds=false):bT (.tp is) (.tup ds) ρ=iP is ds ρ:=ab9 (by rw[h];exact aac)
def NK(i:Nat)(r:O (D×aZ)):O (Fo×aZ):=bd r λr=>bd (bT (.nm i) r.1 r.2) λρ'=>ok (.nx,ρ')
@[simp]theorem zR{i:Nat}{d:D}(h:i<ρ.length):NK i (ok (d,ρ))=ok (.nx,ρ.set i (some d)):=by
 show bd (bT (.nm i) d ρ) _=_;rw[bT,if_pos h];rfl
@[simp]theorem SA(i:Nat)(c:Nat):NK i (some (.error c))=some (.error c):=rfl
def Sz(is:aO)(r:O (D×aZ)):O (Fo×aZ):=bd r λr=>bd (bT (.tp is) r.1 r.2) λρ'=>ok (.nx,ρ')
@[simp]theorem Ut(h:aQ d_ ds=false):Sz is (ok (.tup ds,ρ))=bd (iP is ds ρ) λρ'=>ok (.nx,ρ'):=by
 show bd (bT (.tp is) (.tup ds) ρ) _=_;rw[bT,h];rfl
noncomputable def retS(r:O (D×aZ)):O (Fo×aZ):=bd r λr=>ok (.rt r.1,r.2)
@[simp]theorem Tb(d:D)(ρ:aZ):retS (ok (d,ρ))=ok (.rt d,ρ):=rfl
@[simp]theorem Pz(c:Nat):retS (some (.error c))=some (.error c):=rfl
noncomputable def Xx(ρ:aZ)(x:O D):O (Fo×aZ):=bd x λ_=>ok (.nx,ρ)
@[simp]theorem Xw(ρ:aZ)(d:D):Xx ρ (ok d)=ok (.nx,ρ):=rfl
@[simp]theorem Ud(ρ:aZ)(c:Nat):Xx ρ (some (.error c))=some (.error c):=rfl
noncomputable def qR(Φ:aT)(ss:ag)(r:O (Fo×aZ)):O (Fo×aZ):=bd r λr=>match r with
 | (.nx,ρ')=>bI Φ ss ρ'
 |r=>ok r
@[simp]theorem uB(Φ:aT)(ss:ag)(ρ:aZ):qR Φ ss (ok (.nx,ρ))=bI Φ ss ρ:=rfl
@[simp]theorem O2(Φ:aT)(ss:ag)(d:D)(ρ:aZ):qR Φ ss (ok (.rt d,ρ))=ok (.rt d,ρ):=rfl
@[simp]theorem O4(Φ:aT)(ss:ag)(ρ:aZ):qR Φ ss (ok (.bk,ρ))=ok (.bk,ρ):=rfl
@[simp]theorem O3(Φ:aT)(ss:ag)(ρ:aZ):qR Φ ss (ok (.ct,ρ))=ok (.ct,ρ):=rfl
@[simp]theorem NU(Φ:aT)(ss:ag)(c:Nat):qR Φ ss (some (.error c))=some (.error c):=rfl
noncomputable def Hd(Φ:aT)(a b:ag)(ρ:aZ)(x:O Bool):O (Fo×aZ):=bd x λk=>if k then bI Φ a ρ else bI Φ b ρ
@[simp]theorem LQ(Φ:aT)(a b:ag)(ρ:aZ):Hd Φ a b ρ (ok true)=bI Φ a ρ:=rfl
@[simp]theorem Wb(Φ:aT)(a b:ag)(ρ:aZ):Hd Φ a b ρ (ok false)=bI Φ b ρ:=rfl
@[simp]theorem Qz(Φ:aT)(a b:ag)(ρ:aZ)(c:Nat):Hd Φ a b ρ (some (.error c))=some (.error c):=rfl
def SD(i:Nat)(r:O (D×aZ)):O (Fo×aZ):=bd r λr=>match CL r.2[i]? with
  |some ds=>if ds.length<eH then ok (.nx,r.2.set i (some (.lst .ow (ds++[r.1]))))else none
  |none=>none
@[simp]theorem Uu{i:Nat}{d:D}(h:ρ[i]?=some (some (.lst .ow ds)))(hl:ds.length<eH):SD i (ok (d,ρ))=ok (.nx,ρ.set i (some (.lst .ow (ds++[d])))):=by
 show(match CL ρ[i]? with|some ds=>_|none=>_)=_;rw[h];exact aaV hl
section
variable (Φ:aT)(ρ:aZ)
@[simp]theorem Yp:bI Φ [] ρ=ok (.nx,ρ):=rfl
@[simp]theorem df(s:CS)(ss:ag):bI Φ (s::ss) ρ=qR Φ ss (qG Φ s ρ):=rfl
@[simp]theorem ID(i:Nat)(e:CE):qG Φ (.asg (.nm i) e) ρ=NK i (kr Φ e ρ):=rfl
@[simp]theorem UK(is:aO)(e:CE):qG Φ (.asg (.tp is) e) ρ=Sz is (kr Φ e ρ):=rfl
@[simp]theorem OP(e:CE):qG Φ (.ret e) ρ=retS (kr Φ e ρ):=rfl
theorem qM(c:CE)(b:ag):qG Φ (.IE c b) ρ=fO (λρ=>bd (xM Φ c ρ) λk=>if k then bd (bI Φ b ρ) λr=>match r with
   | (.nx,ρ')=>ok (.inl ρ')
   | (.ct,ρ')=>ok (.inl ρ')
   | (.bk,ρ')=>ok (.inr (.nx,ρ'))
   | (.rt d,ρ')=>ok (.inr (.rt d,ρ'))
  else ok (.inr (.nx,ρ))) ρ:=rfl
theorem OQ(i j:Nat)(a b:CE):qG Φ (.par i j a b) ρ=bd (bz Φ a ρ) λx=>bd (bz Φ b ρ) λy=>if bc anyF x=false/\bc anyF y=false/\i<ρ.length/\j<ρ.length then ok (.nx,(ρ.set i (some x)).set j (some y))else none:=rfl
@[simp]theorem aay(c:Nat):qG Φ (.rs c) ρ=some (.error c):=rfl
@[simp]theorem aaz(e:CE):qG Φ (.ex e) ρ=Xx ρ (bz Φ e ρ):=rfl
@[simp]theorem z_(c:CE)(a b:ag):qG Φ (.ifs c a b) ρ=Hd Φ a b ρ (wJ (bz Φ c ρ)):=rfl
@[simp]theorem Yq(i:Nat)(e:CE):qG Φ (.app i e) ρ=SD i (kr Φ e ρ):=rfl
end
noncomputable def mk(Φ:aT)(ar n:Nat)(b:ag):aw:=λds=>if ds.length=ar then sI Φ n b ds else none
noncomputable def pM(r:O (Fo×aZ)):O D:=bd r λr=>match r.1 with
 |.nx=>ok .bV
 |.rt d=>ok d
 |_=>none
@[simp]theorem Ug(ρ:aZ):pM (ok (.nx,ρ))=ok .bV:=rfl
@[simp]theorem Ue(d:D)(ρ:aZ):pM (ok (.rt d,ρ))=ok d:=rfl
@[simp]theorem Sb(c:Nat):pM (some (.error c))=some (.error c):=rfl
variable {B M W ar:Nat}{Φ:aT}
theorem mk_eq{n:Nat}{b:ag}(h:ds.length=ar):mk Φ ar n b ds=pM (bI Φ b (ds.map some++List.replicate (n - ds.length) none)):=aaV h
theorem xi{n:Nat}{b:ag}(ds:aa)(r:D)(h:mk Φ ar n b ds=ok r):ds.length=ar/\sI Φ n b ds=ok r:=by
 unfold mk at h;split at h
 ·rename_i hl;exact⟨hl,h⟩
 ·cases h
theorem Int.beq_eq_decide_eq(i j:Int):(i==j)=decide (i=j):=rfl
section
variable (g:Fl->Fl)(p:Fl->Bool)
@[simp]theorem G6(b:Bool):aS g (.bl b)=.bl b:=rfl
@[simp]theorem C8(b:Int):aS g (.int b)=.int b:=rfl
@[simp]theorem Qj:aS g .bV=.bV:=rfl
@[simp]theorem C7(ds:aa):aS g (.tup ds)=.tup (aF g ds):=rfl
@[simp]theorem Qk(f:Fl)(ds:aa):aS g (.lst f ds)=.lst (g f) (aF g ds):=rfl
@[simp]theorem Ql(f:Fl)(ks:aA)(vs:aa):aS g (.cO f ks vs)=.cO (g f) ks (aF g vs):=rfl
@[simp]theorem N3:aF g []=[]:=rfl
@[simp]theorem Lu(d:D)(ds:aa):aF g (d::ds)=aS g d::aF g ds:=rfl
@[simp]theorem N5(a b:aa):aF g (a++b)=aF g a++aF g b:=by simp only[aX,List.map_append]
@[simp]theorem N4(ds:aa):(aF g ds).length=ds.length:=by rw[aX,List.length_map]
theorem du{α:Type}{e:α->D}(h:∀x,aS g (e x)=e x)(xs:List α):aF g (xs.map e)=xs.map e:=by
 rw[aX,List.map_map];exact aaj λx _=>h x
theorem cL{α:Type}{e:α->D}(h:∀x,bc p (e x)=false):∀xs:List α,aQ p (xs.map e)=false
 |[]=>by rw[List.map_nil,aQ]
 |x::xs=>by rw[List.map_cons,aQ,h x,cL h xs];rfl
@[simp]theorem Hu(b:Bool):bc p (.bl b)=false:=ab8 rfl
@[simp]theorem pv(b:Int):bc p (.int b)=false:=ab8 rfl
@[simp]theorem Ru:bc p .bV=false:=ab8 rfl
@[simp]theorem DN(ds:aa):bc p (.tup ds)=aQ p ds:=ab8 rfl
@[simp]theorem DP(f:Fl)(ds:aa):bc p (.lst f ds)=(p f||aQ p ds):=ab8 rfl
@[simp]theorem Rv(f:Fl)(ks:aA)(vs:aa):bc p (.cO f ks vs)=(p f||aQ p vs):=ab8 rfl
@[simp]theorem Ot:aQ p []=false:=ab8 rfl
@[simp]theorem Mt(d:D)(ds:aa):aQ p (d::ds)=(bc p d||aQ p ds):=ab8 rfl
@[simp]theorem AR:∀a b:aa,aQ p (a++b)=(aQ p a||aQ p b)
 |[],b=>by simp
 |d::a,b=>by simp[AR a b,Bool.or_assoc]
@[simp]theorem xl(ns:ae):aF g (ns.map D.int)=ns.map D.int:=du g (C8 g) ns
@[simp]theorem xF(ns:ae):aQ p (ns.map D.int)=false:=cL p (pv p) ns
@[simp]theorem AA(ns:List Bool):aF g (ns.map D.bl)=ns.map D.bl:=du g (G6 g) ns
@[simp]theorem AQ(ns:List Bool):aQ p (ns.map D.bl)=false:=cL p (Hu p) ns
@[simp]theorem N7(t:Ty)(d:D):eD t (aS g d)=eD t d:=by cases d<;>cases t<;>rfl
end
@[simp]theorem MP:bE .ow=.al:=rfl
@[simp]theorem MQ:bE .fz=.fz:=rfl
@[simp]theorem MR:bE .al=.al:=rfl
@[simp]theorem MO:bE .sc=.sc:=rfl
@[simp]theorem ML:aW .ow=.fz:=rfl
@[simp]theorem MM:aW .fz=.fz:=rfl
@[simp]theorem MN:aW .al=.fz:=rfl
@[simp]theorem MK:aW .sc=.sc:=rfl
@[simp]theorem M5:iy .ow=.ow:=rfl
@[simp]theorem M6:iy .fz=.al:=rfl
@[simp]theorem M7:iy .al=.al:=rfl
@[simp]theorem M4:iy .sc=.sc:=rfl
@[simp]theorem M0:bZ .ow=false:=rfl
@[simp]theorem M1:bZ .fz=false:=rfl
@[simp]theorem M3:bZ .al=true:=rfl
@[simp]theorem MZ:bZ .sc=false:=rfl
@[simp]theorem MW:d_ .ow=true:=rfl
@[simp]theorem MX:d_ .fz=false:=rfl
@[simp]theorem MY:d_ .al=false:=rfl
@[simp]theorem MV:d_ .sc=false:=rfl
@[simp]theorem MS:He .ow=false:=rfl
@[simp]theorem MT:He .fz=false:=rfl
@[simp]theorem MU:He .al=false:=rfl
noncomputable def ah(ns:ae):aa:=ns.map D.int
noncomputable def lr(ns:List Bool):aa:=ns.map D.bl
@[simp]theorem Oa(ns:ae):(ah ns).length=ns.length:=abd ..
@[simp]theorem Ss(ns:List Bool):(lr ns).length=ns.length:=abd ..
@[simp]theorem N_:ah []=[]:=rfl
@[simp]theorem L4(n:Int)(ns:ae):ah (n::ns)=.int n::ah ns:=rfl
@[simp]theorem L3(ns:ae)(n:Int):ah ns++[.int n]=ah (ns++[n]):=by simp[ah]
@[simp]theorem rG(ns:ae)(i:Nat):(ah ns)[i]?=ns[i]?.map D.int:=List.getElem?_map ..
@[simp]theorem gw(g:Fl->Fl)(ns:ae):aF g (ah ns)=ah ns:=xl g ns
@[simp]theorem vE(p:Fl->Bool)(ns:ae):aQ p (ah ns)=false:=xF p ns
@[simp]theorem Lv(g:Fl->Fl)(ns:List Bool):aF g (lr ns)=lr ns:=AA g ns
@[simp]theorem Mu(p:Fl->Bool)(ns:List Bool):aQ p (lr ns)=false:=AQ p ns
@[simp]theorem aaa(i j:Int):cQ .add (.int i) (.int j)=ok (.int (i+j)):=rfl
@[simp]theorem Z_(i j:Int):cQ .sub (.int i) (.int j)=ok (.int (i - j)):=rfl
theorem kc{i j:Int}(h:iQ i j=true):cQ .mul (.int i) (.int j)=ok (.int (i*j)):=aaV h
theorem mq{i j:Int}(h:rR j=true):cQ .fdiv (.int i) (.int j)=ok (.int (i.fdiv j)):=aaV h
@[simp]theorem zN{i j:Int}(h:j≠0):cQ .mod (.int i) (.int j)=ok (.int (i.fmod j)):=aaV h
@[simp]theorem JO{i j:Int}(h:0<=j):cQ .shr (.int i) (.int j)=ok (.int (i / 2 ^ j.toNat)):=aaV h
theorem Sw{i j:Int}(h:kY i j=true):cQ .shl (.int i) (.int j)=ok (.int (i*2 ^ j.toNat)):=aaV h
theorem JP{i j:Int}(h:kY i j=true):cQ .pow (.int i) (.int j)=ok (.int (i ^ j.toNat)):=aaV h
@[simp]theorem YZ(i:Int):GZ (.int i)=ok (.int (-i)):=rfl
theorem mulOk_of{i j:Int}(h:i.natAbs<2 ^ 9000)(h':j.natAbs<2 ^ 9000):iQ i j=true:=by
 simp only[iQ,big,h,h',decide_true,Bool.and_self,Bool.or_true]
theorem l6{n:Nat}(h:n<2 ^ 64):n<2 ^ 9000:=aal h (aat (by decide) (by decide))
theorem sY{i:Int}(j:Int)(h:i.natAbs<2 ^ 64):iQ i j=true:=by simp only[iQ,h,decide_true,Bool.true_or]
theorem G1{j:Int}(i:Int)(h:j.natAbs<2 ^ 64):iQ i j=true:=by simp only[iQ,h,decide_true,Bool.true_or,Bool.or_true]
theorem hV{j:Int}(h0:j≠0)(h:j.natAbs<2 ^ 9000):rR j=true:=by
 simp only[rR,big,h,decide_true,Bool.and_true,decide_eq_true_eq];exact h0
@[simp]theorem Ur{i j:Int}(h:j.natAbs<2 ^ 64):cQ .mul (.int i) (.int j)=ok (.int (i*j)):=kc (G1 i h)
@[simp]theorem Us{i j:Int}(h:i.natAbs<2 ^ 64):cQ .mul (.int i) (.int j)=ok (.int (i*j)):=kc (sY j h)
@[simp]theorem Sy{i j:Int}(h0:j≠0)(h:j.natAbs<2 ^ 64):cQ .fdiv (.int i) (.int j)=ok (.int (i.fdiv j)):=mq (hV h0 (l6 h))
theorem x9{a b:D}(ha:dA 40 a=true)(hb:dA 40 b=true):ez .eq a b=ok (.bl (iU a b)):=by
 show(if dA 40 a&&dA 40 b then _ else _)=_;rw[ha,hb];rfl
theorem Sr{a b:D}(ha:dA 40 a=true)(hb:dA 40 b=true):ez .ne a b=ok (.bl (!iU a b)):=by
 show(if dA 40 a&&dA 40 b then _ else _)=_;rw[ha,hb];rfl
@[simp]theorem gm(n:Nat)(i:Int):dA n (.int i)=true:=by cases n<;>rfl
@[simp]theorem VU(n:Nat)(i:Bool):dA n (.bl i)=true:=by cases n<;>rfl
@[simp]theorem Tu(n:Nat):dA n .bV=true:=by cases n<;>rfl
@[simp]theorem GV(n:Nat)(ds:aa):dA (n+1) (.tup ds)=ds.all (dA n):=rfl
@[simp]theorem Tt(n:Nat)(f:Fl)(ds:aa):dA (n+1) (.lst f ds)=ds.all (dA n):=rfl
@[simp]theorem VG(i j:Int):ez .eq (.int i) (.int j)=ok (.bl (decide (i=j))):=by rw[x9 (gm _ _) (gm _ _)];show ok (D.bl (i==j))=_;rw[Int.beq_eq_decide_eq]
@[simp]theorem VF(i j:Int):ez .ne (.int i) (.int j)=ok (.bl (!decide (i=j))):=by rw[Sr (gm _ _) (gm _ _)];show ok (D.bl (!(i==j)))=_;rw[Int.beq_eq_decide_eq]
@[simp]theorem abj(i j:Int):ez .lt (.int i) (.int j)=ok (.bl (decide (i<j))):=rfl
@[simp]theorem abk(i j:Int):ez .le (.int i) (.int j)=ok (.bl (decide (i<=j))):=rfl
@[simp]theorem abl(i j:Int):ez .gt (.int i) (.int j)=ok (.bl (decide (j<i))):=rfl
@[simp]theorem abm(i j:Int):ez .ge (.int i) (.int j)=ok (.bl (decide (j<=i))):=rfl
@[simp]theorem Zh(ds:aa)(i:Int):vm (.tup ds) (.int i)=v9 ds i:=rfl
@[simp]theorem Zi(f:Fl)(ds:aa)(i:Int):vm (.lst f ds) (.int i)=v9 ds i:=rfl
theorem ue{n:Nat}{d:D}(h:ds[n]?=some d):v9 ds (n:Int)=ok (aS bE d):=by
 have hn:n<ds.length:=(List.getElem?_eq_some_iff.mp h).1;have e:Bl ds.length (n:Int)=some n:=by unfold Bl;rw[if_pos (by left),if_pos (by left)];rfl
 unfold v9;rw[e,Option.bind_some,h]
theorem at_of{i:Int}{d:D}(h0:0<=i)(h:ds[i.toNat]?=some d):v9 ds i=ok (aS bE d):=by
 have:=ue h
 rwa [show((i.toNat:Nat):Int)=i by left]at this
@[simp]theorem ady(d:D)(ds:aa):v9 (d::ds) 0=ok (aS bE d):=ue (n:=0) rfl
@[simp]theorem adx(a d:D)(ds:aa):v9 (a::d::ds) 1=ok (aS bE d):=ue (n:=1) rfl
@[simp]theorem adw(a b d:D)(ds:aa):v9 (a::b::d::ds) 2=ok (aS bE d):=ue (n:=2) rfl
@[simp]theorem Ub(ds:aa):pY .len [.tup ds]=ok (.int ds.length):=rfl
@[simp]theorem Uc(f:Fl)(ds:aa):pY .len [.lst f ds]=ok (.int ds.length):=rfl
@[simp]theorem ZT(i:Int):pY .abs [.int i]=ok (.int i.natAbs):=by
 show ok (D.int (if i<0 then -i else i))=_;congr 2;split<;>left
@[simp]theorem R7(f:Fl)(ds:aa):pY .list1 [.lst f ds]=ok (.lst .ow (aF bE ds)):=rfl
@[simp]theorem R6(ds:aa):pY .list1 [.tup ds]=ok (.lst .ow (aF bE ds)):=rfl
@[simp]theorem Ua(f:Fl)(ds:aa):pY .tuple1 [.lst f ds]=ok (.tup (aF bE ds)):=rfl
@[simp]theorem T_(ds:aa):pY .tuple1 [.tup ds]=ok (.tup (aF bE ds)):=rfl
@[simp]theorem ZR(f:Fl)(ns:ae):pY .j4 [.lst f (ah ns)]=ok (.int ns.sum):=by
 show(match intsOf (ns.map D.int)with|some ns=>_|none=>_)=_;rw[bx]
@[simp]theorem ZS(f:Fl)(bs:List Bool):pY .all1 [.lst f (lr bs)]=ok (.bl (bs.all id)):=by
 show(match jt (bs.map D.bl)with|some ns=>_|none=>_)=_;rw[mm]
variable {lot ns:ae}
@[simp]theorem HD(h:ns.length<64):pY .ip [.tup (ah ns)]=ok (.lst .ow (ah (sortI ns))):=by
 show qV _=_;unfold qV ah;rw[bx];exact aaV h
@[simp]theorem M8(h:ns.length<4000):yW (.tup (ah ns))=ok (.int (i5 ns).length):=by
 show(match intsOf (ns.map D.int)with|some ns=>_|none=>_)=_;rw[bx];exact aaV h
@[simp]theorem nV(i j:Int):iU (.int i) (.int j)=decide (i=j):=by show(i==j)=_;rw[Int.beq_eq_decide_eq]
@[simp]theorem XE(i j:Bool):iU (.bl i) (.bl j)=(i==j):=rfl
@[simp]theorem HI(a b:aa):iU (.tup a) (.tup b)=e_ a b:=rfl
@[simp]theorem HJ(f g:Fl)(a b:aa):iU (.lst f a) (.lst g b)=e_ a b:=rfl
@[simp]theorem D9:e_ [] []=true:=rfl
@[simp]theorem md(a b:D)(as bs:aa):e_ (a::as) (b::bs)=(iU a b&&e_ as bs):=rfl
theorem pJ:∀{as bs:aa},e_ as bs=true->as.length=bs.length
 |[],[],_=>rfl
 |[],_::_,h=>(aac h).elim
 |_::_,[],h=>(aac h).elim
 |a::as,b::bs,h=>by
  replace h:(_&&_)=true:=h;rw[Bool.and_eq_true]at h;rw[List.length_cons,List.length_cons,pJ h.2]
theorem pL{α:Type}{e:α->D}[DecidableEq α](h:∀x y,iU (e x) (e y)=decide (x=y)):∀xs ys:List α,e_ (xs.map e) (ys.map e)=decide (xs=ys)
 |[],[]=>by simp
 |[],y::ys=>by
  cases z:e_ ([].map e) ((y::ys).map e)with
  |true=>have:=pJ z;simp at this
  |false=>simp
 |x::xs,[]=>by
  cases z:e_ ((x::xs).map e) ([].map e)with
  |true=>have:=pJ z;simp at this
  |false=>simp
 |x::xs,y::ys=>by
  rw[List.map_cons,List.map_cons,md,h,pL h xs ys];by_cases e1:x=y<;>by_cases e2:xs=ys<;>simp[e1,e2]
theorem sU{α:Type}{e:α->D}{n:Nat}(h:∀x,dA n (e x)=true)(xs:List α):(xs.map e).all (dA n)=true:=by
 rw[List.all_map];exact List.all_eq_true.mpr λx _=>h x
theorem bG{bind:D->O aZ}{test:aZ->O Bool}{el:aZ->O D}{α:Type}{e:α->D}{g:α->D}:∀{xs:List α},(∀x∈xs,∃ρ,bind (e x)=ok ρ/\test ρ=ok true/\el ρ=ok (g x))->iV bind test el (xs.map e)=ok (xs.map g)
 |[],_=>rfl
 |x::xs,h=>by
  obtain⟨ρ,h1,h2,h3⟩:=h x (aai ..);have ih:=bG (xs:=xs) λy hy=>h y (aae _ hy);rw[List.map_cons,iV,h1,dG,h2,dG,if_pos rfl,h3,dG,ih];rfl
theorem fb{bind:D->O aZ}{test:aZ->O Bool}{el:aZ->O D}{α:Type}{e:α->D}{g:α->D}{t:α->Bool}:∀{xs:List α},(∀x∈xs,∃ρ,bind (e x)=ok ρ/\test ρ=ok (t x)/\(t x=true->el ρ=ok (g x)))->iV bind test el (xs.map e)=ok ((xs.filter t).map g)
 |[],_=>rfl
 |x::xs,h=>by
  obtain⟨ρ,h1,h2,h3⟩:=h x (aai ..);have ih:=fb (xs:=xs) λy hy=>h y (aae _ hy);rw[List.map_cons,iV,h1,dG,h2,dG,List.filter_cons];cases ht:t x with
  |true=>rw[if_pos rfl,h3 ht,dG,ih,if_pos rfl];rfl
  |false=>rw[if_neg Bool.false_ne_true,ih,if_neg Bool.false_ne_true]
section
variable {Φ:aT}{n:Nat}{t:Tg}{caps:aO}{ik:IK}{es bO:aD}{elt:CE}{ρ:aZ}{xs items ds:aa}
theorem bW(h1:cf Φ es ρ=ok xs)(h2:eL Φ ik xs=ok items)
  (h3:iV (λd=>bT t d (bw n caps ρ)) (λρ'=>iT Φ bO ρ') (λρ'=>bz Φ elt ρ') items=ok ds) (hl:ds.length<=eH):bz Φ (.comp n t caps ik es bO elt) ρ=ok (.lst .ow (aF iy ds)):=by
 show bd (cf Φ es ρ) _=_;rw[h1,dG,h2,dG,h3,dG,if_pos hl]
end
theorem tu(Φ:aT)(ds:aa):eL Φ .seq [.tup ds]=ok (aF aW ds):=rfl
theorem c_(Φ:aT)(f:Fl)(ds:aa):eL Φ .seq [.lst f ds]=ok (aF aW ds):=rfl
theorem jO(Φ:aT){n:Int}(h0:0<=n)(h:n<=1000000):eL Φ .jK [.int n]=ok ((List.range n.toNat).map λ(k:Nat)=>D.int (k:Int)):=by
 show(if n<=(eH:Int) /\ -(eH:Int)<=n then _ else _)=_;have:(eH:Int)=1000000:=rfl;rw[if_pos (by left)]
theorem bD{n:Nat}(h:n<=1000000):n<=eH:=h
theorem dQ{t:Tg}{it:CI}{b:ag}{items:aa}{r:O (Fo×aZ)}(h:cc Φ it ρ=ok (items,ρ1))(h':dJ (λd ρ=>bT t d ρ) (λρ=>bI Φ b ρ) items ρ1=r):qG Φ (.fr t it b) ρ=r:=by
 show bd (cc Φ it ρ) _=_;rw[h];exact h'
theorem eh(bind:D->aZ->O aZ)(body:aZ->O (Fo×aZ))(ρ:aZ):dJ bind body [] ρ=ok (.nx,ρ):=rfl
theorem cN{bind:D->aZ->O aZ}{body:aZ->O (Fo×aZ)}{x:D}{xs:aa}{ρ2:aZ}{r:O (Fo×aZ)}(h1:bind x ρ=ok ρ1)(h2:body ρ1=ok (.nx,ρ2))(h3:dJ bind body xs ρ2=r):dJ bind body (x::xs) ρ=r:=by
 rw[dJ,h1,dG,h2];exact h3
theorem AE{a:CE}{n:Int}(h:bz Φ a ρ=ok (.int n))(h0:0<=n)(h1:n<=1000000):cc Φ (.jK a) ρ=ok ((List.range n.toNat).map λ(k:Nat)=>D.int (k:Int),ρ):=by
 show bd (bz Φ a ρ) _=_;rw[h];show(if n<=(eH:Int) /\ -(eH:Int)<=n then _ else _)=_;have:(eH:Int)=1000000:=rfl;rw[if_pos (by left)]
theorem QC{a:CE}(h:bz Φ a ρ=ok (.tup ds)):cc Φ (.seq a) ρ=ok (aF aW ds,if aQ bZ ds then qF (i7 a) 0 ρ else ρ):=by
 show bd (bz Φ a ρ) _=_;rw[h,<- xH];show ok (_,if bc bZ (.tup ds)then _ else _)=_;rw[DN]
theorem qB{a:CE}{f:Fl}(h:bz Φ a ρ=ok (.lst f ds)):cc Φ (.seq a) ρ=ok (aF aW ds,if (bZ f||aQ bZ ds)then qF (i7 a) 0 ρ else ρ):=by
 show bd (bz Φ a ρ) _=_;rw[h,<- xH];show ok (_,if bc bZ (.lst f ds)then _ else _)=_;rw[DP]
noncomputable def fY(t b:Int):Int:=if b<0 then -(Int.gcd t b:Int)else(Int.gcd t b:Int)
def Ln(t b:Int):Int:=t.fdiv (fY t b)
def Lo(t b:Int):Int:=b.fdiv (fY t b)
theorem zf{t b:Int}(h:b≠0):0<Int.gcd t b:=Int.gcd_pos_of_ne_zero_right t h
theorem kz{t b:Int}(h:b≠0):fY t b≠0:=by
 have:=zf (t:=t) h;unfold fY;split<;>left
theorem ME{t b:Int}(h:b≠0):Int.gcd t b<=b.natAbs:=abn (by left) (Nat.gcd_dvd_right _ _)
theorem HV{t b:Int}(h:b≠0):(fY t b).natAbs<=b.natAbs:=by
 have:=ME (t:=t) h;unfold fY;split<;>left
theorem oY{t b:Int}(h:b≠0):∃t' b':Int,t=fY t b*t'/\b=fY t b*b'/\Ln t b=t'/\Lo t b=b'/\1<=b'/\Int.gcd t' b'=1:=by
 have hg:=zf (t:=t) h;obtain⟨t1,ht⟩:(Int.gcd t b:Int)∣t:=Int.gcd_dvd_left ..;obtain⟨b1,hb⟩:(Int.gcd t b:Int)∣b:=Int.gcd_dvd_right ..;have hc:Int.gcd t1 b1=1:=by
  have e:Int.gcd ((Int.gcd t b:Int)*t1) ((Int.gcd t b:Int)*b1)=Int.gcd t b*Int.gcd t1 b1:=by
   rw[Int.gcd_mul_left];simp
  rw[<- ht,<- hb]at e;have:Int.gcd t b*1=Int.gcd t b*Int.gcd t1 b1:=by rw[Nat.mul_one];exact e
  exact(Nat.eq_of_mul_eq_mul_left hg this).symm
 by_cases hn:b<0
 ·have ed:fY t b = -(Int.gcd t b:Int):=by simp[fY,hn]
  have e1:t=fY t b*(-t1):=by rw[ed,Int.neg_mul_neg];exact ht
  have e2:b=fY t b*(-b1):=by rw[ed,Int.neg_mul_neg];exact hb
  refine⟨-t1,-b1,e1,e2,?_,?_,?_,by rw[Int.gcd_neg,Int.neg_gcd];exact hc⟩
  ·unfold Ln
   conv=>lhs;arg 1;rw[e1]
   exact aa8 _ (kz h)
  ·unfold Lo
   conv=>lhs;arg 1;rw[e2]
   exact aa8 _ (kz h)
  ·have:b1<0:=by
    by_cases WW:b1<0
    ·exact WW
    ·have:0<=(Int.gcd t b:Int)*b1:=Int.mul_nonneg (by left) (by left);left
   left
 ·have ed:fY t b=(Int.gcd t b:Int):=by simp[fY,hn]
  have e1:t=fY t b*t1:=by rw[ed];exact ht
  have e2:b=fY t b*b1:=by rw[ed];exact hb
  refine⟨t1,b1,e1,e2,?_,?_,?_,hc⟩
  ·unfold Ln
   conv=>lhs;arg 1;rw[e1]
   exact aa8 _ (kz h)
  ·unfold Lo
   conv=>lhs;arg 1;rw[e2]
   exact aa8 _ (kz h)
  ·have:0<b1:=by
    by_cases WW:0<b1
    ·exact WW
    ·have:(Int.gcd t b:Int)*b1<=0:=Int.mul_nonpos_of_nonneg_of_nonpos (by left) (by left);left
   left
noncomputable def qD(q:Rat):D:=.tup [.int q.num,.int q.den]
@[simp]theorem Ly(g:Fl->Fl)(q:Rat):aS g (qD q)=qD q:=by unfold qD;simp
@[simp]theorem Mw(g:Fl->Bool)(q:Rat):bc g (qD q)=false:=by unfold qD;simp
noncomputable def a_(qs:az):aa:=qs.map qD
@[simp]theorem Tf(qs:az):(a_ qs).length=qs.length:=abd ..
@[simp]theorem Te:a_ []=[]:=rfl
@[simp]theorem PJ(q:Rat)(qs:az):a_ (q::qs)=qD q::a_ qs:=rfl
@[simp]theorem PH(qs:az)(q:Rat):a_ qs++[qD q]=a_ (qs++[q]):=by simp[a_]
@[simp]theorem Gz(qs:az)(i:Nat):(a_ qs)[i]?=qs[i]?.map qD:=List.getElem?_map ..
@[simp]theorem Td(qs:az)(i:Nat)(q:Rat):(a_ qs).set i (qD q)=a_ (qs.set i q):=by unfold a_;rw[List.map_set]
@[simp]theorem o6(g:Fl->Fl)(qs:az):aF g (a_ qs)=a_ qs:=du g (Ly g) qs
@[simp]theorem Rt(g:Fl->Bool)(qs:az):aQ g (a_ qs)=false:=cL g (Mw g) qs
theorem rn(n:Nat)(q:Rat):dA (n+1) (qD q)=true:=by
 unfold qD;rw[GV,List.all_cons,List.all_cons,gm,gm];rfl
theorem D_(p q:Rat):iU (qD p) (qD q)=decide (p=q):=by
 unfold qD;rw[HI,md,md,D9,nV,nV,Bool.and_true];by_cases h:p=q
 ·subst h;simp
 ·rw[decide_eq_false h];cases e1:decide (p.num=q.num)with
  |false=>rfl
  |true =>
   cases e2:decide ((p.den:Int)=(q.den:Int))with
   |false=>rfl
   |true =>
    refine absurd (Rat.ext (by simpa using e1) ?_) h;have:(p.den:Int)=q.den:=by simpa using e2
    left
@[simp]theorem Zb(q:Rat):vm (qD q) (.int 0)=ok (.int q.num):=by unfold qD;simp
@[simp]theorem Za(q:Rat):vm (qD q) (.int 1)=ok (.int q.den):=by unfold qD;simp
theorem tJ{t b:Int}(hb:b≠0):t.fdiv (fY t b)=(Rat.divInt t b).num/\b.fdiv (fY t b)=((Rat.divInt t b).den:Int):=by
 obtain⟨t',b',e1,e2,h1,h2,h3,h4⟩:=oY (t:=t) hb;have hd:=kz (t:=t) hb;have e:Rat.divInt t b=Rat.divInt t' b':=by
  generalize fY t b=d at *;rw[e1,e2];exact Rat.divInt_mul_left hd
 obtain⟨n,rfl⟩:∃n:Nat,b'=(n:Int):=⟨b'.toNat,by left⟩
 have hc:t'.natAbs.Coprime n:=by
  have:Nat.gcd t'.natAbs n=1:=by simpa [Int.gcd]using h4
  exact this
 have hn:n≠0:=by left
 have e3:Rat.divInt t' (n:Int)=⟨t',n,hn,hc⟩:=Rat.mk_eq_divInt.symm;rw[e,e3];exact⟨h1,h2⟩
theorem j5(q:Rat):(q.den:Int)≠0:=by have:=q.den_pos;left
theorem PK(q:Rat):(1:Int)<=q.den:=by have:=q.den_pos;left
theorem fR(q:Rat):Rat.divInt q.num q.den=q:=Rat.num_divInt_den q
theorem kX{t b:Int}(hb:b≠0):(Rat.divInt t b).num.natAbs<=t.natAbs/\(Rat.divInt t b).den<=b.natAbs:=by
 obtain⟨t',b',e1,e2,h1,h2,h3,h4⟩:=oY (t:=t) hb;obtain⟨g1,g2⟩:=tJ (t:=t) hb;have hd:1<=(fY t b).natAbs:=by have:=kz (t:=t) hb;left
 rw[show t.fdiv (fY t b)=t' from h1]at g1;rw[show b.fdiv (fY t b)=b' from h2]at g2;refine⟨?_,?_⟩
 ·rw[<- g1];have:t.natAbs=(fY t b).natAbs*t'.natAbs:=by rw[<- Int.natAbs_mul,<- e1]
  rw[this];exact abg _ hd
 ·have hz:(Rat.divInt t b).den=b'.natAbs:=by left
  rw[hz];have:b.natAbs=(fY t b).natAbs*b'.natAbs:=by rw[<- Int.natAbs_mul,<- e2]
  rw[this];exact abg _ hd
theorem Jc(p q:Rat):p+q=Rat.divInt (p.num*q.den+q.num*p.den) (p.den*q.den):=by
 conv=>lhs;rw[<- fR p,<- fR q]
 exact Rat.divInt_add_divInt _ _ (j5 p) (j5 q)
theorem I_(p q:Rat):p - q=Rat.divInt (p.num*q.den - q.num*p.den) (p.den*q.den):=by
 conv=>lhs;rw[<- fR p,<- fR q]
 exact Rat.divInt_sub_divInt _ _ (j5 p) (j5 q)
theorem Ja(p q:Rat):p*q=Rat.divInt (p.num*q.num) (p.den*q.den):=by
 conv=>lhs;rw[<- fR p,<- fR q]
 exact Rat.divInt_mul_divInt _ _
theorem Jb(p q:Rat):p / q=Rat.divInt (p.num*q.den) (p.den*q.num):=by
 rw[Rat.div_def]
 conv=>lhs;rw[<- fR p,<- fR q,Rat.inv_divInt]
 exact Rat.divInt_mul_divInt _ _
def Sm(k:Nat)(q:Rat):Prop:=q.num.natAbs<2 ^ k/\q.den<2 ^ k
theorem Sm.mono{k l:Nat}{q:Rat}(h:Sm k q)(hl:k<=l):Sm l q :=
 ⟨aal h.1 (aat (by decide) hl),aal h.2 (aat (by decide) hl)⟩
theorem bF{a b k l:Nat}(h:a<2 ^ k)(h':b<2 ^ l):a*b<2 ^ (k+l):=by
 rw[Nat.pow_add];exact Nat.mul_lt_mul'' h h'
theorem Iv(a b:Int):(a+b).natAbs<=a.natAbs+b.natAbs:=by left
theorem Iu(a b:Int):(a - b).natAbs<=a.natAbs+b.natAbs:=by left
section
variable {k l:Nat}{p q:Rat}
theorem Sm.den(h:Sm k p)(h':Sm l q):((p.den:Int)*q.den).natAbs<2 ^ (k+l):=by
 rw[Int.natAbs_mul];exact bF (by simpa using h.2) (by simpa using h'.2)
theorem Sm.add(h:Sm k p)(h':Sm l q):Sm (k+l+1) (p+q):=by
 have hb:(p.den:Int)*q.den≠0:=abe (j5 p) (j5 q);obtain⟨g1,g2⟩:=kX (t:=p.num*q.den+q.num*p.den) hb;rw[<- Jc]at g1 g2;have n1:(p.num*q.den).natAbs<2 ^ (k+l):=by rw[Int.natAbs_mul];exact bF h.1 (by simpa using h'.2)
 have n2:(q.num*p.den).natAbs<2 ^ (k+l):=by rw[Int.natAbs_mul,Nat.add_comm];exact bF h'.1 (by simpa using h.2)
 have:=Iv (p.num*q.den) (q.num*p.den);have e:2 ^ (k+l+1)=2 ^ (k+l)*2:=Nat.pow_succ ..;have d:=h.den h';exact⟨by left,by left⟩
theorem Sm.sub(h:Sm k p)(h':Sm l q):Sm (k+l+1) (p - q):=by
 have hb:(p.den:Int)*q.den≠0:=abe (j5 p) (j5 q);obtain⟨g1,g2⟩:=kX (t:=p.num*q.den - q.num*p.den) hb;rw[<- I_]at g1 g2;have n1:(p.num*q.den).natAbs<2 ^ (k+l):=by rw[Int.natAbs_mul];exact bF h.1 (by simpa using h'.2)
 have n2:(q.num*p.den).natAbs<2 ^ (k+l):=by rw[Int.natAbs_mul,Nat.add_comm];exact bF h'.1 (by simpa using h.2)
 have:=Iu (p.num*q.den) (q.num*p.den);have e:2 ^ (k+l+1)=2 ^ (k+l)*2:=Nat.pow_succ ..;have d:=h.den h';exact⟨by left,by left⟩
theorem Sm.mul(h:Sm k p)(h':Sm l q):Sm (k+l) (p*q):=by
 have hb:(p.den:Int)*q.den≠0:=abe (j5 p) (j5 q);obtain⟨g1,g2⟩:=kX (t:=p.num*q.num) hb;rw[<- Ja]at g1 g2;have n1:(p.num*q.num).natAbs<2 ^ (k+l):=by rw[Int.natAbs_mul];exact bF h.1 h'.1
 have d:=h.den h';exact⟨by left,by left⟩
theorem Ck(h:q≠0):q.num≠0:=λz=>h (by rw[<- fR q,z];simp)
theorem Sm.div(h:Sm k p)(h':Sm l q)(hq:q≠0):Sm (k+l) (p / q):=by
 have hb:(p.den:Int)*q.num≠0:=abe (j5 p) (Ck hq);obtain⟨g1,g2⟩:=kX (t:=p.num*q.den) hb;rw[<- Jb]at g1 g2;have n1:(p.num*q.den).natAbs<2 ^ (k+l):=by rw[Int.natAbs_mul];exact bF h.1 (by simpa using h'.2)
 have d:((p.den:Int)*q.num).natAbs<2 ^ (k+l):=by rw[Int.natAbs_mul];exact bF (by simpa using h.2) h'.1
 exact⟨by left,by left⟩
theorem Sm.big(h:Sm k p)(hk:k<=9000):p.num.natAbs<2 ^ 9000/\(p.den:Int).natAbs<2 ^ 9000:=by
 have:=h.mono hk;exact⟨this.1,by simpa using this.2⟩
end
theorem lO{t b:Int}{k:Nat}(hb:b≠0)(h1:t.natAbs<2 ^ k)(h2:b.natAbs<2 ^ k):Sm k (Rat.divInt t b):=by
 obtain⟨g1,g2⟩:=kX (t:=t) hb;exact⟨by left,by left⟩
def d8(d:D):Bool:=eD .int d&&!eD .bool d
def eO(m:aw):Prop:=∀d,m [d]=ok (.bl (d8 d))
noncomputable def iB:ag:=[.ret (.and [(.vo (.v 0) .int),(.not (.vo (.v 0) .bool))])]
theorem wX(Φ:aT):eO (mk Φ 1 1 iB):=by
 intro d;simp[mk_eq,iB,d8]
theorem pE(a:Int){b:Int}(h:b≠0):(a.fmod b).natAbs<b.natAbs:=by
 rcases Int.lt_or_gt_of_ne h with hb|hb
 ·have e:=Int.neg_fmod_neg a b;have h1:=abJ (-a) (show 0 < -b by left);have h2:=acb (-a) (show 0 < -b by left);left
 ·have h1:=abJ a hb;have h2:=acb a hb;left
theorem DW(a b:Int):Int.gcd b (a.fmod b)=Int.gcd a b:=by
 rw[Int.fmod_def,Int.gcd_sub_mul_left_right,Int.gcd_comm]
def bH(m:aw):Prop:=∀a b:Int,m [.int a,.int b]=ok (.int (Int.gcd a b))
noncomputable def By:CS:=.IE (.cmp .ne (.v 1) (.int 0)) [.asg (.nm 2) (.bin .mod (.v 0) (.v 1)),.asg (.nm 0) (.v 1),.asg (.nm 1) (.v 2)]
def dw:ag:=[By,.ret (.bf .abs [(.v 0)])]
theorem Ii(Φ:aT):∀(n:Nat) (a b:Int) (r:aG),b.natAbs<=n->∃(g:Int) (r':aG),qG Φ By [some (.int a),some (.int b),r]=ok (.nx,[some (.int g),some (.int 0),r'])/\g.natAbs=Int.gcd a b:=by
 intro n;induction n with
 |zero =>
  intro a b r h;have hb:b=0:=by left
  subst hb;refine⟨a,r,?_,by simp⟩;rw[By,qM];exact ic (by simp)
 |succ n ih =>
  intro a b r h;by_cases hb:b=0
  ·subst hb;refine⟨a,r,?_,by simp⟩;rw[By,qM];exact ic (by simp)
  ·have iR:=pE a hb;obtain⟨g,r',e,hg⟩:=ih b (a.fmod b) (some (.int (a.fmod b))) (by left);refine⟨g,r',?_,by rw[hg,DW]⟩;rw[By,qM]at e ⊢;rw[<- e];exact oz (by simp[hb])
theorem lR(Φ:aT):bH (mk Φ 2 3 dw):=by
 intro a b;obtain⟨g,r',e,hg⟩:=Ii Φ b.natAbs a b none (aak _);have e1:(g.natAbs:Int)=(Int.gcd a b:Int):=by left
 simp[mk_eq,dw,e,e1]
def fJ(m:aw):Prop:=∀t b:Int,b≠0->b.natAbs<2 ^ 9000->m [.int t,.int b]=ok (qD (Rat.divInt t b))
def eX(m:aw):Prop:=fJ m/\∀t:Int,m [.int t,.int 0]=some (.error 0)
noncomputable def cZ:ag:=[.ifs (.cmp .eq (.v 1) (.int 0)) [.rs 0] [],.asg (.nm 2) (.call 1 [(.v 0),(.v 1)]),.ifs (.cmp .lt (.v 1) (.int 0)) [.asg (.nm 2) (.neg (.v 2))] [],.ret (.tup [(.bin .fdiv (.v 0) (.v 2)),(.bin .fdiv (.v 1) (.v 2))])]
theorem nX{t b:Int}(hb:b≠0)(h:b.natAbs<2 ^ 9000)(x:Int):cQ .fdiv (.int x) (.int (fY t b))=ok (.int (x.fdiv (fY t b))) :=
 mq (hV (kz hb) (aaq (HV hb) h))
theorem qy(Φ:aT)(h1:bH (Φ 1)):eX (mk Φ 2 3 cZ):=by
 refine⟨λt b hb h=>?_,λt=>by simp[mk_eq,cZ]⟩;obtain⟨e1,e2⟩:=tJ (t:=t) hb;unfold bH at h1;have d1:=nX (t:=t) hb h t;have d2:=nX (t:=t) hb h b;rw[qD,<- e1,<- e2];by_cases hn:b<0
 ·have ed:-(Int.gcd t b:Int)=fY t b:=by simp[fY,hn]
  simp[mk_eq,cZ,hb,h1,hn,ed,d1,d2]
 ·have ed:(Int.gcd t b:Int)=fY t b:=by simp[fY,hn]
  simp[mk_eq,cZ,hb,h1,hn,ed,d1,d2]
noncomputable def dU:D->Bool
 |.tup [.int a,.int b]=>decide (1<=b)&&decide (Int.gcd a b=1)
 |_=>false
theorem zl(q:Rat):dU (qD q)=true:=by
 have h1:=PK q;have h2:Int.gcd q.num q.den=1:=by
  have:=q.reduced;simpa [Int.gcd]using this
 simp[qD,dU,h1,h2]
def eW(m:aw):Prop:=∀d,m [d]=ok (.bl (dU d))
noncomputable def bY:ag:=[.ifs (.or [(.not (.vo (.v 0) .tuple)),(.cmp .ne (.bf .len [(.v 0)]) (.int 2))]) [.ret (.bl false)] [],.ifs (.or [(.not (.call 0 [(.ix (.v 0) (.int 0))])),(.not (.call 0 [(.ix (.v 0) (.int 1))]))]) [.ret (.bl false)] [],.ret (.and [(.cmp .ge (.ix (.v 0) (.int 1)) (.int 1)),(.cmp .eq (.call 1 [(.ix (.v 0) (.int 0)),(.ix (.v 0) (.int 1))]) (.int 1))])]
theorem mH(g:Fl->Fl)(d:D):d8 (aS g d)=d8 d:=by simp[d8]
theorem oy{d:D}(h:d8 d=true):∃i,d=.int i:=by
 cases d<;>simp[d8,eD]at h ⊢
theorem rN{x y:D}(h:d8 x=false\/d8 y=false):dU (.tup [x,y])=false:=by
 cases x<;>cases y<;>simp[d8,eD]at h<;>rfl
theorem AU(h:ds.length≠2):dU (.tup ds)=false:=by
 unfold dU;split
 ·rename_i e;cases e;simp at h
 ·rfl
theorem qx(Φ:aT)(h0:eO (Φ 0))(h1:bH (Φ 1)):eW (mk Φ 1 1 bY):=by
 intro d;unfold eO at h0;unfold bH at h1;cases d with
 |tup ds =>
  by_cases hl:ds.length=2
  ·match ds,hl with
   |[x,y],_ =>
    by_cases hx:d8 x=true
    ·by_cases hy:d8 y=true
     ·obtain⟨a,rfl⟩:=oy hx;obtain⟨b,rfl⟩:=oy hy;simp[mk_eq,bY,h0,h1,hx,hy,eD,dU];by_cases hg:a.gcd b=1
      ·simp[hg]
      ·simp[hg];left
     ·simp[mk_eq,bY,h0,hx,hy,eD,mH,rN (.inr (by simpa using hy))]
    ·simp[mk_eq,bY,h0,hx,eD,mH,rN (.inl (by simpa using hx))]
  ·have qC:¬ (ds.length:Int)=2:=by left
   simp[mk_eq,bY,eD,qC,AU hl]
 |_=>simp[mk_eq,bY,eD,dU]
def ia(m:aw):Prop:=∀p q,Sm 4000 p->Sm 4000 q->m [qD p,qD q]=ok (qD (p+q))
def my(m:aw):Prop:=∀p q,Sm 4000 p->Sm 4000 q->m [qD p,qD q]=ok (qD (p - q))
def dO(m:aw):Prop:=∀p q,Sm 4000 p->Sm 4000 q->m [qD p,qD q]=ok (qD (p*q))
def Iy(m:aw):Prop:=(∀p q,Sm 4000 p->Sm 4000 q->q≠0->m [qD p,qD q]=ok (qD (p / q)))/\∀p,Sm 4000 p->m [qD p,qD 0]=some (.error 0)
noncomputable def zM(f:Nat):ag:=[.ret (.call f [(.bin .add (.bin .mul (.ix (.v 0) (.int 0)) (.ix (.v 1) (.int 1))) (.bin .mul (.ix (.v 1) (.int 0)) (.ix (.v 0) (.int 1)))),(.bin .mul (.ix (.v 0) (.int 1)) (.ix (.v 1) (.int 1)))])]
noncomputable def mn(f:Nat):ag:=[.ret (.call f [(.bin .sub (.bin .mul (.ix (.v 0) (.int 0)) (.ix (.v 1) (.int 1))) (.bin .mul (.ix (.v 1) (.int 0)) (.ix (.v 0) (.int 1)))),(.bin .mul (.ix (.v 0) (.int 1)) (.ix (.v 1) (.int 1)))])]
noncomputable def jT(f:Nat):ag:=[.ret (.call f [(.bin .mul (.ix (.v 0) (.int 0)) (.ix (.v 1) (.int 0))),(.bin .mul (.ix (.v 0) (.int 1)) (.ix (.v 1) (.int 1)))])]
noncomputable def EM(f:Nat):ag:=[.ret (.call f [(.bin .mul (.ix (.v 0) (.int 0)) (.ix (.v 1) (.int 1))),(.bin .mul (.ix (.v 0) (.int 1)) (.ix (.v 1) (.int 0)))])]
section
variable (Φ:aT){f:Nat}(h2:fJ (Φ f))
theorem Nz{p q:Rat}(hp:Sm 4000 p)(hq:Sm 4000 q):(p.den:Int)*q.den≠0/\((p.den:Int)*q.den).natAbs<2 ^ 9000 :=
 ⟨abe (j5 p) (j5 q),aal (hp.den hq) (aat (by decide) (by decide))⟩
theorem Av{p q:Rat}(hp:Sm 4000 p)(hq:Sm 4000 q):cQ .mul (.int p.num) (.int q.den)=ok (.int (p.num*q.den))/\cQ .mul (.int p.num) (.int q.num)=ok (.int (p.num*q.num))/\cQ .mul (.int p.den) (.int q.den)=ok (.int (p.den*q.den))/\cQ .mul (.int p.den) (.int q.num)=ok (.int (p.den*q.num)):=by
 obtain⟨a,b⟩:=hp.big (by decide);obtain⟨c,d⟩:=hq.big (by decide);exact⟨kc (mulOk_of a d),kc (mulOk_of a c),kc (mulOk_of b d),kc (mulOk_of b c)⟩
include h2
theorem Pt:ia (mk Φ 2 2 (zM f)):=by
 intro p q hp hq;obtain⟨a,b,c,d⟩:=Av hp hq;obtain⟨a',b',c',d'⟩:=Av hq hp;obtain⟨n,k⟩:=Nz hp hq;have e:=h2 (p.num*q.den+q.num*p.den) _ n k;rw[<- Jc]at e;simp[mk_eq,zM,a,a',c,e]
theorem B_:my (mk Φ 2 2 (mn f)):=by
 intro p q hp hq;obtain⟨a,b,c,d⟩:=Av hp hq;obtain⟨a',b',c',d'⟩:=Av hq hp;obtain⟨n,k⟩:=Nz hp hq;have e:=h2 (p.num*q.den - q.num*p.den) _ n k;rw[<- I_]at e;simp[mk_eq,mn,a,a',c,e]
theorem yF:dO (mk Φ 2 2 (jT f)):=by
 intro p q hp hq;obtain⟨a,b,c,d⟩:=Av hp hq;obtain⟨n,k⟩:=Nz hp hq;have e:=h2 (p.num*q.num) _ n k;rw[<- Ja]at e;simp[mk_eq,jT,b,c,e]
omit h2 in
theorem s_by(h2:eX (Φ f)):Iy (mk Φ 2 2 (EM f)):=by
 refine⟨λp q hp hq h0=>?_,λp hp=>?_⟩
 ·obtain⟨a,b,c,d⟩:=Av hp hq;have n:(p.den:Int)*q.num≠0:=abe (j5 p) (Ck h0);have k:((p.den:Int)*q.num).natAbs<2 ^ 9000:=by
   rw[Int.natAbs_mul];exact aal (bF (by simpa using hp.2) hq.1) (aat (by decide) (by decide))
  have e:=h2.1 (p.num*q.den) _ n k;rw[<- Jb]at e;simp[mk_eq,EM,a,d,e]
 ·have e:=h2.2 p.num;simp[mk_eq,EM,e]
end
theorem vV{bind:D->O aZ}{test:aZ->O Bool}{el:aZ->O D}{g:D->D}{xs:aa}(h:∀x∈xs,∃ρ,bind x=ok ρ/\test ρ=ok true/\el ρ=ok (g x)):iV bind test el xs=ok (xs.map g):=by
 have:=bG (bind:=bind) (test:=test) (el:=el) (e:=λd=>d) (g:=g) (xs:=xs) h
 rwa [List.map_id']at this
theorem ko(g:Fl->Fl)(d:D):dU (aS g d)=dU d:=by
 cases d with
 |tup ds =>
  match ds with
  |[]=>simp
  |[_]=>simp[dU]
  |[x,y]=>cases x<;>cases y<;>simp[dU]
  |_::_::_::_=>simp[dU]
 |_=>simp[dU]
def lE(d:D)(n:Int):Bool:=match d with
 |.lst _ ds=>decide ((ds.length:Int)=n)&&ds.all dU
 |_=>false
def qJ(d:D):Prop:=match d with
 |.lst _ ds=>ds.length<=1000000
 |.tup ds=>ds.length<64
 |_=>True
def nF(m:aw):Prop:=∀d n,qJ d->m [d,.int n]=ok (.bl (lE d n))
noncomputable def cB:ag:=[.ifs (.or [(.not (.vo (.v 0) .list)),(.cmp .ne (.bf .len [(.v 0)]) (.v 1))]) [.ret (.bl false)] [],.ret (.bf .all1 [(.comp 1 (.nm 0) [] .seq [(.v 0)] [] (.call 3 [(.v 0)]))])]
theorem nj(Φ:aT)(h3:eW (Φ 3)):nF (mk Φ 2 2 cB):=by
 intro d n hc;unfold eW at h3;cases d with
 |lst f ds =>
  by_cases hn:(ds.length:Int)=n
  ·have rH:bz Φ (.comp 1 (.nm 0) [] .seq [(.v 0)] [] (.call 3 [(.v 0)])) [some (.lst f ds),some (.int n)]=ok (.lst .ow (lr (ds.map dU))):=by
    rw[bW (xs:=[.lst (bE f) (aF bE ds)]) (by simp) (c_ ..) (vV (g:=λd=>.bl (dU d)) λx _=>⟨[some x],by simp[bw],by simp,by simp[h3,ko]⟩) (by simp;exact bD hc)];simp[aX,Function.comp_def,ko,lr]
   simp[mk_eq,cB,eD,hn,rH,lE]
  ·simp[mk_eq,cB,eD,hn,lE]
 |_=>simp[mk_eq,cB,eD,lE]
theorem ye(f:Fl)(qs:az)(n:Int):lE (.lst f (a_ qs)) n=decide ((qs.length:Int)=n):=by
 unfold lE;have:(a_ qs).all dU=true:=by unfold a_;rw[List.all_map];exact List.all_eq_true.mpr λq _=>zl q
 simp[this]
noncomputable def bQ(qs:az):Nat:=qs.foldl (λb q=>Nat.lcm b q.den) 1
theorem De(b:Nat)(q:Rat):(b:Int).fdiv (Int.gcd b q.den)*q.den=(Nat.lcm b q.den:Nat):=by
 have hg:0<Nat.gcd b q.den:=Nat.gcd_pos_of_pos_right _ q.den_pos;have e:Int.gcd (b:Int) (q.den:Int)=Nat.gcd b q.den:=by simp[Int.gcd]
 rw[e,Int.fdiv_eq_ediv_of_nonneg _ (by left)];have:((b:Int) / (Nat.gcd b q.den:Nat))=((b / Nat.gcd b q.den:Nat):Int):=(Int.natCast_ediv ..).symm;rw[this,Nat.lcm];have hd:Nat.gcd b q.den∣b:=Nat.gcd_dvd_left ..;rw[Nat.mul_comm b,Nat.mul_div_assoc _ hd,Nat.mul_comm];exact(Int.natCast_mul ..).symm
theorem lcm_pos{b:Nat}(hb:0<b)(q:Rat):0<Nat.lcm b q.den:=Nat.lcm_pos hb q.den_pos
theorem yY:∀(qs:az) (b k j:Nat),0<b->b<2 ^ j->(∀q∈qs,Sm k q)->0<qs.foldl (λb q=>Nat.lcm b q.den) b/\qs.foldl (λb q=>Nat.lcm b q.den) b<2 ^ (j+k*qs.length)/\b∣qs.foldl (λb q=>Nat.lcm b q.den) b/\∀q∈qs,q.den∣qs.foldl (λb q=>Nat.lcm b q.den) b
 |[],b,k,j,h0,h1,_=>⟨h0,by simpa using h1,Nat.dvd_refl _,λq hq=>nomatch hq⟩
 |q::qs,b,k,j,h0,h1,hs=>by
  have hq:=hs q aai;have h2:Nat.lcm b q.den<2 ^ (j+k):=aaq (Nat.lcm_le_mul h0 q.den_pos) (bF h1 hq.2);obtain⟨g1,g2,g3,g4⟩:=yY qs (Nat.lcm b q.den) k (j+k) (lcm_pos h0 q) h2 λp hp=>hs p (aae _ hp);have e:j+k*(q::qs).length=j+k+k*qs.length:=by rw[List.length_cons,Nat.mul_succ];left
  refine⟨g1,by rw[e];exact g2,Nat.dvd_trans (Nat.dvd_lcm_left ..) g3,λp hp=>?_⟩;rcases List.mem_cons.mp hp with rfl|hp
  ·exact Nat.dvd_trans (Nat.dvd_lcm_right ..) g3
  ·exact g4 p hp
structure Bb(k:Nat)(qs:az):Prop where
 sm:∀q∈qs,Sm k q
 wx:k*qs.length<=3000
 len:qs.length<=1000
variable {qs ws xs:az}
theorem Bb.lcm{k:Nat}(h:Bb k qs):0<bQ qs/\bQ qs<2 ^ (1+k*qs.length)/\∀q∈qs,q.den∣bQ qs:=by
 obtain⟨g1,g2,_,g4⟩:=yY qs 1 k 1 (by decide) (by decide) h.sm;exact⟨g1,g2,g4⟩
theorem xo{n j:Nat}(h:n<2 ^ j)(hj:j<=9000):n<2 ^ 9000:=aal h (aat (by decide) hj)
def fi(m:aw):Prop:=∀f qs k,Bb k qs->m [.lst f (a_ qs)]=ok (.int (bQ qs))
noncomputable def cy:ag:=[.asg (.nm 1) (.bin .mul (.bin .fdiv (.v 1) (.call 1 [(.v 1),(.ix (.v 2) (.int 1))])) (.ix (.v 2) (.int 1)))]
def cX:ag:=[.asg (.nm 1) (.int 1),.fr (.nm 2) (.seq (.v 0)) cy,.ret (.v 1)]
theorem zI(Φ:aT)(h1:bH (Φ 1))(x:aG):∀(qs:az) (b k j:Nat) (z:aG),0<b->b<2 ^ j->j+k*qs.length<=8000->(∀q∈qs,Sm k q) ->
  ∃z',dJ (λd ρ=>bT (.nm 2) d ρ) (λρ=>bI Φ cy ρ) (a_ qs) [x,some (.int b),z]=ok (.nx,[x,some (.int (qs.foldl (λb q=>Nat.lcm b q.den) b:Nat)),z'])
 |[],b,k,j,z,_,_,_,_=>⟨z,rfl⟩
 |q::qs,b,k,j,z,h0,hb,hj,hs=>by
  have hq:=hs q aai;have h2:Nat.lcm b q.den<2 ^ (j+k):=aaq (Nat.lcm_le_mul h0 q.den_pos) (bF hb hq.2);have e:j+k*(q::qs).length=j+k+k*qs.length:=by rw[List.length_cons,Nat.mul_succ];left
  obtain⟨z',ih⟩:=zI Φ h1 x qs (Nat.lcm b q.den) k (j+k) (some (qD q)) (lcm_pos h0 q) h2 (by left) λp hp=>hs p (aae _ hp);have hg:0<Nat.gcd b q.den:=Nat.gcd_pos_of_pos_right _ q.den_pos;have eg:Int.gcd (b:Int) (q.den:Int)=Nat.gcd b q.den:=by simp[Int.gcd]
  have TR:Nat.gcd b q.den<=b:=abn h0 (Nat.gcd_dvd_left ..);have ZG:b<2 ^ 9000:=xo hb (by left);have d1:cQ .fdiv (.int b) (.int (Nat.gcd b q.den:Nat))=ok (.int ((b:Int).fdiv (Nat.gcd b q.den:Nat))):=mq (hV (by left) (by simpa using Nat.lt_of_le_of_lt TR ZG));have hm:((b:Int).fdiv (Nat.gcd b q.den:Nat)).natAbs<=b:=by
   rw[Int.fdiv_eq_ediv_of_nonneg _ (by left),<- Int.natCast_ediv];simp;exact ab0 ..
  have d2:cQ .mul (.int ((b:Int).fdiv (Nat.gcd b q.den:Nat))) (.int q.den)=ok (.int (Nat.lcm b q.den:Nat)):=by
   have:=De b q;rw[eg]at this;rw[kc (mulOk_of (Nat.lt_of_le_of_lt hm ZG) (hq.big (by
    rw[e]at hj;have:k<=j+k+k*qs.length:=by left
    left)).2),this]
  unfold bH at h1;refine⟨z',cN (ρ1:=[x,some (.int b),some (qD q)]) (by simp) (ρ2:=[x,some (.int (Nat.lcm b q.den:Nat)),some (qD q)]) ?_ ih⟩;simp[cy,h1,d1,d2]
theorem m_(Φ:aT)(h1:bH (Φ 1)):fi (mk Φ 1 3 cX):=by
 intro f qs k hs;have hit:cc Φ (.seq (.v 0)) [some (.lst f (a_ qs)),some (.int 1),none]=ok (a_ qs,if (bZ (bE f)||false)then[some (.lst (aW f) (a_ qs)),some (.int 1),none]else[some (.lst f (a_ qs)),some (.int 1),none]):=by
  rw[qB (f:=bE f) (ds:=a_ qs) (by simp)];simp[show i7 (.v 0)=[0] from rfl]
 have hk:=hs.wx;have hx:∀x:aG,∃z',dJ (λd ρ=>bT (.nm 2) d ρ) (λρ=>bI Φ cy ρ) (a_ qs) [x,some (.int (1:Nat)),none]=ok (.nx,[x,some (.int (bQ qs)),z']):=λx=>zI Φ h1 x qs 1 k 1 none (by decide) (by decide) (by left) hs.sm;cases hf:(bZ (bE f)||false)with
 |true =>
  rw[hf]at hit;obtain⟨z',e⟩:=hx (some (.lst (aW f) (a_ qs)));have:=dQ (t:=.nm 2) (b:=cy) hit e;simp[mk_eq,cX,this]
 |false =>
  rw[hf]at hit;obtain⟨z',e⟩:=hx (some (.lst f (a_ qs)));have:=dQ (t:=.nm 2) (b:=cy) hit e;simp[mk_eq,cX,this]
noncomputable def bL(b:Nat)(q:Rat):Int:=q.num*(b:Int).fdiv q.den
theorem Cm(q:Rat):(q.num:Rat)=q*(q.den:Rat):=by
 have h:(q.den:Rat)≠0:=by
  have:=q.den_pos;intro z;have:((q.den:Int):Rat)=0:=by rw[Rat.intCast_natCast];exact z
  rw[Rat.intCast_eq_zero_iff]at this;left
 have e:q=(q.num:Rat) / (q.den:Rat):=by
  conv=>lhs;rw[<- fR q,Rat.divInt_eq_div,Rat.intCast_natCast]
 grind
theorem kR{b:Nat}{q:Rat}(h:q.den∣b):((bL b q:Int):Rat)=q*(b:Rat):=by
 obtain⟨c,rfl⟩:=h;have hd:(q.den:Int)≠0:=j5 q;unfold bL;rw[Int.natCast_mul,Int.mul_fdiv_cancel_left _ hd,Rat.intCast_mul,Cm,Rat.natCast_mul,Rat.intCast_natCast];grind
theorem oE{b:Nat}:∀{qs:az},(∀q∈qs,q.den∣b)->(((qs.map (bL b)).sum:Int):Rat)=qs.sum*(b:Rat)
 |[],_=>by simp
 |q::qs,h=>by
  rw[List.map_cons,List.sum_cons,List.sum_cons,Rat.intCast_add,kR (h q List.mem_cons_self),oE λp hp=>h p (List.mem_cons_of_mem _ hp)];grind
def ju(m:aw):Prop:=∀f qs k (b:Nat),Bb k qs->b<2 ^ 8000->m [.lst f (a_ qs),.int b]=ok (.lst .ow (ah (qs.map (bL b))))
noncomputable def gD:ag:=[.ret (.comp 1 (.nm 0) [1] .seq [(.v 0)] [] (.bin .mul (.ix (.v 0) (.int 0)) (.bin .fdiv (.v 1) (.ix (.v 0) (.int 1)))))]
theorem F8{k:Nat}(h:Bb k qs){q:Rat}(hq:q∈qs):Sm 3000 q:=by
 refine(h.sm q hq).mono ?_;have h1:=h.wx;have h2:0<qs.length:=List.length_pos_of_mem hq;have:k*1<=k*qs.length:=aaK _ h2;left
theorem uO(Φ:aT):ju (mk Φ 2 2 gD):=by
 intro f qs k b hs hb;have rH:bz Φ (.comp 1 (.nm 0) [1] .seq [(.v 0)] [] (.bin .mul (.ix (.v 0) (.int 0)) (.bin .fdiv (.v 1) (.ix (.v 0) (.int 1))))) [some (.lst f (a_ qs)),some (.int b)]=ok (.lst .ow (ah (qs.map (bL b)))):=by
  rw[bW (xs:=[.lst (bE f) (a_ qs)]) (items:=a_ qs) (ds:=qs.map λq=>.int (bL b q)) (by simp) (by rw[c_];simp) (bG λq hq=>?_) (by have:=hs.len;simp;exact bD (by left))]
  ·have:(qs.map λq=>D.int (bL b q))=ah (qs.map (bL b)):=by simp[ah]
   rw[this,gw]
  ·refine⟨[some (qD q),some (.int b)],by simp[bw],by simp,?_⟩;have h3:=F8 hs hq;obtain⟨g1,g2⟩:=h3.big (by decide);have d1:cQ .fdiv (.int b) (.int q.den)=ok (.int ((b:Int).fdiv q.den)):=mq (hV (j5 q) g2);have d2:cQ .mul (.int q.num) (.int ((b:Int).fdiv q.den))=ok (.int (q.num*(b:Int).fdiv q.den)):=by
    refine kc (mulOk_of g1 ?_);rw[Int.fdiv_eq_ediv_of_nonneg _ (by left),<- Int.natCast_ediv];have:=ab0 b q.den;have h9:=xo hb (by decide);rw[Int.natAbs_natCast];exact aaq this h9
   simp[d1,d2,bL]
 simp[mk_eq,gD,rH]
def p7(m:aw):Prop:=∀f qs k,Bb k qs->m [.lst f (a_ qs)]=ok (.tup [.int (bQ qs),.lst .ow (ah (qs.map (bL (bQ qs))))])
noncomputable def iA:ag:=[.asg (.nm 1) (.call 9 [(.v 0)]),.ret (.tup [(.v 1),(.call 10 [(.v 0),(.v 1)])])]
theorem Bb.LG{k:Nat}(h:Bb k qs):bQ qs<2 ^ 8000:=aal h.lcm.2.1 (aat (by decide) (by have:=h.wx;left))
theorem wW(Φ:aT)(h9:fi (Φ 9))(Hx:ju (Φ 10)):p7 (mk Φ 1 2 iA):=by
 intro f qs k hs;have e1:=λf=>h9 f qs k hs;have e2:=λf=>Hx f qs k (bQ qs) hs hs.LG;simp[mk_eq,iA,e1,e2]
def iF(m:aw):Prop:=∀f qs k,Bb k qs->m [.lst f (a_ qs)]=ok (qD qs.sum)
noncomputable def fI:ag:=[.asg (.nm 1) (.call 41 [(.v 0)]),.ret (.call 2 [(.bf .j4 [(.ix (.v 1) (.int 1))]),(.ix (.v 1) (.int 0))])]
theorem su{b:Nat}(h0:0<b)(h:∀q∈qs,q.den∣b):Rat.divInt (qs.map (bL b)).sum b=qs.sum:=by
 have hb:((b:Nat):Rat)≠0:=by
  intro z;have:((b:Int):Rat)=0:=by rw[Rat.intCast_natCast];exact z
  rw[Rat.intCast_eq_zero_iff]at this;left
 rw[Rat.divInt_eq_div,oE h,Rat.intCast_natCast];grind
theorem sG(Φ:aT)(h2:eX (Φ 2))(h41:p7 (Φ 41)):iF (mk Φ 1 2 fI):=by
 intro f qs k hs;have e1:=λf=>h41 f qs k hs;obtain⟨g1,g2,g3⟩:=hs.lcm;have e2:=h2.1 (qs.map (bL (bQ qs))).sum (bQ qs) (by left) (by have:=xo hs.LG (by decide);simpa using this);rw[su g1 g3]at e2;simp[mk_eq,fI,e1,e2]
noncomputable def cG(n:Int):D->Bool
 |.int i=>decide (0<=i)&&decide (i<n)
 |_=>false
theorem mR(g:Fl->Fl)(n:Int)(d:D):cG n (aS g d)=cG n d:=by
 cases d<;>simp[cG]
theorem gA{n:Int}:∀{ds:aa},ds.all (cG n)=true->∃ns:ae,ds=ah ns
 |[],_=>⟨[],rfl⟩
 |d::ds,h=>by
  simp only[List.all_cons,Bool.and_eq_true]at h;obtain⟨ns,rfl⟩:=gA h.2;cases d with
  |int i=>exact⟨i::ns,rfl⟩
  |_=>simp[cG]at h
def numsOf(ds:aa):ae:=(intsOf ds).getD []
theorem gn(ns:ae):numsOf (ah ns)=ns:=by unfold numsOf ah;rw[bx];rfl
def cU(d:D)(n:Int):Bool:=match d with
 |.tup ds=>ds.all (cG n)&&decide ((i5 (numsOf ds)).length=ds.length)
 |_=>false
def s_(d:D)(n:Int):Bool:=cU d n&&(match d with
 |.tup ds=>decide (numsOf ds=sortI (numsOf ds))
 |_=>false)
def iG(m:aw):Prop:=∀d n,qJ d->m [d,.int n]=ok (.bl (cU d n))
noncomputable def dz:ag:=[.ifs (.not (.vo (.v 0) .tuple)) [.ret (.bl false)] [],.ifs (.not (.bf .all1 [(.comp 1 (.nm 0) [1] .seq [(.v 0)] [] (.and [(.call 0 [(.v 0)]),(.cmp .ge (.v 0) (.int 0)),(.cmp .lt (.v 0) (.v 1))]))])) [.ret (.bl false)] [],.ret (.cmp .eq (.km (.v 0)) (.bf .len [(.v 0)]))]
theorem sH(Φ:aT)(h0:eO (Φ 0)):iG (mk Φ 2 2 dz):=by
 intro d n hc;unfold eO at h0;cases d with
 |tup ds =>
  have hl:ds.length<64:=hc;have rH:bz Φ (.comp 1 (.nm 0) [1] .seq [(.v 0)] [] (.and [(.call 0 [(.v 0)]),(.cmp .ge (.v 0) (.int 0)),(.cmp .lt (.v 0) (.v 1))])) [some (.tup ds),some (.int n)]=ok (.lst .ow (lr (ds.map (cG n)))):=by
   rw[bW (xs:=[.tup (aF bE ds)]) (by simp) (tu ..) (vV (g:=λd=>.bl (cG n d)) λx _=>⟨[some x,some (.int n)],by simp[bw],by simp,?_⟩) (by simp;exact bD (by left))]
   ·simp[aX,Function.comp_def,mR,lr]
   ·cases x with
    |int i =>
     simp[h0,d8,eD,cG]
    |_=>simp[h0,d8,eD,cG]
  cases ha:ds.all (cG n)with
  |true =>
   obtain⟨ns,rfl⟩:=gA ha;have qC:ns.length<4000:=by simp at hl;left
   have e:(List.all (List.map (cG n) (ah ns)) id)=true:=by rw[List.all_map];exact ha
   simp[mk_eq,dz,eD,rH,e,M8 qC,cU,ha,gn];simp[Int.natCast_inj]
  |false =>
   have e:(List.all (List.map (cG n) ds) id)=false:=by rw[List.all_map];exact ha
   simp only[mk_eq,dz,List.length_cons,List.length_nil];simp[eD,rH,e,cU,ha]
 |_=>simp[mk_eq,dz,eD,cU]
def p9(m:aw):Prop:=∀d n,qJ d->m [d,.int n]=ok (.bl (s_ d n))
noncomputable def h_:ag:=[.ret (.and [(.call 43 [(.v 0),(.v 1)]),(.cmp .eq (.bf .list1 [(.v 0)]) (.bf .ip [(.v 0)]))])]
theorem u_(n:Nat)(f:Fl)(ns:ae):dA (n+1) (.lst f (ah ns))=true:=sU (gm n) ns
theorem rq(n:Nat)(ns:ae):dA (n+1) (.tup (ah ns))=true:=sU (gm n) ns
theorem AY(ns ms:ae):e_ (ah ns) (ah ms)=decide (ns=ms):=pL (λx y=>nV x y) ns ms
theorem k_(g:Fl->Fl)(d:D)(n:Int):cU (aS g d) n=cU d n:=by
 cases d with
 |tup ds =>
  cases h:ds.all (cG n)with
  |true =>
   obtain⟨ns,rfl⟩:=gA h;simp
  |false =>
   have h2:(aF g ds).all (cG n)=false:=by
    rw[aX,List.all_map,show(cG n∘aS g)=cG n from funext λd=>mR g n d];exact h
   simp[cU,h,h2]
 |_=>simp[cU]
theorem jR{g:Fl->Fl}{d:D}(h:qJ d):qJ (aS g d):=by
 cases d<;>simp_all [qJ]
theorem Cb(Φ:aT)(W9:iG (Φ 43)):p9 (mk Φ 2 2 h_):=by
 intro d n hc;have e1:=W9 (aS aW (aS bE d)) n (jR (jR hc));rw[k_,k_]at e1;cases d with
 |tup ds =>
  have hl:ds.length<64:=hc;simp only[C7]at e1;cases ha:cU (.tup ds) n with
  |true =>
   have TZ:=ha;simp only[cU,Bool.and_eq_true]at TZ;obtain⟨ns,rfl⟩:=gA TZ.1;have qC:ns.length<64:=by simpa using hl
   have e2:ez .eq (.lst .ow (ah ns)) (.lst .ow (ah (sortI ns)))=ok (.bl (decide (ns=sortI ns))):=by
    rw[x9 (u_ 39 _ _) (u_ 39 _ _),HJ,AY]
   rw[ha]at e1;simp at e1;simp[mk_eq,h_,e1,HD qC,e2,s_,ha,gn]
  |false =>
   rw[ha]at e1;simp[mk_eq,h_,e1,s_,ha]
 |_=>(simp at e1;simp[mk_eq,h_,e1,s_,cU])
def jx(n:Nat)(l:ae):Prop:=l.Pairwise (· < ·)/\∀h∈l,0<=h/\h<(n:Int)
theorem tS:∀(l m:ae),(∀x∈l,x∉m)->l.Nodup->l.foldl (λ(m:ae) (k:Int)=>if m.any (· == k)then m else m++[k]) m=m++l
 |[],m,_,_=>by simp
 |x::l,m,h,hn=>by
  have hx:m.any (· == x)=false:=by
   rw[List.any_eq_false];intro y hy z;have:y=x:=by simpa using z
   exact h x aai (this▸hy)
  rw[List.foldl_cons,hx,if_neg Bool.false_ne_true,tS l (m++[x])]
  ·simp
  ·intro y hy z;rcases List.mem_append.mp z with z|z
   ·exact h y (aae _ hy) z
   ·have:y=x:=by simpa using z
    subst this;exact(List.nodup_cons.mp hn).1 hy
  ·exact(List.nodup_cons.mp hn).2
theorem jx.nodup{n:Nat}{l:ae}(h:jx n l):l.Nodup:=h.1.imp λz=>by left
theorem BY{l:ae}(h:l.Pairwise (· < ·)):sortI l=l:=by
 unfold sortI;apply List.mergeSort_of_pairwise;exact h.imp λz=>by simp;left
theorem jx.s_{n:Nat}{l:ae}(h:jx n l):s_ (.tup (ah l)) n=true:=by
 have h1:(ah l).all (cG n)=true:=by
  unfold ah;rw[List.all_map,List.all_eq_true];intro x hx;have:=h.2 x hx;simp[cG,this.1,this.2]
 have h2:i5 l=l:=by
  have:=tS l [] (by simp) h.nodup;rw[List.nil_append]at this;exact this
 simp[DI.s_,cU,h1,gn,h2,BY h.1]
def jY(c:Nat)(p:D->Int->Bool)(m:aw):Prop:=∀d n,qJ d->m [d,.int n]=if p d n then ok .bV else some (.error c)
noncomputable def iD(f c:Nat):ag:=[.ifs (.not (.call f [(.v 0),(.v 1)])) [.rs c] []]
theorem r9(g:Fl->Fl)(d:D)(n:Int):lE (aS g d) n=lE d n:=by
 cases d<;>simp[lE];rw[aX,List.all_map,show(dU∘aS g)=dU from funext λd=>ko g d]
theorem yG(Φ:aT){f c:Nat}{p:D->Int->Bool}(hp:∀g d n,p (aS g d) n=p d n)(h:∀d n,qJ d->Φ f [d,.int n]=ok (.bl (p d n))):jY c p (mk Φ 2 2 (iD f c)):=by
 intro d n hc;have e1:=h (aS aW (aS bE d)) n (jR (jR hc));rw[hp,hp]at e1;cases hd:p d n with
 |true=>rw[hd]at e1;simp[mk_eq,iD,e1]
 |false=>rw[hd]at e1;simp[mk_eq,iD,e1]
noncomputable def bu(ns:ae)(k:Int):Int :=
 let c:=if k<ns.length then ns.getD k.toNat 0 else 0
 if (10:Int) ^ 18<=c then(c - 10 ^ 18).fmod (10 ^ 60)else
  let n:=(c*48271+k*69621+11).fmod 2147483629
  let n:=(n*n).fmod 2147483587
  n*2147483563+(n*n).fmod 2147483563
def qa(m:aw):Prop:=∀(ns:ae) (k:Int),0<=k->m [.lst .sc (ah ns),.int k]=ok (.int (bu ns k))
noncomputable def fh:ag:=[.asg (.nm 2) (.int 0),.ifs (.cmp .lt (.v 1) (.bf .len [(.v 0)])) [.asg (.nm 2) (.ix (.v 0) (.v 1))] [],.ifs (.cmp .ge (.v 2) (.bin .pow (.int 10) (.int 18))) [.ret (.bin .mod (.bin .sub (.v 2) (.bin .pow (.int 10) (.int 18))) (.bin .pow (.int 10) (.int 60)))] [],.asg (.nm 3) (.bin .mod (.bin .add (.bin .add (.bin .mul (.v 2) (.int 48271)) (.bin .mul (.v 1) (.int 69621))) (.int 11)) (.int 2147483629)),.asg (.nm 3) (.bin .mod (.bin .mul (.v 3) (.v 3)) (.int 2147483587)),.ret (.bin .add (.bin .mul (.v 3) (.int 2147483563)) (.bin .mod (.bin .mul (.v 3) (.v 3)) (.int 2147483563)))]
theorem eT(a:Int){b:Int}(h:0<b):0<=a.fmod b/\a.fmod b<b:=⟨abJ a h,acb a h⟩
theorem A5(Φ:aT)(x:D)(k c:Int)(hx:eD .list x=true)(o:aG):pM (bI Φ (fh.drop 2) [some x,some (.int k),some (.int c),o])=ok (.int (if (10:Int) ^ 18<=c then(c - 10 ^ 18).fmod (10 ^ 60)else
  let n:=(c*48271+k*69621+11).fmod 2147483629
  let n:=(n*n).fmod 2147483587
  n*2147483563+(n*n).fmod 2147483563)):=by
 have p1:cQ .pow (.int 10) (.int 18)=ok (.int (10 ^ 18)):=JP (by decide);have p2:cQ .pow (.int 10) (.int 60)=ok (.int (10 ^ 60)):=JP (by decide);by_cases h:(10:Int) ^ 18<=c
 ·have h':(1000000000000000000:Int)<=c:=h;simp[fh,p1,p2,h']
 ·have h':¬ (1000000000000000000:Int)<=c:=h;obtain⟨a1,a2⟩:=eT (c*48271+k*69621+11) (b:=2147483629) (by decide);generalize hn:(c*48271+k*69621+11).fmod 2147483629=n at *;obtain⟨a3,a4⟩:=eT (n*n) (b:=2147483587) (by decide);have m1:cQ .mul (.int n) (.int n)=ok (.int (n*n)):=kc (sY _ (by left));generalize hm:(n*n).fmod 2147483587=m at *;have m2:cQ .mul (.int m) (.int m)=ok (.int (m*m)):=kc (sY _ (by left));simp[fh,p1,h',hn,m1,hm,m2]
theorem KG(Φ:aT):qa (mk Φ 2 4 fh):=by
 intro ns k hk;have:=λc=>A5 Φ (.lst .sc (ah ns)) k c rfl none;by_cases h:k<ns.length
 ·have hg:v9 (ah ns) k=ok (.int (ns.getD k.toNat 0)):=by
   have hl:k.toNat<ns.length:=by left
   rw[at_of hk (d:=.int (ns.getD k.toNat 0)) (by rw[rG,List.getElem?_eq_getElem hl,Option.map_some,List.getD_eq_getElem?_getD,List.getElem?_eq_getElem hl];rfl)];simp
  have e:pM (bI Φ fh ([some (D.lst Fl.sc (ah ns)),some (D.int k)]++[none,none]))=pM (bI Φ (fh.drop 2) [some (.lst .sc (ah ns)),some (.int k),some (.int (ns.getD k.toNat 0)),none]):=by
   rw[fh,df,ID];simp only[Jr,Ed,vk,pv];simp only[List.cons_append,List.nil_append,zR,List.length_cons,List.length_nil,Nat.reduceAdd,Nat.reduceLT,uB,List.set_cons_succ,List.set_cons_zero];rw[df,z_];simp[h,hg]
  rw[mk_eq (ar:=2) (ds:=[_,_]) rfl];refine(show _=_ from e).trans ?_;rw[this,bu,if_pos h]
 ·have e:pM (bI Φ fh ([some (D.lst Fl.sc (ah ns)),some (D.int k)]++[none,none]))=pM (bI Φ (fh.drop 2) [some (.lst .sc (ah ns)),some (.int k),some (.int 0),none]):=by
   rw[fh,df,ID];simp only[Jr,Ed,vk,pv];simp only[List.cons_append,List.nil_append,zR,List.length_cons,List.length_nil,Nat.reduceAdd,Nat.reduceLT,uB,List.set_cons_succ,List.set_cons_zero];rw[df,z_];simp[h]
  rw[mk_eq (ar:=2) (ds:=[_,_]) rfl];refine(show _=_ from e).trans ?_;rw[this,bu,if_neg h]
noncomputable def kO:CS:=.IE (.cmp .gt (.v 3) (.int 0)) [.par 2 3 (.v 3) (.bin .mod (.v 2) (.v 3))]
def lB:ag:=[.asg (.nm 2) (.bf .abs [(.v 0)]),.asg (.nm 3) (.bf .abs [(.v 1)]),kO,.ifs (.cmp .lt (.v 1) (.int 0)) [.asg (.nm 2) (.bin .sub (.int 0) (.v 2))] [],.ret (.tup [(.bin .fdiv (.v 0) (.v 2)),(.bin .fdiv (.v 1) (.v 2))])]
theorem xp(Φ:aT)(x y:aG):∀(n:Nat) (a b:Nat),b<=n->qG Φ kO [x,y,some (.int a),some (.int b)]=ok (.nx,[x,y,some (.int (Nat.gcd a b)),some (.int 0)]):=by
 intro n;induction n with
 |zero =>
  intro a b h;have hb:b=0:=by left
  subst hb;rw[kO,qM];exact ic (by simp)
 |succ n ih =>
  intro a b h;by_cases hb:b=0
  ·subst hb;rw[kO,qM];exact ic (by simp)
  ·have iR:=Nat.mod_lt a (show 0<b by left);have e:=ih b (a % b) (by left);have eg:Nat.gcd b (a % b)=Nat.gcd a b:=by rw[Nat.gcd_comm a b,Nat.gcd_rec b a,Nat.gcd_comm]
   rw[eg]at e;rw[kO,qM]at e ⊢;rw[<- e];have jQ:0<b:=by left
   have em:((a:Int)).fmod (b:Int)=((a % b:Nat):Int):=by
    rw[Int.fmod_eq_emod_of_nonneg _ (by left)];exact(Int.natCast_emod a b).symm
   have ep:qG Φ (.par 2 3 (.v 3) (.bin .mod (.v 2) (.v 3))) [x,y,some (.int a),some (.int b)]=ok (.nx,[x,y,some (.int b),some (.int ((a % b:Nat):Int))]):=by
    rw[OQ];simp[hb,em]
   exact oz (by simp[jQ,ep])
theorem Gk(Φ:aT):fJ (mk Φ 2 4 lB):=by
 intro t b hb h;obtain⟨e1,e2⟩:=tJ (t:=t) hb;have d1:=nX (t:=t) hb h t;have d2:=nX (t:=t) hb h b;have hl:=xp Φ (some (.int t)) (some (.int b)) b.natAbs t.natAbs b.natAbs (aak _);rw[qD,<- e1,<- e2];by_cases hn:b<0
 ·have ed:0 - (Nat.gcd t.natAbs b.natAbs:Int)=fY t b:=by simp[fY,hn,Int.gcd]
  have ed':-(Nat.gcd t.natAbs b.natAbs:Int)=fY t b:=by simp[fY,hn,Int.gcd]
  simp[mk_eq,lB,hl,hn,ed',d1,d2]
 ·have ed:(Nat.gcd t.natAbs b.natAbs:Int)=fY t b:=by simp[fY,hn,Int.gcd]
  simp[mk_eq,lB,hl,hn,ed,d1,d2]
noncomputable def bK(qs:az)(h:Int):Rat:=qs.getD h.toNat 0
theorem bh{h:Int}(h0:0<=h)(h1:h<qs.length):qs[h.toNat]?=some (bK qs h)/\bK qs h∈qs:=by
 have hl:h.toNat<qs.length:=by left
 have e:qs[h.toNat]?=some (bK qs h):=by
  unfold bK;rw[List.getD_eq_getElem?_getD,List.getElem?_eq_getElem hl];rfl
 exact⟨e,aas e⟩
theorem kf{h:Int}(h0:0<=h)(h1:h<qs.length):v9 (a_ qs) h=ok (qD (bK qs h)):=by
 rw[at_of h0 (d:=qD (bK qs h)) (by rw[Gz,(bh h0 h1).1];rfl)];simp
theorem fL{q:Rat}(h:0<q):0<q.num:=by
 have:=(Rat.lt_iff 0 q).mp h;simpa using this
theorem jx.len{n:Nat}{l:ae}(h:jx n l):l.length<=n:=by
 have hn:(l.map Int.toNat).Nodup:=by
  unfold List.Nodup;rw[List.pairwise_map];refine h.1.imp_of_mem λha hb z e=>?_;have:=h.2 _ ha;have:=h.2 _ hb;left
 have hs:(l.map Int.toNat) ⊆ List.range n:=λx hx=>by
  obtain⟨y,hy,rfl⟩:=List.mem_map.mp hx;have:=h.2 y hy;rw[List.mem_range];left
 have:=hn.length_le_of_subset hs;simpa using this
theorem jx.eH{n:Nat}{l:ae}(h:jx n l)(hn:n<=12):qJ (.tup (ah l)):=by
 have:=h.len;show(ah l).length<64;simp;left
theorem B0{t b:Int}{k:Nat}(h0:b≠0)(h1:t.natAbs<2 ^ k)(h2:b.natAbs<2 ^ k):Sm k (Rat.divInt t b):=lO h0 h1 h2
theorem pQ{t b:Int}(ht:0<t)(hb:0<b):0<Rat.divInt t b:=by
 rw[Rat.divInt_eq_div];have h1:(0:Rat)<(t:Rat):=by
  have:=Rat.intCast_lt_intCast (a:=0) (b:=t);simpa using this.mpr ht
 have h2:(0:Rat)<(b:Rat):=by
  have:=Rat.intCast_lt_intCast (a:=0) (b:=b);simpa using this.mpr hb
 rw[Rat.div_def];exact Rat.mul_pos h1 (Rat.inv_pos.mpr h2)
theorem Sm.neg{k:Nat}{q:Rat}(h:Sm k q):Sm k (-q):=⟨by simpa using h.1,h.2⟩
theorem Sm.zero(k:Nat)(h:1<=k):Sm k 0:=by
 have:Sm 1 (0:Rat):=by constructor<;>decide
 exact this.mono h
theorem Sm.sum{k:Nat}:∀{qs:az},(∀q∈qs,Sm k q)->Sm (1+(k+1)*qs.length) qs.sum
 |[],_=>Sm.zero _ (by simp)
 |q::qs,h=>by
  have h1:=h q aai;have h2:=Sm.sum (qs:=qs) λp hp=>h p (aae _ hp);rw[List.sum_cons];refine(h1.add h2).mono ?_;rw[List.length_cons,Nat.mul_succ];left
noncomputable def dC(l:ae)(f:Int->Rat):Rat:=(l.map f).sum
@[simp]theorem Pg(f:Int->Rat):dC [] f=0:=rfl
theorem gX(h:Int)(l:ae)(f:Int->Rat):dC (h::l) f=f h+dC l f:=rfl
theorem wQ{l:ae}{f g:Int->Rat}(h:∀x∈l,f x=g x):dC l f=dC l g:=by
 unfold dC;rw[List.map_congr_left h]
noncomputable abbrev Row:=Rat×ae
abbrev ai:=List Row
def rD(r:Row):D:=.tup [qD r.1,.tup (ah r.2)]
@[simp]theorem Lw(g:Fl->Fl)(r:Row):aS g (rD r)=rD r:=by unfold rD;simp
@[simp]theorem Mv(g:Fl->Bool)(r:Row):bc g (rD r)=false:=by unfold rD;simp
noncomputable def cz(rs:ai):aa:=rs.map rD
@[simp]theorem Ta(rs:ai):(cz rs).length=rs.length:=abd ..
@[simp]theorem kZ(g:Fl->Fl)(rs:ai):aF g (cz rs)=cz rs:=du g (Lw g) rs
@[simp]theorem Rq(g:Fl->Bool)(rs:ai):aQ g (cz rs)=false:=cL g (Mv g) rs
theorem Ea(a b:ae):e_ (ah a) (ah b)=decide (a=b):=pL (λx y=>by show(x==y)=_;rfl) a b
def bo(n:Nat)(rs:ai):D:=.tup [.int n,.lst .fz (cz rs)]
def nG(rs:ai):Prop:=∃W:Nat,0<W/\W<64/\∀r∈rs,r.1.den∣W
def Rw(n:Nat)(l:ae):Prop:=l.Nodup/\l.length<=n/\∀h∈l,0<=h/\h<(n:Int)
theorem jx.rw{n:Nat}{l:ae}(h:jx n l):Rw n l:=⟨h.nodup,h.len,h.2⟩
structure Dp(P:ae->Prop)(k n:Nat)(rs:ai):Prop where
 n1:1<=n
 n2:n<=12
 wx:k*(rs.length+1)<=66
 fin:k*(rs.length+1)<=60\/nG rs
 len:rs.length<=1000
 lot:∀r∈rs,P r.2
 pos:∀r∈rs,0<r.1
 sm:∀r∈rs,Sm k r.1
 one:(rs.map (·.1)).sum=1
 rise:ym (rs.map (·.2))
abbrev Dr(k n:Nat)(rs:ai):Prop:=Dp (jx n) k n rs
theorem Dp.imp{P Q:ae->Prop}{k n:Nat}{rs:ai}(I:Dp P k n rs)(h:∀r∈rs,P r.2->Q r.2):Dp Q k n rs:=⟨I.n1,I.n2,I.wx,I.fin,I.len,λr hr=>h r hr (I.lot r hr),I.pos,I.sm,I.one,I.rise⟩
noncomputable def cq(rs:ai):az:=rs.map (·.1)
section
variable {P:ae->Prop}{k n:Nat}{rs:ai}(I:Dp P k n rs)
include I
theorem Dp.NW:Bb k (cq rs):=⟨λq hq=>by
 obtain⟨r,hr,rfl⟩:=List.mem_map.mp hq;exact I.sm r hr,by
  have:=I.wx;have h:k*(cq rs).length<=k*(rs.length+1):=aaK _ (by simp[cq]);left,by simp[cq];exact I.len⟩
omit I in
theorem o_{W:Nat}:∀(qs:az) (b:Nat),b∣W->(∀q∈qs,q.den∣W)->qs.foldl (λb q=>Nat.lcm b q.den) b∣W
 |[],_,h,_=>h
 |q::qs,b,h,hq=>o_ qs _ (Nat.lcm_dvd h (hq q aai)) λp hp=>hq p (aae _ hp)
theorem Dp.bot:0<bQ (cq rs)/\bQ (cq rs)<2 ^ 61/\∀q∈cq rs,q.den∣bQ (cq rs):=by
 obtain⟨a,b,c⟩:=I.NW.lcm;refine⟨a,?_,c⟩;rcases I.fin with f|⟨W,w0,w1,w2⟩
 ·refine aal b (aat (by decide) ?_);have h:k*(cq rs).length<=k*(rs.length+1):=aaK _ (by simp[cq]);left
 ·have:bQ (cq rs)∣W:=o_ _ 1 (Nat.one_dvd _) λq hq=>by
   obtain⟨r,hr,rfl⟩:=List.mem_map.mp hq;exact w2 r hr
  exact aaq (abn w0 this) (aal w1 (by decide))
theorem Dp.top{r:Row}(hr:r∈rs):(bL (bQ (cq rs)) r.1).natAbs<2 ^ 64:=by
 obtain⟨a,b,c⟩:=I.NW.lcm;have s:=I.sm r hr;unfold bL;rw[Int.natAbs_mul,Int.fdiv_eq_ediv_of_nonneg _ (by left),<- Int.natCast_ediv,Int.natAbs_natCast];have h4:(cq rs).length=rs.length:=by simp[cq]
 have h3:=I.wx;rcases I.fin with f|⟨W,w0,w1,w2⟩
 ·have h1:bQ (cq rs) / r.1.den<2 ^ (1+k*(cq rs).length):=aaq (ab0 _ _) b;have h2:=bF s.1 h1;refine aal h2 (aat (by decide) ?_);rw[h4];rw[Nat.mul_succ]at f;left
 ·have:bQ (cq rs)∣W:=o_ _ 1 (Nat.one_dvd _) λq hq=>by
   obtain⟨r,hr,rfl⟩:=List.mem_map.mp hq;exact w2 r hr
  have h1:bQ (cq rs) / r.1.den<2 ^ 6:=aaq (ab0 _ _) (aaq (abn w0 this) w1);have h2:=bF s.1 h1;refine aal h2 (aat (by decide) ?_);have hl:1<=rs.length:=List.length_pos_of_mem hr;have:k*2<=k*(rs.length+1):=aaK _ (by left);left
end
def p8(m:aw):Prop:=∀(r:Row) (n:Nat),n<=12->Rw n r.2->0<r.1->m [rD r,.int n]=ok (.bl true)
noncomputable def lD:ag:=[.ifs (.or [(.not (.vo (.v 0) .tuple)),(.cmp .ne (.bf .len [(.v 0)]) (.int 2))]) [.ret (.bl false)] [],.ifs (.not (.call 43 [(.ix (.v 0) (.int 1)),(.v 1)])) [.ret (.bl false)] [],.ret (.and [(.call 3 [(.ix (.v 0) (.int 0))]),(.cmp .gt (.ix (.ix (.v 0) (.int 0)) (.int 0)) (.int 0))])]
theorem Rw.houses{n:Nat}{l:ae}(h:Rw n l):cU (.tup (ah l)) n=true:=by
 have h1:(ah l).all (cG n)=true:=by
  unfold ah;rw[List.all_map,List.all_eq_true];intro x hx;have:=h.2.2 x hx;simp[cG,this.1,this.2]
 have h2:i5 l=l:=by
  have:=tS l [] (by simp) h.1;rw[List.nil_append]at this;exact this
 simp[cU,h1,gn,h2]
theorem Rw.eH{n:Nat}{l:ae}(h:Rw n l)(hn:n<=12):qJ (.tup (ah l)):=by
 have:=h.2.1;show(ah l).length<64;simp;left
theorem Ca(Φ:aT)(h3:eW (Φ 3))(W9:iG (Φ 43)):p8 (mk Φ 2 2 lD):=by
 intro r n hn hl hp;have e1:=W9 (.tup (ah r.2)) n (hl.eH hn);rw[hl.houses]at e1;have e2:=h3 (qD r.1);rw[zl]at e2;have Q2:=fL hp;have e3:rD r=.tup [qD r.1,.tup (ah r.2)]:=rfl;have e4:qD r.1=.tup [.int r.1.num,.int r.1.den]:=rfl;simp[mk_eq,lD,e3,eD,e1,e2];simp[e4,Q2]
theorem Gv(rL:Φ 1022=Ow){a b:ae}(h:HT.lexLt a b=true):Φ 1022 [.tup (ah a),.tup (ah b)]=ok (.bl false):=by
 rw[rL];show(match intsOf (ah a)with|some ns=>(match intsOf (ah b)with|some ms=>ok (D.bl (!HT.lexLt ns ms))|none=>none)|none=>none)=_;unfold ah;rw[bx,bx];show ok (D.bl (!HT.lexLt a b))=_;rw[h];rfl
def mW(m:aw):Prop:=∀(rs:ai),1<=rs.length->ym (rs.map (·.2))->m [.lst .fz (cz rs)]=ok (.bl true)
noncomputable def FT:ag:=[.ifs (.cI 1022 [(.ix (.v 1) (.int 1)),(.ix (.v 2) (.int 1))]) [.ret (.bl false)] []]
def gE:ag:=[.fr (.tp [1,2]) (.CA 1000 [(.v 0),(.cI 1020 [(.v 0),(.int 1)])]) FT,.ret (.bl true)]
theorem yH(Φ:aT)(rL:Φ 1022=Ow)(c0:aG):∀(rs:ai) (r:Row) (c1 c2:aG),ym ((r::rs).map (·.2)) ->
  ∃Bs t4,dJ (λd ρ=>bT (.tp [1,2]) d ρ) (λρ=>bI Φ FT ρ) (List.zipWith (λx y=>D.tup [x,y]) (cz (r::rs)) (cz rs)) [c0,c1,c2]=ok (.nx,[c0,Bs,t4])
 |[],r,c1,c2,_=>⟨c1,c2,rfl⟩
 |s::rs,r,c1,c2,h=>by
  have h':=List.pairwise_cons.mp h;obtain⟨Bs,t4,ih⟩:=yH Φ rL c0 rs s (some (rD r)) (some (rD s)) h'.2;have hl:=h'.1 s.2 (by simp);have e:=Gv rL hl;refine⟨Bs,t4,cN (ρ1:=[c0,some (rD r),some (rD s)]) (by simp) (ρ2:=[c0,some (rD r),some (rD s)]) ?_ ih⟩;have e1:∀r:Row,rD r=.tup [qD r.1,.tup (ah r.2)]:=λ_=>rfl;simp[FT,e1,e]
theorem uP(Φ:aT)(RU:Φ 1000=FC)(RR:Φ 1020=cutD true)(rL:Φ 1022=Ow):mW (mk Φ 1 3 gE):=by
 intro rs h1 hr;obtain⟨r,rs,rfl⟩:∃r mK,rs=r::mK:=by
  cases rs with
  |nil=>simp at h1
  |cons r rs=>exact⟨r,rs,rfl⟩
 obtain⟨c1,c2,e⟩:=yH Φ rL (some (.lst .fz (cz (r::rs)))) rs r none none hr;have e1:Φ 1020 [.lst .fz (cz (r::rs)),.int 1]=ok (.lst .ow (cz rs)):=by
  rw[RR];show(if (0:Int)<=1/\(1:Int)<=((cz (r::rs)).length:Nat)then ok (D.lst .ow (aF bE (qH true (1:Int).toNat (cz (r::rs)))))else none)=_;rw[if_pos ⟨by decide,by simp;left⟩];show ok (D.lst .ow (aF bE (cz rs)))=_;simp
 have e2:Φ 1000 [.lst .fz (cz (r::rs)),.lst .ow (cz rs)]=ok (.lst .ow (List.zipWith (λx y=>D.tup [x,y]) (cz (r::rs)) (cz rs))):=by rw[RU];rfl
 have e3:aF aW (List.zipWith (λx y=>D.tup [x,y]) (cz (r::rs)) (cz rs))=List.zipWith (λx y=>D.tup [x,y]) (cz (r::rs)) (cz rs):=by
  have:=gv aW (cz (r::rs)) (cz rs);rw[kZ,kZ]at this;exact this
 have hit:cc Φ (.CA 1000 [(.v 0),(.cI 1020 [(.v 0),(.int 1)])]) [some (.lst .fz (cz (r::rs))),none,none]=ok (List.zipWith (λx y=>D.tup [x,y]) (cz (r::rs)) (cz rs),[some (.lst .fz (cz (r::rs))),none,none]):=by
  show bd (cf Φ [(.v 0),(.cI 1020 [(.v 0),(.int 1)])] [some (.lst .fz (cz (r::rs))),none,none]) _=_;have:cf Φ [(.v 0),(.cI 1020 [(.v 0),(.int 1)])] [some (.lst .fz (cz (r::rs))),none,none]=ok [.lst .fz (cz (r::rs)),.lst .ow (cz rs)]:=by simp[e1]
  rw[this,dG,e2,dG];show ok (aF aW (List.zipWith (λx y=>D.tup [x,y]) (cz (r::rs)) (cz rs)),if aQ bZ [D.lst .fz (cz (r::rs)),.lst .ow (cz rs)]then _ else _)=_;rw[e3];simp
 have hf:=dQ (Φ:=Φ) (t:=.tp [1,2]) (b:=FT) hit e;simp[mk_eq,gE,hf]
def gx(rs:ai):aa:=rs.map λr=>.tup (ah r.2)
@[simp]theorem kl(g:Fl->Fl)(rs:ai):aF g (gx rs)=gx rs:=du g (λr=>by simp) rs
@[simp]theorem Ms(g:Fl->Bool)(rs:ai):aQ g (gx rs)=false:=cL g (λr=>by simp) rs
def si(b:Nat)(rs:ai):aa:=rs.map λr=>.tup [.int (bL b r.1),.tup (ah r.2)]
@[simp]theorem C6(g:Fl->Fl)(b:Nat)(rs:ai):aF g (si b rs)=si b rs:=du g (λr=>by simp) rs
@[simp]theorem Rp(g:Fl->Bool)(b:Nat)(rs:ai):aQ g (si b rs)=false:=cL g (λr=>by simp) rs
noncomputable def HS:CE:=.comp 2 (.tp [0,1]) [] .seq [(.v 0)] [] (.v 0)
noncomputable def HN:CE:=.comp 2 (.tp [0,1]) [] .seq [(.v 0)] [] (.v 1)
theorem So(Φ:aT){rs:ai}(h:rs.length<=1000)(r:aZ):bz Φ HS (some (.lst .fz (cz rs))::r)=ok (.lst .ow (a_ (cq rs))):=by
 unfold HS;rw[bW (xs:=[.lst .fz (cz rs)]) (items:=cz rs) (ds:=rs.map λr=>qD r.1) (by simp) (by rw[c_];simp) (bG λr hr=>?_) (by simp;exact bD (by left))]
 ·simp[a_,cq,aX]
 ·exact⟨[some (qD r.1),some (.tup (ah r.2))],by simp[bw,rD],by simp,by simp⟩
theorem Qp(Φ:aT){rs:ai}(h:rs.length<=1000)(r:aZ):bz Φ HN (some (.lst .fz (cz rs))::r)=ok (.lst .ow (gx rs)):=by
 unfold HN;rw[bW (xs:=[.lst .fz (cz rs)]) (items:=cz rs) (ds:=rs.map λr=>.tup (ah r.2)) (by simp) (by rw[c_];simp) (bG λr hr=>?_) (by simp;exact bD (by left))]
 ·exact aaX (λx=>ok (D.lst .ow x)) (kl iy rs)
 ·exact⟨[some (qD r.1),some (.tup (ah r.2))],by simp[bw,rD],by simp,by simp⟩
def mw(m:aw):Prop:=∀(rs:ai) k,Bb k (cq rs)->m [.lst .fz (cz rs)]=ok (.tup [.int (bQ (cq rs)),.lst .ow (si (bQ (cq rs)) rs)])
def jS:ag:=[.asg (.nm 1) HS,.asg (.nm 2) HN,.asg (.nm 3) (.call 9 [(.v 1)]),.ret (.tup [(.v 3),(.cI 1040 [(.call 10 [(.v 1),(.v 3)]),(.v 2)])])]
theorem Am(Φ:aT)(h9:fi (Φ 9))(Hx:ju (Φ 10))(RL:Φ 1040=Qn):mw (mk Φ 1 4 jS):=by
 intro rs k hs;have hl:rs.length<=1000:=by have:=hs.len;simpa [cq]using this
 have e1:=So Φ hl;have e2:=Qp Φ hl;have e3:=λf=>h9 f (cq rs) k hs;have e4:=λf=>Hx f (cq rs) k (bQ (cq rs)) hs hs.LG;generalize bQ (cq rs)=b at *;have e5:Φ 1040 [.lst .ow (ah ((cq rs).map (bL b))),.lst .al (gx rs)]=ok (.lst .ow (si b rs)):=by
  rw[RL];show ok (D.lst .ow (aF bE (List.zipWith pairD (ah ((cq rs).map (bL b))) (gx rs))))=_;rw[gv,gw,kl];unfold cq ah gx si;rw[List.map_map,List.map_map,List.zipWith_map,List.zipWith_self];rfl
 simp[mk_eq,jS,Fd Φ HS _ rfl,Fd Φ HN _ rfl,e1,e2,e3,e4,e5]
noncomputable def Nk:CE:=.comp 2 (.tp [0,1]) [] .seq [(.ix (.v 1) (.int 1))] [] (.v 0)
def kh(m:aw):Prop:=∀(rs:ai) k,Bb k (cq rs)->(cq rs).sum=1->m [.lst .fz (cz rs)]=ok (.bl true)
def eV:ag:=[.asg (.nm 1) (.call 14 [(.v 0)]),.ret (.cmp .eq (.bf .j4 [Nk]) (.ix (.v 1) (.int 0)))]
theorem BJ{b:Nat}(h:∀q∈qs,q.den∣b)(h1:qs.sum=1):(qs.map (bL b)).sum=(b:Int):=by
 have:=oE h;rw[h1,Rat.one_mul,<- Rat.intCast_natCast]at this;exact Rat.intCast_inj.mp this
theorem qw(Φ:aT)(Xh:mw (Φ 14)):kh (mk Φ 1 2 eV):=by
 intro rs k hs h1;have hl:rs.length<=1000:=by have:=hs.len;simpa [cq]using this
 have e1:=Xh rs k hs;have hb:=hs.lcm;have e2:=BJ hb.2.2 h1;generalize bQ (cq rs)=b at *;have e3:∀c0,bz Φ Nk [c0,some (.tup [.int b,.lst .ow (si b rs)])]=ok (.lst .ow (ah ((cq rs).map (bL b)))):=λc0=>by
  unfold Nk;rw[bW (xs:=[.lst .al (si b rs)]) (items:=si b rs) (ds:=rs.map λr=>.int (bL b r.1)) (by simp) (by rw[c_];simp) (bG λr hr=>?_) (by simp;exact bD (by left))]
  ·simp[ah,cq,aX]
  ·exact⟨[some (.int (bL b r.1)),some (.tup (ah r.2))],by simp[bw],by simp,by simp⟩
 have e4:pY .j4 [.lst .ow (ah ((cq rs).map (bL b)))]=ok (.int b):=by
  show(match intsOf (ah ((cq rs).map (bL b)))with|some ns=>ok (D.int ns.sum)|none=>none)=_;unfold ah;rw[bx];show ok (D.int ((cq rs).map (bL b)).sum)=_;rw[e2]
 have e5:ez .eq (.int (b:Int)) (.int (b:Int))=ok (.bl true):=by
  show(if dA 40 (.int (b:Int))&&dA 40 (.int (b:Int))then ok (D.bl ((b:Int)==(b:Int)))else none)=_;simp[dA]
 simp[mk_eq,eV,e1,e3,e4,e5]
noncomputable def nL:ag:=[.ifs (.not (.call 12 [(.v 3),(.v 1)])) [.ret (.bl false)] []]
def iC:ag:=[.ifs (.or [(.not (.vo (.v 0) .tuple)),(.cmp .ne (.bf .len [(.v 0)]) (.int 2))]) [.ret (.bl false)] [],.asg (.nm 1) (.ix (.v 0) (.int 0)),.asg (.nm 2) (.ix (.v 0) (.int 1)),.ifs (.or [(.not (.call 0 [(.v 1)])),(.cmp .lt (.v 1) (.int 1)),(.cmp .gt (.v 1) (.glo "MOST_HOUSES" 12))]) [.ret (.bl false)] [],.ifs (.not (.vo (.v 2) .list)) [.ret (.bl false)] [],.fr (.nm 3) (.seq (.v 2)) nL,.ret (.and [(.call 44 [(.v 2)]),(.call 15 [(.v 2)])])]
def SJ(m:aw):Prop:=∀k n rs,Dr k n rs->m [bo n rs]=ok (.bl true)
def JU(m:aw):Prop:=∀k n rs,Dp (Rw n) k n rs->m [bo n rs]=ok (.bl true)
theorem pO(Φ:aT)(Ov:p8 (Φ 12)){n:Nat}(hn:n<=12)(c0 c2:aG):∀(rs:ai) (c3:aG),(∀r∈rs,Rw n r.2/\0<r.1)->∃yb,dJ (λd ρ=>bT (.nm 3) d ρ) (λρ=>bI Φ nL ρ) (cz rs) [c0,some (.int n),c2,c3]=ok (.nx,[c0,some (.int n),c2,yb])
 |[],c3,_=>⟨c3,rfl⟩
 |r::rs,c3,h=>by
  obtain⟨yb,ih⟩:=pO Φ Ov hn c0 c2 rs (some (rD r)) λs hs=>h s (aae _ hs);have h1:=h r aai;have e:=Ov r n hn h1.1 h1.2;refine⟨yb,cN (ρ1:=[c0,some (.int n),c2,some (rD r)]) (by simp) (ρ2:=[c0,some (.int n),c2,some (rD r)]) ?_ ih⟩;simp[nL,e]
theorem Dp.some{P:ae->Prop}{k n:Nat}{rs:ai}(I:Dp P k n rs):1<=rs.length:=by
 cases rs with
 |nil=>have:=I.one;simp at this
 |cons r rs=>simp
theorem wY(Φ:aT)(h0:eO (Φ 0))(Ov:p8 (Φ 12))(h15:kh (Φ 15))(h44:mW (Φ 44)):JU (mk Φ 1 4 iC):=by
 intro k n rs I;have n1:=I.n1;have n2:=I.n2;have e1:=h15 rs k I.NW I.one;have e2:=h44 rs I.some I.rise;have e3:Φ 0 [.int (n:Int)]=ok (.bl true):=by rw[h0];rfl
 obtain⟨c3,e4⟩:=pO Φ Ov n2 (some (bo n rs)) (some (.lst .fz (cz rs))) rs none λr hr=>⟨I.lot r hr,I.pos r hr⟩
 have hit:cc Φ (.seq (.v 2)) [some (bo n rs),some (.int n),some (.lst .fz (cz rs)),none]=ok (cz rs,[some (bo n rs),some (.int n),some (.lst .fz (cz rs)),none]):=by
  rw[qB (f:=.fz) (ds:=cz rs) (by simp)];simp
 have hf:=dQ (Φ:=Φ) (t:=.nm 3) (b:=nL) hit e4;have c1:ez .lt (.int (n:Int)) (.int 1)=ok (.bl false):=by
  show ok (D.bl (decide ((n:Int)<1)))=_;rw[decide_eq_false (by left)]
 have c2:ez .gt (.int (n:Int)) (.int 12)=ok (.bl false):=by
  show ok (D.bl (decide ((12:Int)<n)))=_;rw[decide_eq_false (by left)]
 have ty1:∀ds,eD .tuple (.tup ds)=true:=λ_=>rfl;have ty2:∀f ds,eD .list (.lst f ds)=true:=λ_ _=>rfl;unfold bo at hf ⊢;simp[mk_eq,iC,ty1,ty2,e3,c1,c2,hf,e2,e1]
noncomputable def Nt:CE:=.comp 2 (.tp [0,1]) [0] .seq [(.ix (.v 0) (.int 1))] [] (.call 11 [(.v 1),(.ix (.v 2) (.int 0))])
def fH:ag:=[.ret (.and [(.call 45 [(.v 0)]),(.bf .all1 [Nt])])]
theorem sF(Φ:aT)(Xi:p9 (Φ 11))(h45:JU (Φ 45)):SJ (mk Φ 1 1 fH):=by
 intro k n rs I;have e1:=h45 k n rs (I.imp λ_ _ h=>h.rw);have e2:bz Φ Nt [some (bo n rs)]=ok (.lst .ow (lr (rs.map λ_=>true))):=by
  unfold Nt;rw[bW (xs:=[.lst .fz (cz rs)]) (items:=cz rs) (ds:=rs.map λ_=>.bl true) (by simp[bo]) (by rw[c_];simp) (bG λr hr=>?_) (by simp;exact bD (by have:=I.len;left))]
  ·simp[lr,aX]
  ·have hl:=I.lot r hr;have e:=Xi (.tup (ah r.2)) n (hl.eH I.n2);rw[hl.s_]at e;exact⟨[some (qD r.1),some (.tup (ah r.2)),some (bo n rs)],by simp[bw,rD,bo],by simp,by simp[bo,e]⟩
 have e3:pY .all1 [.lst .ow (lr (rs.map λ_=>true))]=ok (.bl true):=by
  show(match jt (lr (rs.map λ_=>true))with|some bs=>ok (D.bl (bs.all id))|none=>none)=_;unfold lr;rw[mm];show ok (D.bl ((rs.map λ_=>true).all id))=_;congr 2;simp
 have m1:aS aW (bo n rs)=bo n rs:=by simp[bo]
 have m2:aS bE (bo n rs)=bo n rs:=by simp[bo]
 simp[mk_eq,fH,m1,m2,e1,e2,e3]
def p_(m:aw):Prop:=∀k n rs,Dr k n rs->m [bo n rs]=ok .bV
noncomputable def dN:ag:=[.ifs (.not (.call 16 [(.v 0)])) [.rs 1] []]
theorem nc(Φ:aT)(h16:SJ (Φ 16)):p_ (mk Φ 1 1 dN):=by
 intro k n rs I;have e1:=h16 k n rs I;have m1:aS aW (bo n rs)=bo n rs:=by simp[bo]
 have m2:aS bE (bo n rs)=bo n rs:=by simp[bo]
 simp[mk_eq,dN,m1,m2,e1]
noncomputable def w8(ws xs:az):az:=(ws.zip xs).map λp=>p.1*p.2
noncomputable def qL(ts:ae)(h:Int):Int:=ts.getD h.toNat 0
def sumZ(lot:ae)(ts:ae):Int:=(lot.map (qL ts)).sum
theorem Io{ts:ae}{h:Int}(h0:0<=h)(h1:h<ts.length):v9 (ah ts) h=ok (.int (qL ts h)):=by
 have hl:h.toNat<ts.length:=by left
 have:=at_of (ds:=ah ts) (d:=.int (qL ts h)) h0 (by
  rw[rG,List.getElem?_eq_getElem hl];show some (D.int ts[h.toNat])=_;unfold qL;simp[hl])
 simpa using this
structure Gs(j n:Nat)(ws xs:az):Prop where
 l1:ws.length=n
 l2:xs.length=n
 s1:∀q∈ws,Sm j q
 s2:∀q∈xs,Sm j q
 jj:j<=100
theorem Gs.NW{j n:Nat}(G:Gs j n ws xs)(hn:n<=12):Bb (j+j) (w8 ws xs):=by
 have hl:(w8 ws xs).length=n:=by unfold w8;rw[List.length_map,List.length_zip,G.l1,G.l2,Nat.min_self]
 have hj:=G.jj;refine⟨λq hq=>?_,?_,by left⟩
 ·obtain⟨p,hp,rfl⟩:=List.mem_map.mp hq;have m:=List.of_mem_zip hp;exact(G.s1 _ m.1).mul (G.s2 _ m.2)
 ·rw[hl];have:(j+j)*n<=200*12:=aaG (by left) hn;left
theorem Gs.at{j n:Nat}{ws xs:az}(G:Gs j n ws xs){h:Int}(h0:0<=h)(h1:h<n):bK (w8 ws xs) h=bK ws h*bK xs h:=by
 obtain⟨g1,_⟩:=bh (qs:=ws) h0 (by rw[G.l1];exact h1);obtain⟨g2,_⟩:=bh (qs:=xs) h0 (by rw[G.l2];exact h1);unfold bK at *;unfold w8;rw[List.getD_eq_getElem?_getD,List.getElem?_map,List.zip,List.getElem?_zipWith,g1,g2];rfl
def DU(rs:ai)(P:az):ae:=rs.map λr=>sumZ r.2 (P.map (bL (bQ P)))
def wK(b:Nat)(rs:ai)(gs:ae):Int:=((rs.zip gs).map λp=>bL b p.1.1*p.2).sum
def cK(rs:ai)(ws xs:az):Rat:=(rs.map λr=>r.1*dC r.2 λh=>bK ws h*bK xs h).sum
theorem FP{b:Nat}{P:az}(hd:∀q∈P,q.den∣b){h:Int}(h0:0<=h)(h1:h<P.length):((qL (P.map (bL b)) h:Int):Rat)=bK P h*(b:Rat):=by
 obtain⟨g,m⟩:=bh (qs:=P) h0 h1;have hl:h.toNat<P.length:=by left
 have e:qL (P.map (bL b)) h=bL b (bK P h):=by
  unfold qL;rw[List.getD_eq_getElem?_getD,List.getElem?_map,g];rfl
 rw[e,kR (hd _ m)]
theorem oH{b:Nat}{P:az}(hd:∀q∈P,q.den∣b):∀(lot:ae),(∀h∈lot,0<=h/\h<(P.length:Int))->((sumZ lot (P.map (bL b)):Int):Rat)=(dC lot λh=>bK P h)*(b:Rat)
 |[],_=>by simp[sumZ,dC,Rat.zero_mul]
 |h::lot,hh=>by
  have ih:=oH hd lot λx hx=>hh x (aae _ hx);have h1:=hh h aai;have e:sumZ (h::lot) (P.map (bL b))=qL (P.map (bL b)) h+sumZ lot (P.map (bL b)):=rfl;rw[e,Rat.intCast_add,FP hd h1.1 h1.2,ih,gX];grind
theorem yw{b c:Nat}{P:az}(hc:∀q∈P,q.den∣c):∀(rs:ai),(∀r∈rs,r.1.den∣b)->(∀r∈rs,∀h∈r.2,0<=h/\h<(P.length:Int)) ->
  ((wK b rs (rs.map λr=>sumZ r.2 (P.map (bL c))):Int):Rat)=(rs.map λr=>r.1*dC r.2 λh=>bK P h).sum*((b:Rat)*(c:Rat))
 |[],_,_=>by simp[wK,Rat.zero_mul]
 |r::rs,hb,hl=>by
  have ih:=yw hc rs (λs hs=>hb s (aae _ hs)) λs hs=>hl s (aae _ hs);have e:wK b (r::rs) ((r::rs).map λr=>sumZ r.2 (P.map (bL c)))=bL b r.1*sumZ r.2 (P.map (bL c))+wK b rs (rs.map λr=>sumZ r.2 (P.map (bL c))):=rfl;rw[e,Rat.intCast_add,Rat.intCast_mul,kR (hb r List.mem_cons_self),oH hc r.2 (hl r List.mem_cons_self),ih,List.map_cons,List.sum_cons];grind
theorem wz{p i:Nat}{es:aD}{xs:aa}{d d':D}(h1:cf Φ es ρ=ok xs)(h2:aQ bZ xs=false)(h3:ρ[i]?=some (some d))(h4:Φ p (d::xs)=ok d'):qG Φ (.mut p i es) ρ=ok (.nx,ρ.set i (some d')):=by
 show bd (cf Φ es ρ) (λxs=>xh Φ p i (pb es xs ρ))=_;rw[h1,dG];unfold pb;rw[h2,if_neg Bool.false_ne_true];unfold xh;rw[h3];show bd (Φ p (d::xs)) _=_;rw[h4];rfl
theorem EN(i:Int):cQ .band (.int i) (.int 1)=ok (.int (i % 2)):=rfl
theorem l8(c:ae):∀(cs:aA) (ws:ae),cH cs (ah ws) c=(cH cs ws c).map D.int
 |[],_=>by cases ‹ae› <;> rfl
 |_::_,[]=>rfl
 |c'::cs,w::ws=>by
  show(if c'=c then some (D.int w)else cH cs (ah ws) c)=Option.map D.int (if c'=c then some w else cH cs ws c);by_cases e:c'=c
  ·rw[if_pos e,if_pos e];rfl
  ·rw[if_neg e,if_neg e];exact l8 c cs ws
theorem qW(c:ae)(v:Int):∀(cs:aA) (ws:ae),setC cs (ah ws) c (.int v)=ah (setC cs ws c v)
 |[],_=>by cases ‹ae› <;> rfl
 |_::_,[]=>rfl
 |c'::cs,w::ws=>by
  show(if c'=c then D.int v else D.int w)::setC cs (ah ws) c (.int v)=D.int (if c'=c then v else w)::ah (setC cs ws c v);rw[qW c v cs ws];by_cases e:c'=c
  ·rw[if_pos e,if_pos e]
  ·rw[if_neg e,if_neg e]
theorem wB(cs:aA)(ws:ae)(c:ae)(v:Int):b9 cs (ah ws) c (.int v)=ah (b9 cs ws c v):=by
 unfold b9;by_cases e:c∈cs
 ·rw[if_pos e,if_pos e];exact qW c v cs ws
 ·rw[if_neg e,if_neg e];simp
def cM(cs:aA)(ws:ae)(c:ae):Int:=(cH cs ws c).getD 0
theorem pz{α:Type}{c:ae}:∀{cs:aA} (ws:List α),c∉cs->cH cs ws c=none
 |[],_,_=>by cases ‹List α› <;> rfl
 |_::_,[],_=>rfl
 |c'::cs,w::ws,h=>by
  show(if c'=c then some w else cH cs ws c)=none;rw[if_neg λe=>h (by rw[e];exact List.mem_cons_self)];exact pz ws λz=>h (aae _ z)
theorem lh{α:Type}{c:ae}:∀{cs:aA} {ws:List α},cs.length=ws.length->c∈cs->∃w,cH cs ws c=some w/\w∈ws
 |[],_,_,h=>nomatch h
 |_::_,[],hl,_=>by simp at hl
 |c'::cs,w::ws,hl,h=>by
  by_cases e:c'=c
  ·exact⟨w,aaV e,aai⟩
  ·have h':c∈cs:=(List.mem_cons.mp h).resolve_left λz=>e z.symm;obtain⟨w',e1,e2⟩:=lh (cs:=cs) (ws:=ws) (by simpa using hl) h';exact⟨w',(ab9 e).trans e1,aae _ e2⟩
theorem o5:∀{cs:aA} {ws:ae},cs.Nodup->cs.length=ws.length->cs.map (cM cs ws)=ws
 |[],[],_,_=>rfl
 |[],_::_,_,h=>by simp at h
 |_::_,[],_,h=>by simp at h
 |c::cs,w::ws,hn,hl=>by
  have za:=List.nodup_cons.mp hn;have ih:=o5 (cs:=cs) (ws:=ws) za.2 (by simpa using hl);rw[List.map_cons];have e1:cM (c::cs) (w::ws) c=w:=by
   show(if c=c then some w else cH cs ws c).getD 0=w;rw[if_pos rfl];rfl
  have e2:cs.map (cM (c::cs) (w::ws))=cs.map (cM cs ws):=aaj λx hx=>by
   show(if c=x then some w else cH cs ws x).getD 0=_;rw[if_neg (show ¬ c=x from λz=>za.1 (by rw[z];exact hx))];rfl
  rw[e1,e2,ih]
theorem uM{c:ae}{v:Int}:∀{cs:aA} {ws:ae},cs.Nodup->cs.length=ws.length->c∈cs->(setC cs ws c v).sum=ws.sum - cM cs ws c+v/\(setC cs ws c v).length=ws.length
 |[],_,_,_,h=>nomatch h
 |_::_,[],_,h,_=>by simp at h
 |c'::cs,w::ws,hn,hl,h=>by
  have za:=List.nodup_cons.mp hn;have qC:cs.length=ws.length:=by simpa using hl
  have es:setC (c'::cs) (w::ws) c v=(if c'=c then v else w)::setC cs ws c v:=rfl;by_cases e:c'=c
  ·have QQ:∀{cs:aA} {ws:ae},cs.length=ws.length->c∉cs->setC cs ws c v=ws:=λ{cs}=>by
    induction cs with
    |nil=>intro ws hl _;cases ws with|nil=>rfl|cons _ _=>simp at hl
    |cons d cs ih =>
     intro ws hl hc;cases ws with
     |nil=>simp at hl
     |cons w ws =>
      show(if d=c then v else w)::setC cs ws c v=_;rw[if_neg λz=>hc (by rw[z];exact List.mem_cons_self),ih (by simpa using hl) λz=>hc (List.mem_cons_of_mem _ z)]
   have hcn:c∉cs:=e▸za.1;rw[es,if_pos e,QQ qC hcn];have eg:cM (c'::cs) (w::ws) c=w:=by
    show(if c'=c then some w else cH cs ws c).getD 0=w;rw[if_pos e];rfl
   rw[eg];refine⟨?_,rfl⟩;rw[List.sum_cons,List.sum_cons];left
  ·have h':c∈cs:=(List.mem_cons.mp h).resolve_left λz=>e z.symm;obtain⟨i1,i2⟩:=uM (v:=v) za.2 qC h';have eg:cM (c'::cs) (w::ws) c=cM cs ws c:=by
    show(if c'=c then some w else cH cs ws c).getD 0=_;rw[if_neg e];rfl
   rw[es,if_neg e,eg];refine⟨?_,by rw[List.length_cons,List.length_cons,i2]⟩;rw[List.sum_cons,List.sum_cons,i1];left
theorem uN{c:ae}{v:Int}:∀{cs:aA} {ws:ae} {x:Int},x∈setC cs ws c v->x∈ws\/x=v
 |[],_,_,h=>by cases ‹ae› <;> exact nomatch h
 |_::_,[],_,h=>nomatch h
 |c'::cs,w::ws,x,h=>by
  have h:x∈(if c'=c then v else w)::setC cs ws c v:=h;rcases List.mem_cons.mp h with e|h
  ·by_cases q:c'=c
   ·rw[if_pos q]at e;exact .inr e
   ·rw[if_neg q]at e;rw[e];exact .inl aai
  ·rcases uN h with h|h
   ·exact .inl (aae _ h)
   ·exact .inr h
structure Tab(P:ae->Prop)(j:Nat)(cs:aA)(ws:ae):Prop where
 nd:cs.Nodup
 ln:cs.length=ws.length
 wx:cs.length<=j
 lot:∀c∈cs,P c
 pos:∀w∈ws,1<=w
 sum:ws.sum<=7*j
 ne:1<=j->cs≠[]
variable {cs:aA}
theorem Tab.get{n:ae->Prop}{j:Nat}{ws:ae}(T:Tab n j cs ws)(c:ae):0<=cM cs ws c:=by
 by_cases h:c∈cs
 ·obtain⟨w,e,m⟩:=lh T.ln h;unfold cM;rw[e];have:=T.pos w m;show 0<=w;left
 ·unfold cM;rw[pz ws h];exact Int.le_refl _
theorem Tab.put{n:ae->Prop}{j:Nat}{ws:ae}(T:Tab n j cs ws){c:ae}(hc:n c){i:Int}(h1:1<=i)(h7:i<=7):Tab n (j+1) (dm cs c) (b9 cs ws c (cM cs ws c+i)):=by
 have hg:=T.get c;have hf:=T.wx;have hs:=T.sum;by_cases h:c∈cs
 ·obtain⟨s1,s2⟩:=uM (v:=cM cs ws c+i) T.nd T.ln h;unfold dm b9;rw[if_pos h,if_pos h];refine⟨T.nd,by rw[s2];exact T.ln,by left,T.lot,λw hw=>?_,by rw[s1];left,λ_ z=>by rw[z]at h;cases h⟩;rcases uN hw with hw|rfl
  ·exact T.pos w hw
  ·left
 ·have hz:cM cs ws c=0:=by unfold cM;rw[pz ws h];rfl
  unfold dm b9;rw[if_neg h,if_neg h,hz];refine⟨?_,by rw[List.length_append,List.length_append,T.ln];rfl,by rw[List.length_append,List.length_singleton];left,λd hd=>?_,λw hw=>?_,by rw[List.sum_append];simp;left,λ_ z=>by simp at z⟩
  ·refine List.nodup_append.mpr ⟨T.nd,List.nodup_cons.mpr ⟨List.not_mem_nil,abD⟩,λa ha b hb e=>?_⟩;rw[List.mem_singleton.mp hb]at e;exact h (e▸ha)
  ·rcases List.mem_append.mp hd with hd|hd
   ·exact T.lot d hd
   ·rw[List.mem_singleton.mp hd];exact hc
  ·rcases List.mem_append.mp hw with hw|hw
   ·exact T.pos w hw
   ·rw[List.mem_singleton.mp hw];left
def m5(cs:aA)(ws:ae):ai:=(bt cs).map λc=>(Rat.divInt (cM cs ws c) ws.sum,c)
theorem Tab.yV{n:ae->Prop}{j:Nat}{ws:ae}(T:Tab n j cs ws):∀w∈ws,w<=ws.sum:=λw hw=>by
 have:∀l:ae,(∀x∈l,1<=x)->0<=l.sum/\∀x∈l,x<=l.sum:=λl=>by
  induction l with
  |nil=>intro _;exact⟨Int.le_refl _,λ_ h=>nomatch h⟩
  |cons a l ih =>
   intro h;obtain⟨i1,i2⟩:=ih λx hx=>h x (aae _ hx);have ha:=h a aai;rw[List.sum_cons];refine⟨by left,λx hx=>?_⟩;rcases List.mem_cons.mp hx with rfl|hx
   ·left
   ·have:=i2 x hx;left
 exact(this ws T.pos).2 w hw
theorem sv(W:Int)(hW:W≠0):∀ls:ae,(ls.map λx=>Rat.divInt x W).sum=Rat.divInt ls.sum W
 |[]=>by simp
 |x::ls=>by
  rw[List.map_cons,List.sum_cons,sv W hW ls,List.sum_cons,Rat.divInt_eq_div,Rat.divInt_eq_div,Rat.divInt_eq_div,Rat.intCast_add];grind
theorem uY{a b:az}(h:a.Perm b):a.sum=b.sum:=by
 induction h with
 |nil=>rfl
 |cons x _ ih=>rw[List.sum_cons,List.sum_cons,ih]
 |swap x y l=>rw[List.sum_cons,List.sum_cons,List.sum_cons,List.sum_cons];grind
 |trans _ _ i1 i2=>rw[i1,i2]
theorem Tab.dr{P:ae->Prop}{n j:Nat}{ws:ae}(T:Tab P j cs ws)(h1:1<=j)(h6:j<=8)(n1:1<=n)(n2:n<=12):Dp P 6 n (m5 cs ws):=by
 have hp:(bt cs).Perm cs:=aaU _ _;have hl:(m5 cs ws).length=cs.length:=by unfold m5;rw[List.length_map];exact hp.length_eq
 have hf:=T.wx;have hs:=T.sum;have val:∀c∈bt cs,1<=cM cs ws c/\cM cs ws c<=ws.sum:=λc hc=>by
  obtain⟨w,e,m⟩:=lh T.ln (hp.mem_iff.mp hc);unfold cM;rw[e];exact⟨T.pos w m,T.yV w m⟩
 have hW:1<=ws.sum:=by
  obtain⟨c,hc⟩:=List.exists_mem_of_ne_nil cs (T.ne h1);have:=val c (hp.mem_iff.mpr hc);left
 refine⟨n1,n2,by rw[hl];left,.inl (by rw[hl];left),by rw[hl];left,λr hr=>?_,λr hr=>?_,λr hr=>?_,?_,?_⟩
 ·obtain⟨c,hc,rfl⟩:=List.mem_map.mp hr;exact T.lot c (hp.mem_iff.mp hc)
 ·obtain⟨c,hc,rfl⟩:=List.mem_map.mp hr;exact pQ (by have:=val c hc;left) (by left)
 ·obtain⟨c,hc,rfl⟩:=List.mem_map.mp hr;have:=val c hc;exact B0 (by left) (by show _<64;left) (by show _<64;left)
 ·have e:(m5 cs ws).map (·.1)=(bt cs).map λc=>Rat.divInt (cM cs ws c) ws.sum:=by
   unfold m5;rw[List.map_map];rfl
  rw[e];have e2:((bt cs).map λc=>Rat.divInt (cM cs ws c) ws.sum).sum=(cs.map λc=>Rat.divInt (cM cs ws c) ws.sum).sum:=uY (hp.map _);have e3:(cs.map λc=>Rat.divInt (cM cs ws c) ws.sum)=(cs.map (cM cs ws)).map λx=>Rat.divInt x ws.sum:=by rw[List.map_map];rfl
  rw[e2,e3,o5 T.nd T.ln,sv _ (by left),Rat.divInt_eq_div];have z:((ws.sum:Int):Rat)≠0:=λz=>by rw[Rat.intCast_eq_zero_iff]at z;left
  grind
 ·have e:(m5 cs ws).map (·.2)=bt cs:=by
   unfold m5;rw[List.map_map];exact(aaj λ_ _=>rfl).trans (List.map_id _)
  rw[e];exact kj T.nd
theorem Qo(n:Nat)(t:Nat->Bool):jx n (((List.range n).filter t).map λ(k:Nat)=>(k:Int)):=by
 refine⟨?_,λh hh=>?_⟩
 ·rw[List.pairwise_map];refine(List.Pairwise.filter _ List.pairwise_lt_range).imp λz=>?_;left
 ·obtain⟨k,hk,rfl⟩:=List.mem_map.mp hh;have:=List.mem_range.mp (List.mem_filter.mp hk).1;left
noncomputable def xQ:CE:=.comp 1 (.nm 0) [7] .jK [(.v 4)] [(.cmp .eq (.bin .band (.bin .shr (.v 1) (.v 0)) (.int 1)) (.int 1))] (.v 0)
noncomputable def x_:CS:=.mut 1033 5 [(.bin .add (.bin .add (.cI 1031 [(.v 5),(.v 8),(.int 0)]) (.int 1)) (.bin .mod (.bin .fdiv (.v 7) (.int 4096)) (.int 7))),(.v 8)]
def FY:ag:=[.asg (.nm 7) (.call 200 [(.v 0),(.bin .add (.bin .add (.v 1) (.int 1)) (.v 6))]),.asg (.nm 8) (.bf .tuple1 [xQ]),x_]
noncomputable def Np:CE:=.comp 1 (.nm 0) [5] (.cI 1100) [(.v 5)] [] (.cI 1032 [(.v 1),(.v 0)])
noncomputable def Nq:CE:=.comp 1 (.nm 0) [9,5] .seq [(.cI 1035 [(.v 5)])] [] (.tup [(.call 201 [(.cI 1032 [(.v 2),(.v 0)]),(.v 1)]),(.v 0)])
def jW:ag:=[.asg (.nm 3) (.call 200 [(.v 0),(.v 1)]),.asg (.nm 4) (.bin .add (.int 1) (.bin .mod (.v 3) (.v 2))),.asg (.nm 3) (.bin .fdiv (.v 3) (.v 2)),.asg (.nm 5) (.cI 1030 []),.fr (.nm 6) (.jK (.bin .add (.int 1) (.bin .mod (.v 3) (.int 6)))) FY,.asg (.nm 9) (.bf .j4 [Np]),.ret (.tup [(.v 4),Nq])]
structure EX(Φ:aT):Prop where
 RQ:Φ 1030=Ei
 RP:Φ 1031=vQ
 RO:Φ 1032=Em
 RN:Φ 1033=vO
 RM:Φ 1035=pN
 RH:Φ 1100=pP
theorem HY(Φ:aT){n:Nat}(hn:n<=12)(N:Int)(a b c d e f:aG)(r:aZ):∃lot,jx n lot/\bz Φ xQ (a::b::c::d::some (.int n)::e::f::some (.int N)::r)=ok (.lst .ow (ah lot)):=by
 refine⟨_,Qo n λ(k:Nat)=>decide (N / 2 ^ k % 2=1),?_⟩;unfold xQ;rw[bW (xs:=[.int n]) (ds:=((List.range n).filter λ(k:Nat)=>decide (N / 2 ^ k % 2=1)).map λ(k:Nat)=>D.int (k:Int)) (by simp) (jO Φ (by left) (by left)) ?_ ?_]
 ·simp[aX,ah]
 ·rw[Int.toNat_natCast];refine fb λk hk=>⟨[some (.int k),some (.int N)],by simp[bw],?_,λ_=>by simp⟩
  have e1:cQ .shr (.int N) (.int k)=ok (.int (N / 2 ^ k)):=by rw[JO (by left)];simp
  simp[e1,EN]
 ·have:=abS (λ(k:Nat)=>decide (N / 2 ^ k % 2=1)) (List.range n);simp at this ⊢;exact bD (by left)
theorem Ny(P:EX Φ)(f:Fl)(cs:aA)(ws:ae)(c:ae):Φ 1031 [.cO f cs (ah ws),.tup (ah c),.int 0]=ok (.int (cM cs ws c)):=by
 rw[P.RP];show(match intsOf (ah c)with|some c=>if aQ anyF (ah ws)=false/\bc anyF (.int 0)=false then ok ((cH cs (ah ws) c).getD (.int 0))else none|none=>none)=_;unfold ah;rw[bx];show(if aQ anyF (ah ws)=false/\bc anyF (.int 0)=false then ok ((cH cs (ah ws) c).getD (.int 0))else none)=_;rw[if_pos ⟨vE _ _,rfl⟩,l8];unfold cM;cases cH cs ws c<;>rfl
theorem Nv(P:EX Φ)(hl:cs.length<1000)(ws:ae)(c:ae)(v:Int):Φ 1033 [.cO .ow cs (ah ws),.int v,.tup (ah c)]=ok (.cO .ow (dm cs c) (ah (b9 cs ws c v))):=by
 rw[P.RN];show(match intsOf (ah c)with|some c=>if d_ .ow=true/\bc anyF (.int v)=false/\cs.length<eH then ok (D.cO .ow (dm cs c) (b9 cs (ah ws) c (.int v)))else none|none=>none)=_;unfold ah;rw[bx];show(if d_ .ow=true/\bc anyF (.int v)=false/\cs.length<eH then ok (D.cO .ow (dm cs c) (b9 cs (ah ws) c (.int v)))else none)=_;rw[if_pos ⟨rfl,rfl,by show _<1000000;left⟩,wB];rfl
theorem JI(P:EX Φ)(f:Fl){ws:ae}(hl:cs.length=ws.length){c:ae}(h:c∈cs):Φ 1032 [.cO f cs (ah ws),.tup (ah c)]=ok (.int (cM cs ws c)):=by
 obtain⟨w,e,_⟩:=lh hl h;rw[P.RO];show(match intsOf (ah c)with|some c=>(match cH cs (ah ws) c with|some v=>if bc anyF v=false then ok v else none|none=>none)|none=>none)=_;unfold ah;rw[bx];show(match cH cs (ah ws) c with|some v=>if bc anyF v=false then ok v else none|none=>none)=_;rw[l8,e];unfold cM;rw[e];rfl
theorem zt(Φ:aT)(P:EX Φ)(nA:qa (Φ 200))(ns:ae){a:Int}(ha:0<=a){n:Nat}(hn:n<=12)(c2 c3:aG):∀(k j:Nat) (cs:aA) (ws:ae) (c6 c7 c8:aG),Tab (jx n) j cs ws->j+k<=6 ->
  ∃JJ SU ml mj XZ,dJ (λd ρ=>bT (.nm 6) d ρ) (λρ=>bI Φ FY ρ) ((List.range' j k).map λ(i:Nat)=>D.int (i:Int)) [some (.lst .sc (ah ns)),some (.int a),c2,c3,some (.int n),some (.cO .ow cs (ah ws)),c6,c7,c8,none] =
   ok (.nx,[some (.lst .sc (ah ns)),some (.int a),c2,c3,some (.int n),some (.cO .ow JJ (ah SU)),ml,mj,XZ,none])/\Tab (jx n) (j+k) JJ SU
 |0,j,cs,ws,c6,c7,c8,T,_=>⟨cs,ws,c6,c7,c8,rfl,T⟩
 |k+1,j,cs,ws,c6,c7,c8,T,hj=>by
  have e1:=nA ns (a+1+j) (by left);obtain⟨lot,hl,e2⟩:=HY Φ hn (bu ns (a+1+j)) (some (.lst .sc (ah ns))) (some (.int a)) c2 c3 (some (.cO .ow cs (ah ws))) (some (.int j)) [c8,none];obtain⟨f1,f2⟩:=eT ((bu ns (a+1+j)).fdiv 4096) (b:=7) (by decide);have hw:cM cs ws lot+1+((bu ns (a+1+j)).fdiv 4096).fmod 7=cM cs ws lot+(1+((bu ns (a+1+j)).fdiv 4096).fmod 7):=by left
  have T':=T.put hl (i:=1+((bu ns (a+1+j)).fdiv 4096).fmod 7) (by left) (by left);obtain⟨JJ,SU,ml,mj,XZ,ih,T''⟩:=zt Φ P nA ns ha hn c2 c3 k (j+1) _ _ (some (.int j)) (some (.int (bu ns (a+1+j)))) (some (.tup (ah lot))) T' (by left);have g1:=λf=>Ny P f cs ws lot;have hf:=T.wx;have g2:=Nv P (cs:=cs) (by left) ws lot (cM cs ws lot+(1+((bu ns (a+1+j)).fdiv 4096).fmod 7));have x1:qG Φ x_ [some (.lst .sc (ah ns)),some (.int a),c2,c3,some (.int n),some (.cO .ow cs (ah ws)),some (.int j),some (.int (bu ns (a+1+j))),some (.tup (ah lot)),none]=ok (.nx,[some (.lst .sc (ah ns)),some (.int a),c2,c3,some (.int n),some (.cO .ow (dm cs lot) (ah (b9 cs ws lot (cM cs ws lot+(1+((bu ns (a+1+j)).fdiv 4096).fmod 7))))),some (.int j),some (.int (bu ns (a+1+j))),some (.tup (ah lot)),none]):=by
   unfold x_;refine(wz (xs:=[.int (cM cs ws lot+(1+((bu ns (a+1+j)).fdiv 4096).fmod 7)),.tup (ah lot)]) (d:=.cO .ow cs (ah ws)) ?_ (by simp) rfl g2).trans rfl;simp[g1,hw]
  refine⟨JJ,SU,ml,mj,XZ,?_,by rw[show j+(k+1)=j+1+k by left];exact T''⟩;rw[List.range'_succ,List.map_cons];refine cN (ρ1:=[some (.lst .sc (ah ns)),some (.int a),c2,c3,some (.int n),some (.cO .ow cs (ah ws)),some (.int j),c7,c8,none]) (by simp) (ρ2:=[some (.lst .sc (ah ns)),some (.int a),c2,c3,some (.int n),some (.cO .ow (dm cs lot) (ah (b9 cs ws lot (cM cs ws lot+(1+((bu ns (a+1+j)).fdiv 4096).fmod 7))))),some (.int j),some (.int (bu ns (a+1+j))),some (.tup (ah lot)),none]) ?_ ih;simp[FY,e1,e2,x1]
theorem kA{t b:Int}(hb:b≠0):(Rat.divInt t b).den∣b.natAbs:=by
 obtain⟨t',b',e1,e2,h1,h2,h3,h4⟩:=oY (t:=t) hb;obtain⟨g1,g2⟩:=tJ (t:=t) hb;rw[show b.fdiv (fY t b)=b' from h2]at g2;have hz:(Rat.divInt t b).den=b'.natAbs:=by left
 have:b.natAbs=(fY t b).natAbs*b'.natAbs:=by rw[<- Int.natAbs_mul,<- e2]
 rw[hz,this];exact Nat.dvd_mul_left ..
def se(m:aw):Prop:=∀(ns:ae) (a:Int) (p:Nat),0<=a->1<=p->p<=12->∃n rs,n<=p/\Dr 6 n rs/\nG rs/\m [.lst .sc (ah ns),.int a,.int p]=ok (.tup [.int n,.lst .ow (cz rs)])
theorem Ao(Φ:aT)(P:EX Φ)(nA:qa (Φ 200))(ny:fJ (Φ 201)):se (mk Φ 3 10 jW):=by
 intro ns a p ha p1 p2;have e1:=nA ns a ha;obtain⟨f1,f2⟩:=eT (bu ns a) (b:=(p:Int)) (by left);obtain⟨n,hn⟩:∃n:Nat,1+(bu ns a).fmod p=(n:Int):=⟨(1+(bu ns a).fmod p).toNat,by left⟩
 obtain⟨g1,g2⟩:=eT ((bu ns a).fdiv p) (b:=6) (by decide);obtain⟨k,hk⟩:∃k:Nat,1+((bu ns a).fdiv p).fmod 6=(k:Int):=⟨(1+((bu ns a).fdiv p).fmod 6).toNat,by left⟩
 have T0:Tab (jx n) 0 [] []:=⟨abD,rfl,aak _,(λ_ h=>nomatch h),(λ_ h=>nomatch h),by simp,λh=>by left⟩
 obtain⟨cs,ws,c6,c7,c8,el,T⟩:=zt Φ P nA ns ha (n:=n) (by left) (some (.int p)) (some (.int ((bu ns a).fdiv p))) k 0 [] [] none none none T0 (by left);rw[Nat.zero_add]at T;have D6:=T.dr (n:=n) (by left) (by left) (by left) (by left);have hm:cQ .mod (.int (bu ns a)) (.int p)=ok (.int ((bu ns a).fmod p)):=zN (by left);have hd:cQ .fdiv (.int (bu ns a)) (.int p)=ok (.int ((bu ns a).fdiv p)):=mq (hV (by left) (l6 (by left)));have Mh:Φ 1030 []=ok (.cO .ow [] []):=by rw[P.RQ];rfl
 have hit:cc Φ (.jK (.bin .add (.int 1) (.bin .mod (.v 3) (.int 6)))) [some (.lst .sc (ah ns)),some (.int a),some (.int p),some (.int ((bu ns a).fdiv p)),some (.int n),some (.cO .ow [] []),none,none,none,none]=ok ((List.range' 0 k).map λ(i:Nat)=>D.int (i:Int),[some (.lst .sc (ah ns)),some (.int a),some (.int p),some (.int ((bu ns a).fdiv p)),some (.int n),some (.cO .ow [] []),none,none,none,none]):=by
  rw[AE (n:=k) (by simp[hk]) (by left) (by left),Int.toNat_natCast,List.range_eq_range']
 have hf:=dQ (Φ:=Φ) (t:=.nm 6) (b:=FY) hit el;have hp:(bt cs).Perm cs:=aaU _ _;have mS:∀f,eL Φ (.cI 1100) [.cO f cs (ah ws)]=ok (cs.map cP):=λf=>by
  show bd (Φ 1100 _) m9=_;rw[P.RH];show ok (aF aW (cs.map cP))=_;rw[gu]
 have hfew:=T.wx;have QR:∀c,cP c=.tup (ah c):=λ_=>rfl;have s1:∀r,bz Φ Np [some (.lst .sc (ah ns)),some (.int a),some (.int p),some (.int ((bu ns a).fdiv p)),some (.int n),some (.cO .ow cs (ah ws)),c6,c7,c8,r]=ok (.lst .ow (ah (cs.map (cM cs ws)))):=λr=>by
  unfold Np;rw[bW (xs:=[.cO .al cs (ah ws)]) (by simp) (mS _) (ds:=cs.map λc=>.int (cM cs ws c)) (bG λc hc=>?_) (by simp;exact bD (by left))]
  ·simp[ah,aX]
  ·have e:=JI P .fz T.ln hc;exact⟨[some (.tup (ah c)),some (.cO .fz cs (ah ws))],by simp[bw,QR],by simp,by simp[e]⟩
 rw[o5 T.nd T.ln]at s1;have s2:pY .j4 [.lst .ow (ah ws)]=ok (.int ws.sum):=by
  show(match intsOf (ah ws)with|some ns=>ok (D.int ns.sum)|none=>none)=_;unfold ah;rw[bx]
 have hW:1<=ws.sum/\ws.sum<=42:=by
  have hs:=T.sum;refine⟨?_,by left⟩;obtain⟨c,hc⟩:=List.exists_mem_of_ne_nil cs (T.ne (by left));obtain⟨w,e,m⟩:=lh T.ln hc;have:=T.pos w m;have:=T.yV w m;left
 refine⟨n,m5 cs ws,by left,D6,⟨ws.sum.toNat,by left,by left,λr hr=>?_⟩,?_⟩
 ·unfold m5 at hr;obtain⟨c,_,rfl⟩:=List.mem_map.mp hr;have h:ws.sum=((ws.sum.toNat:Nat):Int):=by left
  show(Rat.divInt (cM cs ws c) ws.sum).den∣_;have d:=kA (t:=cM cs ws c) (b:=ws.sum) (by left)
  rwa [show ws.sum.natAbs=ws.sum.toNat by left]at d
 have QP:∀f,Φ 1035 [.cO f cs (ah ws)]=ok (.lst .ow ((bt cs).map cP)):=λf=>by
  rw[P.RM];show(if cs.length<64 then ok (D.lst .ow ((bt cs).map cP))else none)=_;rw[if_pos (by left)]
 have s3:bz Φ Nq [some (.lst .sc (ah ns)),some (.int a),some (.int p),some (.int ((bu ns a).fdiv p)),some (.int n),some (.cO .ow cs (ah ws)),c6,c7,c8,some (.int ws.sum)]=ok (.lst .ow (cz (m5 cs ws))):=by
  unfold Nq;rw[bW (xs:=[.lst .ow ((bt cs).map cP)]) (by simp[QP]) (items:=(bt cs).map cP) (by rw[c_,gu]) (ds:=(bt cs).map λc=>rD (Rat.divInt (cM cs ws c) ws.sum,c)) (bG λc hc=>?_) (by rw[List.length_map];exact bD (by rw[hp.length_eq];left))]
  ·have:((bt cs).map λc=>rD (Rat.divInt (cM cs ws c) ws.sum,c))=cz (m5 cs ws):=by unfold cz m5;rw[List.map_map];rfl
   rw[this,kZ]
  ·have e:=JI P .fz T.ln (hp.mem_iff.mp hc);have e':=ny (cM cs ws c) ws.sum (by left) (l6 (by left));exact⟨[some (.tup (ah c)),some (.int ws.sum),some (.cO .fz cs (ah ws))],by simp[bw,QR],by simp,by simp[e,e',rD]⟩
 simp[mk_eq,jW,e1,hm,hd,hn,Mh];rw[hf];simp[s1,s2,s3]
def zX(m:aw):Prop:=∀(N:Int) (n:Nat),n<=12->∃qs:az,m [.int N,.int n]=ok (.lst .ow (a_ qs))/\qs.length=n/\∀q∈qs,Sm 3 q
noncomputable def nK:ag:=[.app 2 (.call 201 [(.bin .sub (.bin .mod (.v 0) (.int 13)) (.int 6)),(.bin .add (.int 1) (.bin .mod (.bin .fdiv (.v 0) (.int 13)) (.int 4)))]),.asg (.nm 0) (.bin .fdiv (.v 0) (.int 52))]
def oj:ag:=[.asg (.nm 2) (.lst []),.fr (.nm 3) (.jK (.v 1)) nK,.ret (.v 2)]
theorem o8(Φ:aT)(ny:fJ (Φ 201))(y:aG):∀(ks:aa) (acc:az) (n:Int) (w:aG),acc.length+ks.length<=1000->(∀q∈acc,Sm 3 q) ->
  ∃(qs:az) (n' w':aG),dJ (λd ρ=>bT (.nm 3) d ρ) (λρ=>bI Φ nK ρ) ks [some (.int n),y,some (.lst .ow (a_ acc)),w]=ok (.nx,[n',y,some (.lst .ow (a_ qs)),w'])/\qs.length=acc.length+ks.length/\∀q∈qs,Sm 3 q
 |[],acc,n,w,_,hs=>⟨acc,some (.int n),w,rfl,rfl,hs⟩
 |k::ks,acc,n,w,h,hs=>by
  simp only[List.length_cons]at h;obtain⟨a1,a2⟩:=eT n (b:=13) (by decide);obtain⟨a3,a4⟩:=eT (n.fdiv 13) (b:=4) (by decide);have e:=ny (n.fmod 13 - 6) (1+(n.fdiv 13).fmod 4) (by left) (l6 (by left));have sq:Sm 3 (Rat.divInt (n.fmod 13 - 6) (1+(n.fdiv 13).fmod 4)):=B0 (by left) (by left) (by left);generalize Rat.divInt (n.fmod 13 - 6) (1+(n.fdiv 13).fmod 4)=q at *;obtain⟨qs,n',w',e',l,s⟩:=o8 Φ ny y ks (acc++[q]) (n.fdiv 52) (some k) (by simp;left) (λp hp=>by
   rcases List.mem_append.mp hp with hp|hp
   ·exact hs p hp
   ·have:p=q:=by simpa using hp
    subst this;exact sq)
  have hc:acc.length<eH:=by show _<1000000;left
  refine⟨qs,n',w',cN (ρ1:=[some (.int n),y,some (.lst .ow (a_ acc)),some k]) (by simp) (ρ2:=[some (.int (n.fdiv 52)),y,some (.lst .ow (a_ (acc++[q]))),some k]) ?_ e',by rw[l];simp;left,s⟩;simp[nK,e,hc]
theorem Gj(Φ:aT)(ny:fJ (Φ 201)):zX (mk Φ 2 4 oj):=by
 intro N n hn;have hit:=AE (Φ:=Φ) (a:=.v 1) (ρ:=[some (.int N),some (.int n),some (.lst .ow []),none]) (n:=n) (by simp) (by left) (by left);obtain⟨qs,n',w',el,l,s⟩:=o8 Φ ny (some (.int n)) ((List.range (n:Int).toNat).map λ(k:Nat)=>D.int (k:Int)) [] N none (by simp;left) (by simp);have hf:=dQ (t:=.nm 3) (b:=nK) hit el;refine⟨qs,?_,by simpa using l,s⟩;simp[mk_eq,oj,hf]
structure IA(i j n:Nat)(ws xs:az):Prop where
 l1:ws.length=n
 l2:xs.length=n
 s1:∀q∈ws,Sm i q
 s2:∀q∈xs,Sm j q
 jj:i+j<=20
theorem Gs.two{j n:Nat}(G:Gs j n ws xs)(hj:j<=10):IA j j n ws xs:=⟨G.l1,G.l2,G.s1,G.s2,by left⟩
def jw(m:aw):Prop:=∀f g n lot ws xs i j,jx n lot->n<=12->IA i j n ws xs->m [.lst f (a_ ws),.tup (ah lot),.lst g (a_ xs)]=ok (qD (dC lot λh=>bK ws h*bK xs h))
noncomputable def kS:ag:=[.asg (.nm 3) (.call 202 [(.v 3),(.call 203 [(.ix (.v 0) (.v 4)),(.ix (.v 2) (.v 4))])])]
def lA:ag:=[.asg (.nm 3) (.tup [(.int 0),(.int 1)]),.fr (.nm 4) (.seq (.v 1)) kS,.ret (.v 3)]
theorem mO(Φ:aT)(dY:ia (Φ 202))(iw:dO (Φ 203))(f g:Fl)(ws xs:az)(n a1 j:Nat)(G:IA a1 j n ws xs)(y:aG):∀(lot:ae) (acc:Rat) (i:Nat) (w:aG),(∀h∈lot,0<=h/\h<(n:Int))->Sm (1+21*i) acc->i+lot.length<=12 ->
  ∃w',dJ (λd ρ=>bT (.nm 4) d ρ) (λρ=>bI Φ kS ρ) (ah lot) [some (.lst f (a_ ws)),y,some (.lst g (a_ xs)),some (qD acc),w]=ok (.nx,[some (.lst f (a_ ws)),y,some (.lst g (a_ xs)),some (qD (acc+dC lot λh=>bK ws h*bK xs h)),w'])
 |[],acc,i,w,_,_,_=>⟨w,by simp[dC,eh,Rat.add_zero]⟩
 |h::lot,acc,i,w,hm,hs,hi=>by
  rw[List.length_cons]at hi;obtain⟨a,b⟩:=hm h aai;obtain⟨_,m1⟩:=bh (qs:=ws) a (by rw[G.l1];exact b);obtain⟨_,m2⟩:=bh (qs:=xs) a (by rw[G.l2];exact b);have s1:=G.s1 _ m1;have s2:=G.s2 _ m2;have hj:=G.jj;have s3:Sm 20 (bK ws h*bK xs h):=(s1.mul s2).mono (by left);have e1:=iw _ _ (s1.mono (by left)) (s2.mono (by left));have e2:=dY acc _ (hs.mono (by left)) (s3.mono (by decide));have a1':=kf (qs:=ws) a (by rw[G.l1];exact b);have a2:=kf (qs:=xs) a (by rw[G.l2];exact b);obtain⟨w',ih⟩:=mO Φ dY iw f g ws xs n a1 j G y lot (acc+bK ws h*bK xs h) (i+1) (some (.int h)) (λx hx=>hm x (aae _ hx)) ((hs.add s3).mono (by left)) (by left);refine⟨w',cN (ρ1:=[some (.lst f (a_ ws)),y,some (.lst g (a_ xs)),some (qD acc),some (.int h)]) (by simp) (ρ2:=[some (.lst f (a_ ws)),y,some (.lst g (a_ xs)),some (qD (acc+bK ws h*bK xs h)),some (.int h)]) ?_ ?_⟩
  ·simp[kS,a1',a2,e1,e2]
  ·exact ih.trans (by rw[gX,Rat.add_assoc])
theorem B9(Φ:aT)(dY:ia (Φ 202))(iw:dO (Φ 203)):jw (mk Φ 3 5 lA):=by
 intro f g n lot ws xs i j hl hn G;have z0:D.tup [.int 0,.int 1]=qD 0:=rfl;obtain⟨w',e⟩:=mO Φ dY iw f g ws xs n i j G (some (.tup (ah lot))) lot 0 0 none hl.2 (by constructor<;>decide) (by have:=hl.len;left);rw[Rat.zero_add]at e;have hit:cc Φ (.seq (.v 1)) [some (.lst f (a_ ws)),some (.tup (ah lot)),some (.lst g (a_ xs)),some (qD 0),none]=ok (ah lot,[some (.lst f (a_ ws)),some (.tup (ah lot)),some (.lst g (a_ xs)),some (qD 0),none]):=by
  rw[QC (ds:=ah lot) (by simp)];simp
 have hf:=dQ (Φ:=Φ) (t:=.nm 4) (b:=kS) hit e;simp[mk_eq,lA,z0,hf]
theorem IA.lg{n i j:Nat}(hl:jx n lot)(hn:n<=12)(G:IA i j n ws xs):Sm 253 (dC lot λh=>bK ws h*bK xs h):=by
 have:=Sm.sum (k:=20) (qs:=lot.map λh=>bK ws h*bK xs h) λq hq=>by
  obtain⟨h,hh,rfl⟩:=List.mem_map.mp hq;obtain⟨a,b⟩:=hl.2 h hh;exact((G.s1 _ (bh (qs:=ws) a (by rw[G.l1];exact b)).2).mul (G.s2 _ (bh (qs:=xs) a (by rw[G.l2];exact b)).2)).mono (by have:=G.jj;left)
 rw[List.length_map]at this;exact this.mono (by have:=hl.len;left)
def zW(m:aw):Prop:=∀n rs f g ws xs i j,Dr 6 n rs->IA i j n ws xs->m [bo n rs,.lst f (a_ ws),.lst g (a_ xs)]=ok (qD (cK rs ws xs))
noncomputable def nJ:ag:=[.asg (.nm 3) (.call 202 [(.v 3),(.call 203 [(.v 4),(.call 231 [(.v 1),(.v 5),(.v 2)])])])]
def oi:ag:=[.asg (.nm 3) (.tup [(.int 0),(.int 1)]),.fr (.tp [4,5]) (.seq (.ix (.v 0) (.int 1))) nJ,.ret (.v 3)]
theorem o7(Φ:aT)(dY:ia (Φ 202))(iw:dO (Φ 203))(tG:jw (Φ 231))(f g:Fl)(ws xs:az)(n a1 j:Nat)(hn:n<=12)(G:IA a1 j n ws xs)(c0:aG):∀(rs:ai) (acc:Rat) (i:Nat) (c4 c5:aG),(∀r∈rs,jx n r.2/\Sm 6 r.1)->Sm (1+260*i) acc->i+rs.length<=12 ->
  ∃EI ya,dJ (λd ρ=>bT (.tp [4,5]) d ρ) (λρ=>bI Φ nJ ρ) (cz rs) [c0,some (.lst f (a_ ws)),some (.lst g (a_ xs)),some (qD acc),c4,c5]=ok (.nx,[c0,some (.lst f (a_ ws)),some (.lst g (a_ xs)),some (qD (acc+cK rs ws xs)),EI,ya])
 |[],acc,i,c4,c5,_,_,_=>⟨c4,c5,by simp[cK,cz,eh,Rat.add_zero]⟩
 |r::rs,acc,i,c4,c5,hm,hs,hi=>by
  rw[List.length_cons]at hi;obtain⟨hl,s1⟩:=hm r aai;have s2:=G.lg hl hn;have e0:=λf g=>tG f g n r.2 ws xs a1 j hl hn G;generalize hS:(dC r.2 λh=>bK ws h*bK xs h)=S at *;have s3:Sm 259 (r.1*S):=(s1.mul s2).mono (by decide);have e1:=iw r.1 S (s1.mono (by decide)) (s2.mono (by decide));have e2:=dY acc (r.1*S) (hs.mono (by left)) (s3.mono (by decide));obtain⟨EI,ya,ih⟩:=o7 Φ dY iw tG f g ws xs n a1 j hn G c0 rs (acc+r.1*S) (i+1) (some (qD r.1)) (some (.tup (ah r.2))) (λx hx=>hm x (aae _ hx)) ((hs.add s3).mono (by left)) (by left);refine⟨EI,ya,cN (ρ1:=[c0,some (.lst f (a_ ws)),some (.lst g (a_ xs)),some (qD acc),some (qD r.1),some (.tup (ah r.2))]) (by simp[rD]) (ρ2:=[c0,some (.lst f (a_ ws)),some (.lst g (a_ xs)),some (qD (acc+r.1*S)),some (qD r.1),some (.tup (ah r.2))]) ?_ ?_⟩
  ·simp[nJ,e0,e1,e2]
  ·refine ih.trans ?_;have:cK (r::rs) ws xs=r.1*S+cK rs ws xs:=by unfold cK;rw[List.map_cons,List.sum_cons,hS]
   rw[this,Rat.add_assoc]
theorem Gi(Φ:aT)(dY:ia (Φ 202))(iw:dO (Φ 203))(tG:jw (Φ 231)):zW (mk Φ 3 6 oi):=by
 intro n rs f g ws xs i j I G;have z0:D.tup [.int 0,.int 1]=qD 0:=rfl;have hf:=I.wx;obtain⟨c4,c5,e⟩:=o7 Φ dY iw tG f g ws xs n i j I.n2 G (some (bo n rs)) rs 0 0 none none (λr hr=>⟨I.lot r hr,I.sm r hr⟩) (by constructor<;>decide) (by left);rw[Rat.zero_add]at e;have x1:bz Φ (.ix (.v 0) (.int 1)) [some (bo n rs),some (.lst f (a_ ws)),some (.lst g (a_ xs)),some (qD 0),none,none]=ok (.lst .fz (cz rs)):=by simp[bo]
 have hit:cc Φ (.seq (.ix (.v 0) (.int 1))) [some (bo n rs),some (.lst f (a_ ws)),some (.lst g (a_ xs)),some (qD 0),none,none]=ok (cz rs,[some (bo n rs),some (.lst f (a_ ws)),some (.lst g (a_ xs)),some (qD 0),none,none]):=by
  rw[qB x1];simp
 have hx:=dQ (Φ:=Φ) (t:=.tp [4,5]) (b:=nJ) hit e;simp[mk_eq,oi,z0,hx]
theorem C1(q:Rat):ez .ne (qD q) (qD q)=ok (.bl false):=by
 rw[Sr (rn 39 _) (rn 39 _),D_];simp
def me(f:Fl)(n:Nat)(rs:ai):D:=.tup [.int n,.lst f (cz rs)]
@[simp]theorem TB(g:Fl->Fl)(f:Fl)(n:Nat)(rs:ai):aS g (me f n rs)=me (g f) n rs:=by simp[me]
theorem Ef(n:Nat)(rs:ai):me .fz n rs=bo n rs:=rfl
@[simp]theorem TX(p:Fl->Bool)(f:Fl)(n:Nat)(rs:ai):bc p (me f n rs)=p f:=by simp[me]
@[simp]theorem V8(f:Fl)(n:Nat)(rs:ai):vm (me f n rs) (.int 0)=ok (.int n):=by simp[me]
noncomputable def bX(g h:Int)(r:Row):Bool:=decide (g∈r.2)&&decide (h∈r.2)
def aj(rs:ai)(g h:Int):Rat:=(cq (rs.filter (bX g h))).sum
theorem vt(h:Int):∀ns:ae,inD (.int h) (ah ns)=decide (h∈ns)
 |[]=>rfl
 |x::xs=>by
  show(iU (.int x) (.int h)||inD (.int h) (ah xs))=_;rw[nV,vt h xs];by_cases e:h=x<;>simp[e,eq_comm]
theorem rO:∀ns:ae,(ah ns).all iS=true
 |[]=>rfl
 |x::xs=>by show(iS (.int x)&&(ah xs).all iS)=true;rw[rO xs];rfl
theorem EH(h:Int)(ns:ae):ez .AK (.int h) (.tup (ah ns))=ok (.bl (decide (h∈ns))):=by
 show(if iS (.int h)&&(ah ns).all iS then ok (D.bl (inD (.int h) (ah ns)))else none)=_;rw[rO,vt];rfl
noncomputable def HP:CE:=.comp 2 (.tp [0,1]) [1,2] .seq [(.ix (.v 0) (.int 1))] [(.and [(.cmp .AK (.v 2) (.v 1)),(.cmp .AK (.v 3) (.v 1))])] (.v 0)
def om:ag:=[.asg (.nm 3) HP,.ret (.call 2 [(.bf .j4 [(.v 3)]),(.ix (.v 0) (.int 0))])]
def ui(m:aw):Prop:=∀k n rs (g h:Int),Dr k n rs->m [.tup [.int (bQ (cq rs)),.lst .fz (si (bQ (cq rs)) rs)],.int g,.int h]=ok (qD (aj rs g h))
theorem Gm(Φ:aT)(h2:eX (Φ 2)):ui (mk Φ 3 4 om):=by
 intro k n rs g h I;obtain⟨b0,b1,b2⟩:=I.bot;have key:=su (b:=bQ (cq rs)) (qs:=cq (rs.filter (bX g h))) b0 λq hq=>by
  obtain⟨r,hr,rfl⟩:=List.mem_map.mp hq;exact b2 _ (aaI ((List.mem_filter.mp hr).1))
 generalize bQ (cq rs)=b at *;have k1:∀a,bz Φ HP [some (.tup [.int b,.lst .fz (si b rs)]),some (.int g),some (.int h),a]=ok (.lst .ow (ah ((cq (rs.filter (bX g h))).map (bL b)))):=λa=>by
  unfold HP;rw[bW (xs:=[.lst .fz (si b rs)]) (items:=rs.map λr=>.tup [.int (bL b r.1),.tup (ah r.2)]) (ds:=(rs.filter (bX g h)).map λr=>.int (bL b r.1)) (by simp) (by rw[c_,C6];rfl) (fb λr hr=>⟨[some (.int (bL b r.1)),some (.tup (ah r.2)),some (.int g),some (.int h)],by simp[bw],by
   by_cases hg:g∈r.2<;>by_cases hh:h∈r.2<;>simp[EH,bX,hg,hh],λ_=>by simp⟩) ?_]
  ·simp[ah,aX,cq]
  ·have:=abS (bX g h) rs;have:=I.len;rw[List.length_map];exact bD (by left)
 have k2:pY .j4 [.lst .ow (ah ((cq (rs.filter (bX g h))).map (bL b)))]=ok (.int ((cq (rs.filter (bX g h))).map (bL b)).sum):=by
  show(match intsOf (ah ((cq (rs.filter (bX g h))).map (bL b)))with|some ns=>ok (D.int ns.sum)|none=>none)=_;unfold ah;rw[bx]
 have k3:=h2.1 ((cq (rs.filter (bX g h))).map (bL b)).sum b (by left) (by
  rw[Int.natAbs_natCast];exact aal b1 (aat (by decide) (by decide)))
 rw[key]at k3;have k4:∀f,pY .j4 [.lst f (ah ((cq (rs.filter (bX g h))).map (bL b)))]=ok (.int ((cq (rs.filter (bX g h))).map (bL b)).sum):=λf=>k2;simp[mk_eq,om,Fd Φ HP _ rfl,k1,k4,k3];rfl
def IU(n:Nat)(rs:ai):az:=(List.range n).map λ(k:Nat)=>aj rs k k
theorem lX{rs:ai}(hd:∀r∈rs,r.1.den∣W)(h0:0<W)(g h:Int):(aj rs g h).den∣W:=by
 have key:=su (b:=W) (qs:=cq (rs.filter (bX g h))) h0 λq hq=>by
  obtain⟨r,hr,rfl⟩:=List.mem_map.mp hq;exact hd _ ((List.mem_filter.mp hr).1)
 unfold aj;rw[<- key];have:=kA (t:=((cq (rs.filter (bX g h))).map (bL W)).sum) (b:=(W:Int)) (by left);simpa using this
theorem dI(p:Row->Bool):∀(rs:ai),(∀r∈rs,0<r.1)->0<=(cq (rs.filter p)).sum/\(cq (rs.filter p)).sum<=(cq rs).sum
 |[],_=>by simp[cq,Rat.le_refl]
 |r::rs,h=>by
  obtain⟨a,b⟩:=dI p rs λx hx=>h x (aae _ hx);have hr:=h r aai;have e:(cq (r::rs)).sum=r.1+(cq rs).sum:=rfl;rw[e];cases hp:p r with
  |true =>
   rw[List.filter_cons_of_pos hp];have e':(cq (r::rs.filter p)).sum=r.1+(cq (rs.filter p)).sum:=rfl;rw[e'];constructor<;>grind
  |false =>
   rw[List.filter_cons_of_neg (by simp[hp])];constructor<;>grind
theorem jd{k n:Nat}{rs:ai}(I:Dr k n rs)(g h:Int):0<=aj rs g h/\aj rs g h<=1:=by
 have:=dI (bX g h) rs I.pos;have e:(cq rs).sum=1:=I.one;rw[e]at this;exact this
theorem yB{q:Rat}{k:Nat}(h0:0<=q)(h1:q<=1)(hd:q.den<2 ^ k):Sm k q:=by
 refine⟨?_,hd⟩;have e:=fR q;have hp:=q.den_pos;have n0:0<=q.num:=Rat.num_nonneg.mpr h0;have:q.num<=q.den:=by
  have:=h1;rw[Rat.le_iff]at this;simpa using this
 left
theorem bM{k n:Nat}{rs:ai}(I:Dr k n rs)(g h:Int):Sm 61 (aj rs g h):=by
 obtain⟨b0,b1,b2⟩:=I.bot;obtain⟨p0,p1⟩:=jd I g h;have:=lX (rs:=rs) (W:=bQ (cq rs)) (λr hr=>b2 _ (aaI hr)) b0 g h;exact yB p0 p1 (aaq (abn b0 this) b1)
theorem iq{k n:Nat}{rs:ai}(I:Dr k n rs)(F:nG rs)(g h:Int):Sm 6 (aj rs g h):=by
 obtain⟨W,w0,w1,w2⟩:=F;obtain⟨p0,p1⟩:=jd I g h;have:=lX w2 w0 g h;exact yB p0 p1 (aaq (abn w0 this) w1)
theorem G3{n:Nat}{rs:ai}{q:Rat}(h:q∈IU n rs):∃k:Nat,k<n/\q=aj rs k k:=by
 unfold IU at h;obtain⟨k,hk,rfl⟩:=List.mem_map.mp h;exact⟨k,List.mem_range.mp hk,rfl⟩
@[simp]theorem S7(n:Nat)(rs:ai):(IU n rs).length=n:=by simp[IU]
theorem F9{n k:Nat}(rs:ai)(h:k<n):(IU n rs)[k]?=some (aj rs k k):=by simp[IU,h]
noncomputable def IY(q:Rat):D:=if 0<q then qD (1 / q)else .bV
@[simp]theorem G5(g:Fl->Fl)(q:Rat):aS g (IY q)=IY q:=by
 unfold IY;split
 ·simp
 ·rfl
@[simp]theorem Ht(g:Fl->Bool)(q:Rat):bc g (IY q)=false:=by
 unfold IY;split
 ·simp
 ·rfl
@[simp]theorem N1(g:Fl->Fl)(qs:az):aF g (qs.map IY)=qs.map IY:=du g (λq=>G5 g q) qs
@[simp]theorem Oq(g:Fl->Bool)(qs:az):aQ g (qs.map IY)=false:=cL g (λq=>Ht g q) qs
theorem Vl:Sm 1 (1:Rat):=by constructor<;>decide
noncomputable def IG(n:Nat)(h:Nat):az:=(List.range n).map λ(k:Nat)=>if k=h then 1 else 0
noncomputable def BN:ag:=[.ifs (.and [(.cmp .AK (.v 2) (.v 7)),(.cmp .AK (.v 4) (.v 7))]) [.asg (.nm 5) (.call 202 [(.v 5),(.v 6)])] []]
def FW:ag:=[.asg (.nm 5) (.tup [(.int 0),(.int 1)]),.fr (.tp [6,7]) (.seq (.ix (.v 0) (.int 1))) BN,.app 3 (.v 5)]
def FX:ag:=[.asg (.nm 3) (.lst []),.fr (.nm 4) (.jK (.ix (.v 0) (.int 0))) FW,.app 1 (.v 3)]
def lz:ag:=[.asg (.nm 1) (.lst []),.fr (.nm 2) (.jK (.ix (.v 0) (.int 0))) FX,.ret (.v 1)]
theorem di(r:Row)(rs:ai)(g h:Int):aj (r::rs) g h=if bX g h r then r.1+aj rs g h else aj rs g h:=by
 unfold aj;cases e:bX g h r with
 |true=>rw[List.filter_cons_of_pos e];rfl
 |false=>rw[List.filter_cons_of_neg (by simp[e])];rfl
theorem sT(Φ:aT)(dY:ia (Φ 202))(g h:Int)(c0 c1 c3:aG):∀(rs:ai) (acc:Rat) (i:Nat) (c6 c7:aG),(∀r∈rs,Sm 6 r.1)->Sm (1+7*i) acc->i+rs.length<=12 ->
  ∃ml mj,dJ (λd ρ=>bT (.tp [6,7]) d ρ) (λρ=>bI Φ BN ρ) (cz rs) [c0,c1,some (.int g),c3,some (.int h),some (qD acc),c6,c7]=ok (.nx,[c0,c1,some (.int g),c3,some (.int h),some (qD (acc+aj rs g h)),ml,mj])
 |[],acc,i,c6,c7,_,_,_=>⟨c6,c7,by simp[aj,cq,cz,eh,Rat.add_zero]⟩
 |r::rs,acc,i,c6,c7,hm,hs,hi=>by
  rw[List.length_cons]at hi;have s1:=hm r aai;have e1:=dY acc r.1 (hs.mono (by left)) (s1.mono (by decide));have s3:=(hs.add s1).mono (l:=1+7*(i+1)) (by left);have s4:=hs.mono (l:=1+7*(i+1)) (by left);have hr:=λx hx=>hm x (aae r hx);have hc:∀(a:aG),bz Φ (.and [(.cmp .AK (.v 2) (.v 7)),(.cmp .AK (.v 4) (.v 7))]) [c0,c1,some (.int g),c3,some (.int h),a,some (qD r.1),some (.tup (ah r.2))]=ok (.bl (bX g h r)):=λa=>by
   by_cases hg:g∈r.2<;>by_cases hh:h∈r.2<;>simp[EH,bX,hg,hh]
  rw[di];cases hb:bX g h r with
  |true =>
   obtain⟨ml,mj,ih⟩:=sT Φ dY g h c0 c1 c3 rs (acc+r.1) (i+1) (some (qD r.1)) (some (.tup (ah r.2))) hr s3 (by left);refine⟨ml,mj,cN (ρ1:=[c0,c1,some (.int g),c3,some (.int h),some (qD acc),some (qD r.1),some (.tup (ah r.2))]) (by simp[rD]) (ρ2:=[c0,c1,some (.int g),c3,some (.int h),some (qD (acc+r.1)),some (qD r.1),some (.tup (ah r.2))]) ?_ ?_⟩
   ·rw[BN,df,z_,hc,hb];simp[e1]
   ·exact ih.trans (by simp[Rat.add_assoc])
  |false =>
   obtain⟨ml,mj,ih⟩:=sT Φ dY g h c0 c1 c3 rs acc (i+1) (some (qD r.1)) (some (.tup (ah r.2))) hr s4 (by left);refine⟨ml,mj,cN (ρ1:=[c0,c1,some (.int g),c3,some (.int h),some (qD acc),some (qD r.1),some (.tup (ah r.2))]) (by simp[rD]) (ρ2:=[c0,c1,some (.int g),c3,some (.int h),some (qD acc),some (qD r.1),some (.tup (ah r.2))]) ?_ ?_⟩
   ·rw[BN,df,z_,hc,hb];simp
   ·exact ih.trans (by simp)
theorem yQ(Φ:aT)(dY:ia (Φ 202)){n:Nat}{rs:ai}(I:Dr 6 n rs)(g:Int)(c1:aG):∀(k j:Nat) (qs:az) (c4 c5 c6 c7:aG),j+k<=12->qs.length=j ->
  ∃EI ya ml mj,dJ (λd ρ=>bT (.nm 4) d ρ) (λρ=>bI Φ FW ρ) ((List.range' j k).map λ(i:Nat)=>D.int (i:Int)) [some (bo n rs),c1,some (.int g),some (.lst .ow (a_ qs)),c4,c5,c6,c7] =
   ok (.nx,[some (bo n rs),c1,some (.int g),some (.lst .ow (a_ (qs++(List.range' j k).map λ(i:Nat)=>aj rs g i))),EI,ya,ml,mj])
 |0,j,qs,c4,c5,c6,c7,_,_=>⟨c4,c5,c6,c7,by simp[eh]⟩
 |k+1,j,qs,c4,c5,c6,c7,hj,hq=>by
  have z0:D.tup [.int 0,.int 1]=qD 0:=rfl;have hfew:=I.wx;obtain⟨a6,a7,el⟩:=sT Φ dY g j (some (bo n rs)) c1 (some (.lst .ow (a_ qs))) rs 0 0 c6 c7 I.sm (by constructor<;>decide) (by left);rw[Rat.zero_add]at el;have x1:bz Φ (.ix (.v 0) (.int 1)) [some (bo n rs),c1,some (.int g),some (.lst .ow (a_ qs)),some (.int j),some (qD 0),c6,c7]=ok (.lst .fz (cz rs)):=by simp[bo]
  have hit:cc Φ (.seq (.ix (.v 0) (.int 1))) [some (bo n rs),c1,some (.int g),some (.lst .ow (a_ qs)),some (.int j),some (qD 0),c6,c7]=ok (cz rs,[some (bo n rs),c1,some (.int g),some (.lst .ow (a_ qs)),some (.int j),some (qD 0),c6,c7]):=by
   rw[qB x1];simp
  have hf:=dQ (Φ:=Φ) (t:=.tp [6,7]) (b:=BN) hit el;obtain⟨EI,ya,ml,mj,ih⟩:=yQ Φ dY I g c1 k (j+1) (qs++[aj rs g j]) (some (.int j)) (some (qD (aj rs g j))) a6 a7 (by left) (by simp[hq]);rw[List.range'_succ,List.map_cons,List.map_cons];refine⟨EI,ya,ml,mj,cN (ρ1:=[some (bo n rs),c1,some (.int g),some (.lst .ow (a_ qs)),some (.int j),c5,c6,c7]) (by simp) (ρ2:=[some (bo n rs),c1,some (.int g),some (.lst .ow (a_ (qs++[aj rs g j]))),some (.int j),some (qD (aj rs g j)),a6,a7]) ?_ ?_⟩
  ·have hc:qs.length<eH:=by show _<1000000;left
   simp[FW,z0,hf,hc]
  ·exact ih.trans (by simp)
def bP(n:Nat)(rs:ai)(f:Fl)(j k:Nat):aa:=(List.range' j k).map λ(g:Nat)=>.lst f (a_ ((List.range' 0 n).map λ(h:Nat)=>aj rs g h))
theorem yR(Φ:aT)(dY:ia (Φ 202)){n:Nat}{rs:ai}(I:Dr 6 n rs):∀(k j:Nat) (ds:aa) (c2 c3 c4 c5 c6 c7:aG),j+k<=12->ds.length=j ->
  ∃t4 yb EI ya ml mj,dJ (λd ρ=>bT (.nm 2) d ρ) (λρ=>bI Φ FX ρ) ((List.range' j k).map λ(i:Nat)=>D.int (i:Int)) [some (bo n rs),some (.lst .ow ds),c2,c3,c4,c5,c6,c7] =
   ok (.nx,[some (bo n rs),some (.lst .ow (ds++bP n rs .ow j k)),t4,yb,EI,ya,ml,mj])
 |0,j,ds,c2,c3,c4,c5,c6,c7,_,_=>⟨c2,c3,c4,c5,c6,c7,by simp[eh,bP]⟩
 |k+1,j,ds,c2,c3,c4,c5,c6,c7,hj,hq=>by
  have hn:=I.n2;obtain⟨a4,a5,a6,a7,el⟩:=yQ Φ dY I j (some (.lst .ow ds)) n 0 [] c4 c5 c6 c7 (by left) rfl;have x0:∀r:aZ,bz Φ (.ix (.v 0) (.int 0)) (some (bo n rs)::r)=ok (.int n):=λr=>by simp[bo]
  have hit:=AE (Φ:=Φ) (a:=.ix (.v 0) (.int 0)) (ρ:=[some (bo n rs),some (.lst .ow ds),some (.int j),some (.lst .ow (a_ [])),c4,c5,c6,c7]) (n:=n) (x0 _) (by left) (by left);rw[Int.toNat_natCast,List.range_eq_range']at hit;have hf:=dQ (Φ:=Φ) (t:=.nm 4) (b:=FW) hit el;rw[List.nil_append]at hf;obtain⟨t4,yb,EI,ya,ml,mj,ih⟩:=yR Φ dY I k (j+1) (ds++[.lst .ow (a_ ((List.range' 0 n).map λ(h:Nat)=>aj rs j h))]) (some (.int j)) none a4 a5 a6 a7 (by left) (by simp[hq]);have ep:bP n rs .ow j (k+1)=.lst .ow (a_ ((List.range' 0 n).map λ(h:Nat)=>aj rs j h))::bP n rs .ow (j+1) k:=by unfold bP;rw[List.range'_succ,List.map_cons]
  rw[List.range'_succ,List.map_cons,ep];have hc:ds.length<eH:=by show _<1000000;left
  have q0:a_ []=[]:=rfl;refine⟨t4,yb,EI,ya,ml,mj,cN (ρ1:=[some (bo n rs),some (.lst .ow ds),some (.int j),c3,c4,c5,c6,c7]) (by simp) (ρ2:=[some (bo n rs),some (.lst .ow (ds++[.lst .ow (a_ ((List.range' 0 n).map λ(h:Nat)=>aj rs j h))])),some (.int j),none,a4,a5,a6,a7]) ?_ ?_⟩
  ·rw[q0]at hf;simp[FX,hf,hc]
  ·exact ih.trans (by simp)
def we(m:aw):Prop:=∀n rs,Dr 6 n rs->m [bo n rs]=ok (.lst .ow (bP n rs .ow 0 n))
theorem B8(Φ:aT)(dY:ia (Φ 202)):we (mk Φ 1 8 lz):=by
 intro n rs I;have hn:=I.n2;obtain⟨a2,a3,a4,a5,a6,a7,el⟩:=yR Φ dY I n 0 [] none none none none none none (by left) rfl;have x0:∀r:aZ,bz Φ (.ix (.v 0) (.int 0)) (some (bo n rs)::r)=ok (.int n):=λr=>by simp[bo]
 have hit:=AE (Φ:=Φ) (a:=.ix (.v 0) (.int 0)) (ρ:=[some (bo n rs),some (.lst .ow []),none,none,none,none,none,none]) (n:=n) (x0 _) (by left) (by left);rw[Int.toNat_natCast,List.range_eq_range']at hit;have hf:=dQ (Φ:=Φ) (t:=.nm 2) (b:=FX) hit el;rw[List.nil_append]at hf;simp[mk_eq,lz,hf]
theorem bB(g:Fl->Fl)(n:Nat)(rs:ai)(f:Fl)(j k:Nat):aF g (bP n rs f j k)=bP n rs (g f) j k:=by
 unfold bP;rw[aX,List.map_map];refine aaj λx _=>?_;show aS g (.lst f (a_ _))=_;simp
theorem g9(g:Fl->Bool)(n:Nat)(rs:ai)(f:Fl)(j k:Nat)(h:g f=false):aQ g (bP n rs f j k)=false:=cL g (λx=>by simp[h]) (List.range' j k)
theorem rb{n:Nat}{rs:ai}{f:Fl}{k:Nat}(h:k<n):v9 (bP n rs f 0 n) (k:Int)=ok (aS bE (.lst f (a_ ((List.range' 0 n).map λ(h:Nat)=>aj rs k h)))):=by
 have:=at_of (ds:=bP n rs f 0 n) (i:=(k:Int)) (d:=.lst f (a_ ((List.range' 0 n).map λ(h:Nat)=>aj rs k h))) (by left) (by
  rw[Int.toNat_natCast,bP,List.getElem?_map,List.getElem?_range' h];simp)
 exact this
theorem dh(f:Int->Rat):∀(k j:Nat) (lot:ae),lot.Pairwise (· < ·)->(∀h∈lot,(j:Int)<=h/\h<((j+k:Nat):Int))->((List.range' j k).map λ(i:Nat)=>if (i:Int)∈lot then f i else 0).sum=dC lot f
 |0,j,lot,_,h=>by
  cases lot with
  |nil=>rfl
  |cons x xs=>have:=h x aai;left
 |k+1,j,lot,hp,h=>by
  rw[List.range'_succ,List.map_cons,List.sum_cons];by_cases e:(j:Int)∈lot
  ·obtain⟨xs,rfl⟩:∃xs,lot=(j:Int)::xs:=by
    cases lot with
    |nil=>simp at e
    |cons x xs =>
     have h1:=h x aai;have h2:=List.pairwise_cons.mp hp;rcases List.mem_cons.mp e with e|e
     ·exact⟨xs,by rw[e]⟩
     ·have:=h2.1 _ e;left
   have h2:=List.pairwise_cons.mp hp;have ih:=dh f k (j+1) xs h2.2 λy hy=>by
    have a:=h y (aae _ hy);have b:=h2.1 y hy;constructor<;>left
   rw[if_pos List.mem_cons_self,gX,<- ih];congr 2;refine aaj λi hi=>?_;have hi:=List.mem_range'_1.mp hi;have:((i:Int)∈(j:Int)::xs) ↔ (i:Int)∈xs:=by
    rw[List.mem_cons];constructor
    ·rintro (h|h)
     ·left
     ·exact h
    ·exact .inr
   simp only[this]
  ·rw[if_neg e,Rat.zero_add];refine dh f k (j+1) lot hp λy hy=>?_;have a:=h y hy;have:y≠(j:Int):=λz=>e (z▸hy);constructor<;>left
theorem sum_add(a b:Nat->Rat):∀(l:aO),(l.map λk=>a k+b k).sum=(l.map a).sum+(l.map b).sum
 |[]=>by simp[Rat.add_zero]
 |x::l=>by
  rw[List.map_cons,List.map_cons,List.map_cons,List.sum_cons,List.sum_cons,List.sum_cons,sum_add a b l];grind
theorem c9(c:Rat)(a:Nat->Rat):∀(l:aO),(l.map λk=>c*a k).sum=c*(l.map a).sum
 |[]=>by simp[Rat.mul_zero]
 |x::l=>by
  rw[List.map_cons,List.map_cons,List.sum_cons,List.sum_cons,c9 c a l];grind
theorem rB(n:Nat)(ws xs:az):∀(rs:ai),(∀r∈rs,jx n r.2)->cK rs ws xs=((List.range' 0 n).map λ(k:Nat)=>bK ws k*bK xs k*aj rs k k).sum
 |[],_=>by
  have e:((List.range' 0 n).map λ(k:Nat)=>bK ws k*bK xs k*aj [] k k)=(List.range' 0 n).map λ(k:Nat)=>(0:Rat)*(0:Rat):=aaj λk _=>by
   show _*(0:Rat)=_;grind
  rw[e,c9];simp[cK,Rat.zero_mul]
 |r::rs,h=>by
  have ih:=rB n ws xs rs λs hs=>h s (aae _ hs);have hl:=h r aai;have e1:cK (r::rs) ws xs=r.1*dC r.2 (λh=>bK ws h*bK xs h)+cK rs ws xs:=by unfold cK;rw[List.map_cons,List.sum_cons]
  have e2:=dh (λh=>bK ws h*bK xs h) n 0 r.2 hl.1 λy hy=>by have:=hl.2 y hy;constructor<;>left
  rw[e1,<- e2,ih,<- c9,<- sum_add];congr 1;refine aaj λk _=>?_;rw[di];have:bX k k r=decide ((k:Int)∈r.2):=by simp[bX]
  rw[this];by_cases hk:(k:Int)∈r.2
  ·simp only[hk,decide_true,if_true];grind
  ·simp only[hk,decide_false,if_false];simp;grind
theorem eR(Φ:aT):∀(a b:ag) (ρ ρ':aZ),bI Φ a ρ=ok (.nx,ρ')->bI Φ (a++b) ρ=bI Φ b ρ'
 |[],b,ρ,ρ',h=>by cases h;rfl
 |s::a,b,ρ,ρ',h=>by
  rw[df]at h;rw[List.cons_append,df];cases e:qG Φ s ρ with
  |none=>rw[e]at h;cases h
  |some r=>cases r with
   |error c=>rw[e]at h;cases h
   |ok r =>
    obtain⟨fo,ρ1⟩:=r;rw[e]at h;cases fo with
    |nx=>exact eR Φ a b ρ1 ρ' h
    |_=>cases h
@[simp]theorem OY(n x:Nat):(IG n x).length=n:=by simp[IG]
def Ai(b:Nat)(rs:ai)(gs:ae):Int:=((rs.zip gs).map λp=>bL b p.1.1*p.2*p.2).sum
def yA(b gb:Nat)(rs:ai)(gs:ae):Rat:=Rat.divInt ((b:Int)*Ai b rs gs - wK b rs gs*wK b rs gs) ((b:Int)*gb*((b:Int)*gb))
def dM(rs:ai)(ws xs:az):Rat:=yA (bQ (cq rs)) (bQ (w8 ws xs)) rs (DU rs (w8 ws xs))
noncomputable def HM:CE:=.comp 1 (.nm 0) [1,3] .jK [(.ix (.v 0) (.int 0))] [] (.call 19 [(.v 1),(.v 2),(.v 0)])
def FV:ag:=[.app 2 HM]
def jU:ag:=[.ex (.call 17 [(.v 0)]),.asg (.nm 1) (.call 14 [(.ix (.v 0) (.int 1))]),.asg (.nm 2) (.lst []),.fr (.nm 3) (.jK (.ix (.v 0) (.int 0))) FV,.ret (.v 2)]
def jX(m:aw):Prop:=∀k n rs,Dr k n rs->m [bo n rs]=ok (.lst .ow (bP n rs .ow 0 n))
theorem yL(Φ:aT)(T6:ui (Φ 19)){d n:Nat}{rs:ai}(I:Dr d n rs):∀(k j:Nat) (ds:aa) (c3:aG),j+k<=12->ds.length=j ->
  ∃yb,dJ (λd ρ=>bT (.nm 3) d ρ) (λρ=>bI Φ FV ρ) ((List.range' j k).map λ(i:Nat)=>D.int (i:Int)) [some (bo n rs),some (.tup [.int (bQ (cq rs)),.lst .ow (si (bQ (cq rs)) rs)]),some (.lst .ow ds),c3] =
   ok (.nx,[some (bo n rs),some (.tup [.int (bQ (cq rs)),.lst .ow (si (bQ (cq rs)) rs)]),some (.lst .ow (ds++bP n rs .ow j k)),yb])
 |0,j,ds,c3,_,_=>⟨c3,by simp[eh,bP]⟩
 |k+1,j,ds,c3,hj,hq=>by
  have hn:=I.n2;have m2:aS bE (bo n rs)=bo n rs:=by simp[bo]
  have hd:bo n rs=.tup [.int n,.lst .fz (cz rs)]:=rfl;have x0:vm (bo n rs) (.int 0)=ok (.int n):=by rw[hd];simp
  have k1:bz Φ HM [some (bo n rs),some (.tup [.int (bQ (cq rs)),.lst .ow (si (bQ (cq rs)) rs)]),some (.lst .ow ds),some (.int j)]=ok (.lst .ow (a_ ((List.range' 0 n).map λ(h:Nat)=>aj rs j h))):=by
   unfold HM;rw[bW (xs:=[.int n]) (ds:=(List.range n).map λ(h:Nat)=>qD (aj rs j h)) (by simp[m2,x0]) (jO Φ (by left) (by left)) (bG λk' hk=>?_) (by simp;exact bD (by left))]
   ·simp[a_,aX,List.range_eq_range']
   ·have e:=T6 d n rs j k' I;exact⟨[some (.int k'),some (.tup [.int (bQ (cq rs)),.lst .fz (si (bQ (cq rs)) rs)]),some (.int j)],by simp[bw],by simp,by simp[e]⟩
  obtain⟨yb,ih⟩:=yL Φ T6 I k (j+1) (ds++[.lst .ow (a_ ((List.range' 0 n).map λ(h:Nat)=>aj rs j h))]) (some (.int j)) (by left) (by simp[hq]);have ep:bP n rs .ow j (k+1)=.lst .ow (a_ ((List.range' 0 n).map λ(h:Nat)=>aj rs j h))::bP n rs .ow (j+1) k:=by unfold bP;rw[List.range'_succ,List.map_cons]
  rw[List.range'_succ,List.map_cons,ep];have hc:ds.length<eH:=by show _<1000000;left
  refine⟨yb,cN (ρ1:=[some (bo n rs),some (.tup [.int (bQ (cq rs)),.lst .ow (si (bQ (cq rs)) rs)]),some (.lst .ow ds),some (.int j)]) (by simp) (ρ2:=[some (bo n rs),some (.tup [.int (bQ (cq rs)),.lst .ow (si (bQ (cq rs)) rs)]),some (.lst .ow (ds++[.lst .ow (a_ ((List.range' 0 n).map λ(h:Nat)=>aj rs j h))])),some (.int j)]) ?_ ?_⟩
  ·simp[FV,Fd Φ HM _ rfl,k1,hc]
  ·exact ih.trans (by simp)
theorem An(Φ:aT)(Xh:mw (Φ 14))(h17:p_ (Φ 17))(T6:ui (Φ 19)):jX (mk Φ 1 4 jU):=by
 intro k n rs I;have hn:=I.n2;have e1:=h17 k n rs I;have e2:=Xh rs k I.NW;have m2:aS bE (bo n rs)=bo n rs:=by simp[bo]
 have m1:aS aW (bo n rs)=bo n rs:=by simp[bo]
 have hd:bo n rs=.tup [.int n,.lst .fz (cz rs)]:=rfl;have x1:vm (bo n rs) (.int 1)=ok (.lst .fz (cz rs)):=by rw[hd];simp
 have x0:∀r:aZ,bz Φ (.ix (.v 0) (.int 0)) (some (bo n rs)::r)=ok (.int n):=λr=>by simp[bo]
 obtain⟨a3,el⟩:=yL Φ T6 I n 0 [] none (by left) rfl;have hit:=AE (Φ:=Φ) (a:=.ix (.v 0) (.int 0)) (ρ:=[some (bo n rs),some (.tup [.int (bQ (cq rs)),.lst .ow (si (bQ (cq rs)) rs)]),some (.lst .ow []),none]) (n:=n) (x0 _) (by left) (by left);rw[Int.toNat_natCast,List.range_eq_range']at hit;have hf:=dQ (Φ:=Φ) (t:=.nm 3) (b:=FV) hit el;rw[List.nil_append]at hf;simp[mk_eq,jU,m1,m2,x1,e1,e2,hf]
noncomputable def qi(p:Int×Int):D:=.tup [.int p.1,.int p.2]
def cD(ps:List (Int×Int)):aa:=ps.map qi
@[simp]theorem G4(g:Fl->Fl)(p:Int×Int):aS g (qi p)=qi p:=by unfold qi;simp
@[simp]theorem Hs(g:Fl->Bool)(p:Int×Int):bc g (qi p)=false:=by unfold qi;simp
@[simp]theorem rC(g:Fl->Fl)(ps:List (Int×Int)):aF g (cD ps)=cD ps:=du g (G4 g) ps
@[simp]theorem rJ(g:Fl->Bool)(ps:List (Int×Int)):aQ g (cD ps)=false:=cL g (Hs g) ps
@[simp]theorem OZ(ps:List (Int×Int)):(cD ps).length=ps.length:=abd ..
noncomputable def dZ(hs gs:ae):List (Int×Int):=gs.flatMap λg=>hs.map λh=>(g,h)
noncomputable def HU:CE:=.comp 1 (.nm 0) [2] .seq [(.v 0)] [] (.tup [(.v 1),(.v 0)])
def FZ:ag:=[.mut 1013 1 [HU]]
def ud:ag:=[.asg (.nm 1) (.lst []),.fr (.nm 2) (.seq (.v 0)) FZ,.ret (.v 1)]
noncomputable def lu:ag:=[.ret (.ix (.ix (.v 0) (.ix (.v 1) (.int 0))) (.ix (.v 1) (.int 1)))]
noncomputable def ub:ag:=[.ret (.call 6 [(.ix (.ix (.v 0) (.ix (.v 1) (.int 0))) (.ix (.v 1) (.int 0))),(.ix (.ix (.v 0) (.ix (.v 1) (.int 1))) (.ix (.v 1) (.int 1)))])]
def jv(m:aw):Prop:=∀n rs (g h:Nat),g<n->h<n->m [.lst .fz (bP n rs .fz 0 n),qi (g,h)]=ok (qD (aj rs g h))
def yk(m:aw):Prop:=∀k n rs (g h:Nat),Dr k n rs->g<n->h<n->m [.lst .fz (bP n rs .fz 0 n),qi (g,h)]=ok (qD (aj rs g g*aj rs h h))
theorem lV{n:Nat}{rs:ai}{g h:Nat}(hh:h<n):v9 (a_ ((List.range' 0 n).map λ(h:Nat)=>aj rs g h)) (h:Int)=ok (qD (aj rs g h)):=by
 have a2:=kf (qs:=(List.range' 0 n).map λ(h:Nat)=>aj rs g h) (h:=(h:Int)) (by left) (by simp;left);have a3:bK ((List.range' 0 n).map λ(h:Nat)=>aj rs g h) (h:Int)=aj rs g h:=by
  unfold bK;rw[Int.toNat_natCast,List.getD_eq_getElem?_getD,List.getElem?_map,List.getElem?_range' hh];simp
 rw[a3]at a2;exact a2
@[simp]theorem V7(p:Int×Int):vm (qi p) (.int 0)=ok (.int p.1):=by unfold qi;simp
@[simp]theorem V6(p:Int×Int):vm (qi p) (.int 1)=ok (.int p.2):=by unfold qi;simp
theorem B7(Φ:aT):jv (mk Φ 2 2 lu):=by
 intro n rs g h hg hh;have a1:=rb (rs:=rs) (f:=.fz) hg;have a2:=lV (rs:=rs) (g:=g) hh;simp[mk_eq,lu,bB,a1,a2]
theorem KH(Φ:aT)(h6:dO (Φ 6)):yk (mk Φ 2 2 ub):=by
 intro k n rs g h I hg hh;have a1:=rb (rs:=rs) (f:=.fz) hg;have a2:=lV (rs:=rs) (g:=g) hg;have a3:=rb (rs:=rs) (f:=.fz) hh;have a4:=lV (rs:=rs) (g:=h) hh;have e:=h6 _ _ ((bM I g g).mono (by decide)) ((bM I h h).mono (by decide));simp[mk_eq,ub,bB,a1,a2,a3,a4,e]
def rl(rs:ai)(ws xs:az)(g h:Int):Rat:=(aj rs g h - aj rs g g*aj rs h h)*(bK ws g*bK xs g*(bK ws h*bK xs h))
noncomputable def og:ag:=[.asg (.nm 4) (.call 6 [(.ix (.v 2) (.ix (.v 1) (.int 0))),(.ix (.v 3) (.ix (.v 1) (.int 0)))]),.asg (.nm 5) (.call 6 [(.ix (.v 2) (.ix (.v 1) (.int 1))),(.ix (.v 3) (.ix (.v 1) (.int 1)))]),.ret (.call 6 [(.call 5 [(.call 62 [(.v 0),(.v 1)]),(.call 61 [(.v 0),(.v 1)])]),(.call 6 [(.v 4),(.v 5)])])]
def zU(m:aw):Prop:=∀k n rs f f' ws xs j (g h:Nat),Dr k n rs->Gs j n ws xs->g<n->h<n->m [.lst .fz (bP n rs .fz 0 n),qi (g,h),.lst f (a_ ws),.lst f' (a_ xs)]=ok (qD (rl rs ws xs g h))
theorem Gg(Φ:aT)(h5:my (Φ 5))(h6:dO (Φ 6))(W3:yk (Φ 61))(MC:jv (Φ 62)):zU (mk Φ 4 6 og):=by
 intro k n rs f f' ws xs j g h I G hg hh;have hj:=G.jj;have l1:=G.l1;have l2:=G.l2;have sg:=G.s1 _ (bh (qs:=ws) (h:=(g:Int)) (by left) (by left)).2;have sh:=G.s1 _ (bh (qs:=ws) (h:=(h:Int)) (by left) (by left)).2;have tg:=G.s2 _ (bh (qs:=xs) (h:=(g:Int)) (by left) (by left)).2;have th:=G.s2 _ (bh (qs:=xs) (h:=(h:Int)) (by left) (by left)).2;have a1:=kf (qs:=ws) (h:=(g:Int)) (by left) (by left);have a2:=kf (qs:=ws) (h:=(h:Int)) (by left) (by left);have a3:=kf (qs:=xs) (h:=(g:Int)) (by left) (by left);have a4:=kf (qs:=xs) (h:=(h:Int)) (by left) (by left);have e1:=h6 _ _ (sg.mono (by left)) (tg.mono (by left));have e2:=h6 _ _ (sh.mono (by left)) (th.mono (by left));have e3:=h6 _ _ ((sg.mul tg).mono (by left)) ((sh.mul th).mono (by left));have e4:=W3 k n rs g h I hg hh;have e5:=MC n rs g h hg hh;have s1:=bM I g h;have s2:=(bM I g g).mul (bM I h h);have e6:=h5 _ _ (s1.mono (by decide)) (s2.mono (by decide));have e7:=h6 _ _ ((s1.sub s2).mono (by decide)) (((sg.mul tg).mul (sh.mul th)).mono (by left));simp[mk_eq,og,bB,a1,a2,a3,a4,e1,e2,e3,e4,e5,e6,e7];rfl
def PQ(n:Nat)(rs:ai)(ws xs:az):Rat:=((dZ (UQ n) (UQ n)).map λp=>rl rs ws xs p.1 p.2).sum
theorem ES{hs gs:ae}{p:Int×Int}:p∈dZ hs gs ↔ p.1∈gs/\p.2∈hs:=by
 unfold dZ;simp only[List.mem_flatMap,List.mem_map];constructor
 ·rintro ⟨g,hg,h,hh,rfl⟩;exact⟨hg,hh⟩
 ·rintro ⟨h1,h2⟩;exact⟨p.1,h1,p.2,h2,rfl⟩
theorem p4(hs:ae):∀gs:ae,(dZ hs gs).length=gs.length*hs.length
 |[]=>by simp[dZ]
 |g::gs=>by
  have e:dZ hs (g::gs)=(hs.map λh=>(g,h))++dZ hs gs:=by simp[dZ]
  rw[e,List.length_append,List.length_map,p4 hs gs,List.length_cons,Nat.succ_mul];left
def gQ(ws xs:az)(r:Row):Rat:=dC r.2 λh=>bK ws h*bK xs h
noncomputable def m7(rs:ai)(ws xs:az):Rat:=(rs.map λr=>r.1*(gQ ws xs r*gQ ws xs r)).sum
theorem yy{b c:Nat}{P:az}(hc:∀q∈P,q.den∣c):∀(rs:ai),(∀r∈rs,r.1.den∣b)->(∀r∈rs,∀h∈r.2,0<=h/\h<(P.length:Int)) ->
  ((Ai b rs (rs.map λr=>sumZ r.2 (P.map (bL c))):Int):Rat)=(rs.map λr=>r.1*((dC r.2 λh=>bK P h)*dC r.2 λh=>bK P h)).sum*((b:Rat)*((c:Rat)*(c:Rat)))
 |[],_,_=>by simp[Ai,Rat.zero_mul]
 |r::rs,hb,hl=>by
  have ih:=yy hc rs (λs hs=>hb s (aae _ hs)) λs hs=>hl s (aae _ hs);have e:Ai b (r::rs) ((r::rs).map λr=>sumZ r.2 (P.map (bL c)))=bL b r.1*sumZ r.2 (P.map (bL c))*sumZ r.2 (P.map (bL c))+Ai b rs (rs.map λr=>sumZ r.2 (P.map (bL c))):=rfl;rw[e,Rat.intCast_add,Rat.intCast_mul,Rat.intCast_mul,kR (hb r List.mem_cons_self),oH hc r.2 (hl r List.mem_cons_self),ih,List.map_cons,List.sum_cons];grind
theorem oI{k n j:Nat}{rs:ai}(I:Dr k n rs)(G:Gs j n ws xs):dM rs ws xs=m7 rs ws xs - cK rs ws xs*cK rs ws xs:=by
 have hs:=G.NW I.n2;obtain⟨c0,_,c2⟩:=hs.lcm;obtain⟨b0,_,b2⟩:=I.bot;have hP:(w8 ws xs).length=n:=by unfold w8;rw[List.length_map,List.length_zip,G.l1,G.l2,Nat.min_self]
 have hl:∀r∈rs,∀h∈r.2,0<=h/\h<((w8 ws xs).length:Int):=λr hr h hh=>by rw[hP];exact(I.lot r hr).2 h hh
 have hb:∀r∈rs,r.1.den∣bQ (cq rs):=λr hr=>b2 _ (aaI hr);have t:=yw (b:=bQ (cq rs)) c2 rs hb hl;have q:=yy (b:=bQ (cq rs)) c2 rs hb hl;have ea:∀r∈rs,(dC r.2 λh=>bK (w8 ws xs) h)=gQ ws xs r:=λr hr=>wQ λh hh=>G.at ((I.lot r hr).2 h hh).1 ((I.lot r hr).2 h hh).2;have e1:(rs.map λr=>r.1*dC r.2 λh=>bK (w8 ws xs) h)=rs.map λr=>r.1*dC r.2 λh=>bK ws h*bK xs h:=aaj λr hr=>by rw[ea r hr];rfl
 have e2:(rs.map λr=>r.1*((dC r.2 λh=>bK (w8 ws xs) h)*dC r.2 λh=>bK (w8 ws xs) h))=rs.map λr=>r.1*(gQ ws xs r*gQ ws xs r):=aaj λr hr=>by rw[ea r hr]
 rw[e1]at t;rw[e2]at q;unfold dM DU yA;generalize wK (bQ (cq rs)) rs _=T at *;generalize Ai (bQ (cq rs)) rs _=Q at *;change ((T:Int):Rat)=cK rs ws xs*_ at t;change ((Q:Int):Rat)=m7 rs ws xs*_ at q;generalize cK rs ws xs=m at *;generalize m7 rs ws xs=s at *;generalize bQ (cq rs)=b at *;generalize bQ (w8 ws xs)=c at *;rw[Rat.divInt_eq_div];simp only[Rat.intCast_sub,Rat.intCast_mul,Rat.intCast_natCast,t,q];have jQ:(b:Rat)≠0:=λz=>by
  have:((b:Int):Rat)=0:=by rw[Rat.intCast_natCast];exact z
  rw[Rat.intCast_eq_zero_iff]at this;left
 have wt:(c:Rat)≠0:=λz=>by
  have:((c:Int):Rat)=0:=by rw[Rat.intCast_natCast];exact z
  rw[Rat.intCast_eq_zero_iff]at this;left
 generalize (b:Rat)=x at *;generalize (c:Rat)=y at *;grind
noncomputable def ib(n:Nat)(f:Nat->Nat->Rat):Rat:=((List.range' 0 n).map λg=>((List.range' 0 n).map λh=>f g h).sum).sum
theorem lj{α:Type}(f:α->az):∀l:List α,(l.flatMap f).sum=(l.map λa=>(f a).sum).sum
 |[]=>rfl
 |a::l=>by rw[List.flatMap_cons,List.sum_append,lj f l,List.map_cons,List.sum_cons]
theorem Cq(n:Nat)(rs:ai)(ws xs:az):PQ n rs ws xs=ib n λg h=>rl rs ws xs g h:=by
 unfold PQ dZ ib;rw[List.map_flatMap,lj];unfold UQ;rw[Int.toNat_natCast,List.range_eq_range',List.map_map];congr 1;refine aaj λg _=>?_;show((((List.range' 0 n).map λ(k:Nat)=>(k:Int)).map λh=>((g:Int),h)).map λp=>rl rs ws xs p.1 p.2).sum=_;rw[List.map_map,List.map_map];rfl
theorem mh(n:Nat)(f g:Nat->Nat->Rat):(ib n λa b=>f a b+g a b)=ib n f+ib n g:=by
 unfold ib;rw[<- sum_add];congr 1;exact aaj λk _=>sum_add _ _ _
theorem jo(n:Nat)(c:Rat)(f:Nat->Nat->Rat):(ib n λa b=>c*f a b)=c*ib n f:=by
 unfold ib;rw[<- c9];congr 1;exact aaj λk _=>c9 _ _ _
theorem zw(n:Nat)(a b:Nat->Rat):(ib n λg h=>a g*b h)=((List.range' 0 n).map a).sum*((List.range' 0 n).map b).sum:=by
 unfold ib;have e:((List.range' 0 n).map λg=>((List.range' 0 n).map λh=>a g*b h).sum)=(List.range' 0 n).map λg=>((List.range' 0 n).map b).sum*a g:=aaj λg _=>by
  show((List.range' 0 n).map λh=>a g*b h).sum=_;rw[c9 (a g) b,Rat.mul_comm]
 rw[e,c9,Rat.mul_comm]
theorem hU{n:Nat}{f g:Nat->Nat->Rat}(h:∀a b,f a b=g a b):ib n f=ib n g:=by rw[show f=g from funext λa=>funext λb=>h a b]
theorem zx(n:Nat)(ws xs:az):∀(rs:ai),(∀r∈rs,jx n r.2)->(ib n λg h=>aj rs g h*(bK ws g*bK xs g*(bK ws h*bK xs h)))=m7 rs ws xs
 |[],_=>by
  have e:(ib n λg h=>aj [] g h*(bK ws g*bK xs g*(bK ws h*bK xs h)))=ib n λg h=>0*(bK ws g*bK xs g*(bK ws h*bK xs h)):=rfl;rw[e,jo,Rat.zero_mul];rfl
 |r::rs,h=>by
  have ih:=zx n ws xs rs λs hs=>h s (aae _ hs);have hl:=h r aai;have e2:=dh (λh=>bK ws h*bK xs h) n 0 r.2 hl.1 λy hy=>by have:=hl.2 y hy;constructor<;>left
  have eg:gQ ws xs r=((List.range' 0 n).map λ(i:Nat)=>if (i:Int)∈r.2 then bK ws i*bK xs i else 0).sum:=e2.symm;have e1:m7 (r::rs) ws xs=r.1*(gQ ws xs r*gQ ws xs r)+m7 rs ws xs:=by unfold m7;rw[List.map_cons,List.sum_cons]
  rw[e1,<- ih,eg,<- zw,<- jo,<- mh];refine hU λa b=>?_;rw[di];by_cases ha:(a:Int)∈r.2<;>by_cases hb:(b:Int)∈r.2<;>simp[bX,ha,hb]<;>grind
theorem ra{k n j:Nat}{rs:ai}(I:Dr k n rs)(G:Gs j n ws xs):PQ n rs ws xs=dM rs ws xs:=by
 rw[oI I G,Cq,rB n ws xs rs I.lot,<- zx n ws xs rs I.lot,<- zw];have e:(ib n λg h=>rl rs ws xs g h)=ib n λg h=>aj rs g h*(bK ws g*bK xs g*(bK ws h*bK xs h))+(-1)*(bK ws g*bK xs g*aj rs g g*(bK ws h*bK xs h*aj rs h h)):=hU λa b=>by unfold rl;grind
 rw[e,mh,jo];grind
noncomputable def nE(rs:ai)(ws xs:az)(m:Rat):Rat:=(rs.map λr=>r.1*((gQ ws xs r - m)*(gQ ws xs r - m))).sum
theorem Eo(ws xs:az)(m:Rat):∀rs:ai,nE rs ws xs m=m7 rs ws xs - 2*m*cK rs ws xs+m*m*(rs.map (·.1)).sum
 |[]=>by simp[nE,m7,cK];grind
 |r::rs=>by
  have ih:=Eo ws xs m rs;have e1:nE (r::rs) ws xs m=r.1*((gQ ws xs r - m)*(gQ ws xs r - m))+nE rs ws xs m:=by unfold nE;rw[List.map_cons,List.sum_cons]
  have e2:m7 (r::rs) ws xs=r.1*(gQ ws xs r*gQ ws xs r)+m7 rs ws xs:=by unfold m7;rw[List.map_cons,List.sum_cons]
  have e3:cK (r::rs) ws xs=r.1*gQ ws xs r+cK rs ws xs:=by unfold cK gQ;rw[List.map_cons,List.sum_cons]
  rw[e1,e2,e3,ih,List.map_cons,List.sum_cons];grind
theorem pR{k n j:Nat}{rs:ai}(I:Dr k n rs)(G:Gs j n ws xs):nE rs ws xs (cK rs ws xs)=dM rs ws xs:=by
 rw[oI I G,Eo,I.one];grind
def Fm(M B:Nat)(q:Rat):Prop:=0<M/\∃z:Int,z.natAbs<=B/\q*(M:Rat)=(z:Rat)
section
variable {M N B C:Nat}{p q:Rat}
theorem sX{M:Nat}(h:0<M):(M:Rat)≠0:=λz=>by
 have:((M:Int):Rat)=0:=by rw[Rat.intCast_natCast];exact z
 rw[Rat.intCast_eq_zero_iff]at this;left
theorem Fm.divInt(h:Fm M B q):∃z:Int,z.natAbs<=B/\q=Rat.divInt z M:=by
 obtain⟨h0,z,hz,e⟩:=h;refine⟨z,hz,?_⟩;rw[Rat.divInt_eq_div,<- e,Rat.intCast_natCast];have:=sX h0;grind
theorem Fm.sm{k:Nat}(h:Fm M B q)(h1:M<2 ^ k)(h2:B<2 ^ k):Sm k q:=by
 have h0:=h.1;obtain⟨z,hz,rfl⟩:=h.divInt;exact lO (by left) (by left) (by simpa using h1)
theorem Fm.mono(h:Fm M B q)(hl:B<=C):Fm M C q:=⟨h.1,h.2.choose,aaD h.2.choose_spec.1 hl,h.2.choose_spec.2⟩
theorem Fm.add(h:Fm M B p)(h':Fm M C q):Fm M (B+C) (p+q):=by
 obtain⟨h0,z,hz,e⟩:=h;obtain⟨_,w,hw,e'⟩:=h';exact⟨h0,z+w,by left,by rw[Rat.intCast_add,<- e,<- e'];grind⟩
theorem Fm.sub(h:Fm M B p)(h':Fm M C q):Fm M (B+C) (p - q):=by
 obtain⟨h0,z,hz,e⟩:=h;obtain⟨_,w,hw,e'⟩:=h';exact⟨h0,z - w,by left,by rw[Rat.intCast_sub,<- e,<- e'];grind⟩
theorem Fm.mul(h:Fm M B p)(h':Fm N C q):Fm (M*N) (B*C) (p*q):=by
 obtain⟨h0,z,hz,e⟩:=h;obtain⟨T7,w,hw,e'⟩:=h';exact⟨aaA h0 T7,z*w,by rw[Int.natAbs_mul];exact aaG hz hw,by rw[Rat.intCast_mul,<- e,<- e',Rat.natCast_mul];grind⟩
theorem Fm.lift(c:Nat)(hc:0<c)(h:Fm M B q):Fm (c*M) (c*B) q:=by
 obtain⟨h0,z,hz,e⟩:=h;exact⟨aaA hc h0,c*z,by rw[Int.natAbs_mul,Int.natAbs_natCast];exact aaK _ hz,by rw[Rat.intCast_mul,<- e,Rat.natCast_mul,Rat.intCast_natCast];grind⟩
theorem Fm.zero(h:0<M):Fm M 0 0:=⟨h,0,by decide,by rw[Rat.zero_mul];rfl⟩
theorem Fm.sum{qs:az}(h0:0<M)(h:∀q∈qs,Fm M B q):Fm M (qs.length*B) qs.sum:=by
 induction qs with
 |nil=>simpa using Fm.zero h0
 |cons q qs ih =>
  rw[List.sum_cons,List.length_cons,Nat.succ_mul,Nat.add_comm];exact(h q aai).add (ih λp hp=>h p (aae _ hp))
theorem xI(h0:0<M)(hd:q.den∣M)(hn:q.num.natAbs<=B*q.den):Fm M (B*M) q:=by
 obtain⟨c,rfl⟩:=hd;refine⟨h0,q.num*c,?_,?_⟩
 ·rw[Int.natAbs_mul,Int.natAbs_natCast,<- Nat.mul_assoc];exact aaB _ hn
 ·rw[Rat.intCast_mul,Cm,Rat.natCast_mul,Rat.intCast_natCast];grind
theorem tL(h:Sm 3 q):Fm 420 (7*420) q:=by
 have hp:=q.den_pos;have h1:=h.1;have h2:=h.2;refine xI (by decide) ?_ ?_
 ·have:q.den=1\/q.den=2\/q.den=3\/q.den=4\/q.den=5\/q.den=6\/q.den=7:=by left
  rcases this with e|e|e|e|e|e|e<;>rw[e]<;>decide
 ·have:7*1<=7*q.den:=aaK _ hp;left
end
theorem D1{P:ae->Prop}{k n:Nat}{rs:ai}(I:Dp P k n rs)(h0:0<W)(hd:∀r∈rs,r.1.den∣W){r:Row}(hr:r∈rs):Fm W (1*W) r.1:=by
 refine xI h0 (hd r hr) ?_;have h:=dI (λs=>decide (s=r)) rs I.pos;have hp:=I.pos r hr;have key:∀l:ai,(∀s∈l,0<s.1)->r∈l->r.1<=(cq l).sum:=λl=>by
  induction l with
  |nil=>intro _ h;cases h
  |cons s l ih =>
   intro hp hm;have e:(cq (s::l)).sum=s.1+(cq l).sum:=rfl;rw[e];have h1:=hp s aai;have h2:=(dI (λ_=>true) l λx hx=>hp x (aae _ hx)).1;have h3:l.filter (λ_=>true)=l:=by simp
   rw[h3]at h2;rcases List.mem_cons.mp hm with rfl|hm
   ·grind
   ·have:=ih (λx hx=>hp x (aae _ hx)) hm;grind
 have h1:r.1<=1:=by have:=key rs I.pos hr;have e:(cq rs).sum=1:=I.one;rw[e]at this;exact this
 have n0:=fL hp;have:r.1.num<=r.1.den:=by
  rw[Rat.le_iff]at h1;simpa using h1
 left
theorem Xt{n:Nat}{f:Int->Rat}(h0:0<M)(hl:lot.length<=n)(h:∀x∈lot,Fm M B (f x)):Fm M (n*B) (dC lot f):=by
 have:=Fm.sum (qs:=lot.map f) h0 λq hq=>by
  obtain⟨x,hx,rfl⟩:=List.mem_map.mp hq;exact h x hx
 rw[List.length_map]at this;exact this.mono (aaB _ hl)
noncomputable def Xj:Nat:=420*420
noncomputable def jH:ag:=[.asg (.nm 7) (.call 222 [(.call 231 [(.v 1),(.v 6),(.v 2)]),(.v 3)]),.asg (.nm 4) (.call 202 [(.v 4),(.call 203 [(.v 5),(.call 203 [(.v 7),(.v 7)])])])]
def jV:ag:=[.asg (.nm 3) (.call 232 [(.v 0),(.v 1),(.v 2)]),.asg (.nm 4) (.tup [(.int 0),(.int 1)]),.fr (.tp [5,6]) (.seq (.ix (.v 0) (.int 1))) jH,.ret (.v 4)]
structure LsB(W M Bm Bg dv:Nat):Prop where
 w1:W<64
 m1:M<2 ^ 200
 m2:M*M<2 ^ 200
 m3:W*(M*M)<2 ^ 200
 bm:Bm<2 ^ 200
 bg:Bg<2 ^ 200
 ds:Bg+Bm<=dv
 d1:dv<2 ^ 200
 d2:dv*dv<2 ^ 200
 d3:12*(64*(dv*dv))<2 ^ 200
def zZ(m:aw):Prop:=∀hs,hs.length<=12->m [.tup (ah hs)]=ok (.lst .ow (cD (dZ hs hs)))
theorem v_(Φ:aT)(la:Φ 1013=xJ)(hs:ae)(hl:hs.length<=12):∀(gs:ae) (acc:List (Int×Int)) (c:aG),acc.length+12*gs.length<=200 ->
  ∃c',dJ (λd ρ=>bT (.nm 2) d ρ) (λρ=>bI Φ FZ ρ) (ah gs) [some (.tup (ah hs)),some (.lst .ow (cD acc)),c]=ok (.nx,[some (.tup (ah hs)),some (.lst .ow (cD (acc++dZ hs gs))),c'])
 |[],acc,c,_=>⟨c,by simp[eh,dZ]⟩
 |g::gs,acc,c,h=>by
  rw[List.length_cons]at h;have k1:bz Φ HU [some (.tup (ah hs)),some (.lst .ow (cD acc)),some (.int g)]=ok (.lst .ow (cD (hs.map λh=>(g,h)))):=by
   unfold HU;rw[bW (xs:=[.tup (ah hs)]) (items:=hs.map D.int) (ds:=hs.map λh=>qi (g,h)) (by simp) (by rw[tu,gw];rfl) (bG λh hh=>⟨[some (.int h),some (.int g)],by simp[bw],by simp,by simp[qi]⟩) (by simp;exact bD (by left))];simp[cD,aX]
  have e1:Φ 1013 [.lst .ow (cD acc),.lst .ow (cD (hs.map λh=>(g,h)))]=ok (.lst .ow (cD (acc++hs.map λh=>(g,h)))):=by
   rw[la];show(if aQ anyF (cD (hs.map λh=>(g,h)))=false/\(cD acc).length+(cD (hs.map λh=>(g,h))).length<=eH then ok (D.lst .ow (cD acc++cD (hs.map λh=>(g,h))))else none)=_;rw[if_pos ⟨rJ _ _,by simp;exact bD (by left)⟩];unfold cD;rw[List.map_append]
  have hx:=wz (Φ:=Φ) (p:=1013) (i:=1) (es:=[HU]) (ρ:=[some (.tup (ah hs)),some (.lst .ow (cD acc)),some (.int g)]) (xs:=[.lst .ow (cD (hs.map λh=>(g,h)))]) (by simp[k1]) (by simp) rfl e1;obtain⟨c',ih⟩:=v_ Φ la hs hl gs (acc++hs.map λh=>(g,h)) (some (.int g)) (by simp;left);refine⟨c',cN (ρ1:=[some (.tup (ah hs)),some (.lst .ow (cD acc)),some (.int g)]) (by simp) (ρ2:=[some (.tup (ah hs)),some (.lst .ow (cD (acc++hs.map λh=>(g,h)))),some (.int g)]) ?_ ?_⟩
  ·rw[FZ,df,hx];simp
  ·exact ih.trans (by simp[dZ])
theorem Gq(Φ:aT)(la:Φ 1013=xJ):zZ (mk Φ 1 3 ud):=by
 intro hs hl;obtain⟨c,el⟩:=v_ Φ la hs hl hs [] none (by simp;left);have hit:cc Φ (.seq (.v 0)) [some (.tup (ah hs)),some (.lst .ow []),none]=ok (ah hs,[some (.tup (ah hs)),some (.lst .ow []),none]):=by
  rw[QC (ds:=ah hs) (by simp)];simp
 have hx:=dQ (Φ:=Φ) (t:=.nm 2) (b:=FZ) hit el;rw[List.nil_append]at hx;simp[mk_eq,ud,hx]
noncomputable def i3:ae->List (Int×Int)
 |[]=>[]
 |g::gs=>gs.map (λh=>(g,h))++i3 gs
noncomputable def HL:CE:=.comp 1 (.nm 0) [3] .seq [(.cI 1023 [(.v 0),(.bin .add (.v 2) (.int 1))])] [] (.tup [(.v 1),(.v 0)])
def FU:ag:=[.mut 1013 1 [HL]]
def t_:ag:=[.asg (.nm 1) (.lst []),.fr (.tp [2,3]) (.CA 1002 [(.v 0)]) FU,.ret (.v 1)]
def ET(m:aw):Prop:=∀hs,hs.length<=12->m [.tup (ah hs)]=ok (.lst .ow (cD (i3 hs)))
theorem yI(Φ:aT)(la:Φ 1013=xJ)(zd:Φ 1023=vS)(hs:ae)(hl:hs.length<=12):∀(gs:ae) (j:Nat) (acc:List (Int×Int)) (c2 c3:aG),hs.drop j=gs->acc.length+12*gs.length<=200 ->
  ∃t4 yb,dJ (λd ρ=>bT (.tp [2,3]) d ρ) (λρ=>bI Φ FU ρ) (bN j (ah gs)) [some (.tup (ah hs)),some (.lst .ow (cD acc)),c2,c3]=ok (.nx,[some (.tup (ah hs)),some (.lst .ow (cD (acc++i3 gs))),t4,yb])
 |[],j,acc,c2,c3,_,_=>⟨c2,c3,by simp[eh,i3,bN]⟩
 |g::gs,j,acc,c2,c3,hd,h=>by
  rw[List.length_cons]at h;have hj:j<hs.length:=by
   have:=aaX List.length hd;rw[List.length_drop,List.length_cons]at this;left
  have TR:gs.length<=12:=by
   have:=aaX List.length hd;rw[List.length_drop,List.length_cons]at this;left
  have TV:hs.drop (j+1)=gs:=by
   rw[<- List.drop_drop,hd];rfl
  have e0:Φ 1023 [.tup (ah hs),.int ((j:Int)+1)]=ok (.tup (ah gs)):=by
   rw[zd];show(if 1<=((j:Int)+1)/\((j:Int)+1)<=((ah hs).length:Nat)/\aQ anyF (ah hs)=false then ok (D.tup ((ah hs).drop ((j:Int)+1).toNat))else none)=_;rw[if_pos ⟨by left,by simp;left,by simp⟩,show((j:Int)+1).toNat=j+1 by left];unfold ah;rw[<- List.map_drop,TV]
  have k1:bz Φ HL [some (.tup (ah hs)),some (.lst .ow (cD acc)),some (.int j),some (.int g)]=ok (.lst .ow (cD (gs.map λh=>(g,h)))):=by
   unfold HL;rw[bW (xs:=[.tup (ah gs)]) (items:=gs.map D.int) (ds:=gs.map λh=>qi (g,h)) (by simp[e0]) (by rw[tu,gw];rfl) (bG λh hh=>⟨[some (.int h),some (.int g)],by simp[bw],by simp,by simp[qi]⟩) (by simp;exact bD (by left))];simp[cD,aX]
  have e1:Φ 1013 [.lst .ow (cD acc),.lst .ow (cD (gs.map λh=>(g,h)))]=ok (.lst .ow (cD (acc++gs.map λh=>(g,h)))):=by
   rw[la];show(if aQ anyF (cD (gs.map λh=>(g,h)))=false/\(cD acc).length+(cD (gs.map λh=>(g,h))).length<=eH then ok (D.lst .ow (cD acc++cD (gs.map λh=>(g,h))))else none)=_;rw[if_pos ⟨rJ _ _,by simp;exact bD (by left)⟩];unfold cD;rw[List.map_append]
  have hx:=wz (Φ:=Φ) (p:=1013) (i:=1) (es:=[HL]) (ρ:=[some (.tup (ah hs)),some (.lst .ow (cD acc)),some (.int j),some (.int g)]) (xs:=[.lst .ow (cD (gs.map λh=>(g,h)))]) (by simp[k1]) (by simp) rfl e1;obtain⟨t4,yb,ih⟩:=yI Φ la zd hs hl gs (j+1) (acc++gs.map λh=>(g,h)) (some (.int j)) (some (.int g)) TV (by simp;left);refine⟨t4,yb,cN (ρ1:=[some (.tup (ah hs)),some (.lst .ow (cD acc)),some (.int j),some (.int g)]) (by simp) (ρ2:=[some (.tup (ah hs)),some (.lst .ow (cD (acc++gs.map λh=>(g,h)))),some (.int j),some (.int g)]) ?_ ?_⟩
  ·rw[FU,df,hx];simp
  ·exact ih.trans (by simp[i3])
theorem rQ(g:Fl->Fl):∀(hs:ae) (j:Nat),aF g (bN j (ah hs))=bN j (ah hs)
 |[],_=>rfl
 |h::hs,j=>by
  show aS g (.tup [.int j,.int h])::aF g (bN (j+1) (ah hs))=_;rw[rQ g hs (j+1)];rfl
theorem Kz(Φ:aT)(RT:Φ 1002=tQ)(la:Φ 1013=xJ)(zd:Φ 1023=vS):ET (mk Φ 1 4 t_):=by
 intro hs hl;obtain⟨c2,c3,el⟩:=yI Φ la zd hs hl hs 0 [] none none rfl (by simp;left);have hit:cc Φ (.CA 1002 [(.v 0)]) [some (.tup (ah hs)),some (.lst .ow []),none,none]=ok (bN 0 (ah hs),[some (.tup (ah hs)),some (.lst .ow []),none,none]):=by
  have hI:∀ρ,cc Φ (.CA 1002 [(.v 0)]) ρ=bd (cf Φ [(.v 0)] ρ) λxs=>bd (Φ 1002 xs) λd=>bd (m9 d) λitems=>ok (items,if aQ bZ xs then i4 (dF [(.v 0)]) ρ else ρ):=λ_=>rfl;rw[hI];have:cf Φ [(.v 0)] [some (.tup (ah hs)),some (.lst .ow []),none,none]=ok [.tup (ah hs)]:=by simp
  rw[this,dG,RT];show bd (ok (D.lst .ow (bN 0 (ah hs)))) _=_;rw[dG];show bd (ok (aF aW (bN 0 (ah hs)))) _=_;rw[dG,rQ];simp
 have hx:=dQ (Φ:=Φ) (t:=.tp [2,3]) (b:=FU) hit el;rw[List.nil_append]at hx;simp[mk_eq,t_,hx]
noncomputable def oF:ag:=[.ifs (.cmp .eq (.ix (.v 2) (.int 0)) (.int 0)) [.rs 6] []]
def qS:ag:=[.fr (.nm 2) (.seq (.v 1)) oF]
def iE:ag:=[.fr (.nm 1) (.seq (.v 0)) qS]
def uj(m:aw):Prop:=∀n rs,n<=12->(∀g h:Nat,g<n->h<n->0<aj rs g h)->m [.lst .fz (bP n rs .fz 0 n)]=ok .bV
theorem pT(Φ:aT)(c0 c1:aG):∀(qs:az) (c2:aG),(∀q∈qs,0<q)->∃t4,dJ (λd ρ=>bT (.nm 2) d ρ) (λρ=>bI Φ oF ρ) (a_ qs) [c0,c1,c2]=ok (.nx,[c0,c1,t4])
 |[],c2,_=>⟨c2,rfl⟩
 |q::qs,c2,h=>by
  have hq:=fL (h q aai);obtain⟨t4,ih⟩:=pT Φ c0 c1 qs (some (qD q)) λp hp=>h p (aae _ hp);have c:ez .eq (.int q.num) (.int 0)=ok (.bl false):=by
   rw[x9 rfl rfl];show ok (D.bl (q.num==0))=_;rw[beq_eq_false_iff_ne.mpr (by left)]
  refine⟨t4,cN (ρ1:=[c0,c1,some (qD q)]) (by simp) (ρ2:=[c0,c1,some (qD q)]) ?_ ih⟩;simp[oF,c]
theorem vT(Φ:aT){n:Nat}{rs:ai}(hp:∀g h:Nat,g<n->h<n->0<aj rs g h)(c0:aG):∀(k j:Nat) (c1 c2:aG),j+k<=n->∃Bs t4,dJ (λd ρ=>bT (.nm 1) d ρ) (λρ=>bI Φ qS ρ) (bP n rs .fz j k) [c0,c1,c2]=ok (.nx,[c0,Bs,t4])
 |0,j,c1,c2,_=>⟨c1,c2,rfl⟩
 |k+1,j,c1,c2,h=>by
  obtain⟨a2,e2⟩:=pT Φ c0 (some (.lst .fz (a_ ((List.range' 0 n).map λ(h:Nat)=>aj rs j h)))) ((List.range' 0 n).map λ(h:Nat)=>aj rs j h) c2 λq hq=>by
   obtain⟨i,hi,rfl⟩:=List.mem_map.mp hq;have:=List.mem_range'_1.mp hi;exact hp j i (by left) (by left)
  have hit:cc Φ (.seq (.v 1)) [c0,some (.lst .fz (a_ ((List.range' 0 n).map λ(h:Nat)=>aj rs j h))),c2]=ok (a_ ((List.range' 0 n).map λ(h:Nat)=>aj rs j h),[c0,some (.lst .fz (a_ ((List.range' 0 n).map λ(h:Nat)=>aj rs j h))),c2]):=by
   rw[qB (f:=.fz) (ds:=a_ ((List.range' 0 n).map λ(h:Nat)=>aj rs j h)) (by simp)];simp
  have hf:=dQ (Φ:=Φ) (t:=.nm 2) (b:=oF) hit e2;obtain⟨Bs,t4,ih⟩:=vT Φ hp c0 k (j+1) (some (.lst .fz (a_ ((List.range' 0 n).map λ(h:Nat)=>aj rs j h)))) a2 (by left);have ep:bP n rs .fz j (k+1)=.lst .fz (a_ ((List.range' 0 n).map λ(h:Nat)=>aj rs j h))::bP n rs .fz (j+1) k:=by unfold bP;rw[List.range'_succ,List.map_cons]
  rw[ep];refine⟨Bs,t4,cN (ρ1:=[c0,some (.lst .fz (a_ ((List.range' 0 n).map λ(h:Nat)=>aj rs j h))),c2]) (by simp) (ρ2:=[c0,some (.lst .fz (a_ ((List.range' 0 n).map λ(h:Nat)=>aj rs j h))),a2]) ?_ ih⟩;rw[qS,df,hf];rfl
theorem Gp(Φ:aT):uj (mk Φ 1 3 iE):=by
 intro n rs hn hp;obtain⟨c1,c2,el⟩:=vT Φ hp (some (.lst .fz (bP n rs .fz 0 n))) n 0 none none (by left);have hit:cc Φ (.seq (.v 0)) [some (.lst .fz (bP n rs .fz 0 n)),none,none]=ok (bP n rs .fz 0 n,[some (.lst .fz (bP n rs .fz 0 n)),none,none]):=by
  rw[qB (f:=.fz) (ds:=bP n rs .fz 0 n) (by simp[bB])];have:=g9 bZ n rs .fz 0 n rfl;simp[bB,this]
 have hx:=dQ (Φ:=Φ) (t:=.nm 1) (b:=qS) hit el;simp[mk_eq,iE,hx]
noncomputable def Nu:CE:=.comp 2 (.tp [0,1]) [] .seq [(.ix (.v 1) (.int 1))] [] (.v 1)
def ua:ag:=[.ifs (.or [(.not (.call 11 [(.v 0),(.ix (.v 1) (.int 0))])),(.cI 1043 [(.v 0),Nu])]) [.rs 7] []]
def yj(m:aw):Prop:=∀k n rs r,Dr k n rs->r∈rs->m [.tup (ah r.2),bo n rs]=ok .bV
theorem KD(Φ:aT)(Xi:p9 (Φ 11))(RJ:Φ 1043=YT):yj (mk Φ 2 2 ua):=by
 intro k n rs r I hr;have hl:=I.lot r hr;have e1:=Xi (.tup (ah r.2)) n (hl.eH I.n2);rw[hl.s_]at e1;have m2:aS bE (bo n rs)=bo n rs:=by simp[bo]
 have m1:aS aW (bo n rs)=bo n rs:=by simp[bo]
 have hd:bo n rs=.tup [.int n,.lst .fz (cz rs)]:=rfl;have x0:vm (bo n rs) (.int 0)=ok (.int n):=by rw[hd];simp
 have x1:vm (bo n rs) (.int 1)=ok (.lst .fz (cz rs)):=by rw[hd];simp
 have k1:bz Φ Nu [some (.tup (ah r.2)),some (bo n rs)]=ok (.lst .ow (gx rs)):=by
  unfold Nu;rw[bW (xs:=[.lst .fz (cz rs)]) (items:=cz rs) (ds:=rs.map λr=>.tup (ah r.2)) (by simp[m2,x1]) (by rw[c_];simp) (bG λr hr=>?_) (by simp;exact bD (by have:=I.len;left))]
  ·exact aaX (λx=>ok (D.lst .ow x)) (kl iy rs)
  ·exact⟨[some (qD r.1),some (.tup (ah r.2))],by simp[bw,rD],by simp,by simp⟩
 have e2:Φ 1043 [.tup (ah r.2),.lst .ow (gx rs)]=ok (.bl false):=by
  rw[RJ];show(if dA 8 (.tup (ah r.2))=true/\(gx rs).all (dA 8)=true then ok (D.bl (!(gx rs).any λd=>iU d (.tup (ah r.2))))else none)=_;rw[if_pos ⟨rq 7 r.2,by
   rw[List.all_eq_true];intro d hd;unfold gx at hd;obtain⟨s,_,rfl⟩:=List.mem_map.mp hd;exact rq 7 s.2⟩]
  have:((gx rs).any λd=>iU d (.tup (ah r.2)))=true:=by
   rw[List.any_eq_true];refine⟨.tup (ah r.2),by unfold gx;exact aaI hr,?_⟩;show e_ (ah r.2) (ah r.2)=true;rw[Ea];simp
  rw[this];rfl
 simp[mk_eq,ua,m1,m2,x0,e1,k1,e2]
noncomputable def Nl:CE:=.comp 2 (.tp [0,1]) [] .seq [(.ix (.v 0) (.int 1))] [] (.bf .len [(.v 1)])
def oh:ag:=[.ifs (.cmp .ne (.cI 1042 [Nl]) (.int 1)) [.rs 5] []]
def zV(m:aw):Prop:=∀k n rs (z:Nat),Dr k n rs->(∀r∈rs,r.2.length=z)->m [bo n rs]=ok .bV
theorem A2(z:Int):∀(m:Nat),(i5 (List.replicate (m+1) z)).length=1:=λm=>by
 unfold i5;rw[List.replicate_succ,List.foldl_cons];have:∀m:Nat,(List.replicate m z).foldl (λ(m:ae) (k:Int)=>if m.any (· == k)then m else m++[k]) [z]=[z]:=λm=>by
  induction m with
  |zero=>rfl
  |succ m ih =>
   rw[List.replicate_succ,List.foldl_cons];have:([z].any (· == z))=true:=by simp
   rw[if_pos this,ih]
 have e:(if (([]:ae).any (· == z))=true then([]:ae)else[]++[z])=[z]:=rfl;rw[e,this];rfl
theorem Gh(Φ:aT)(RK:Φ 1042=Dc):zV (mk Φ 1 1 oh):=by
 intro k n rs z I hz;have hlen:=I.len;obtain⟨m,hm⟩:∃m,rs.length=m+1:=⟨rs.length - 1,by have:=I.some;left⟩
 have m2:aS bE (bo n rs)=bo n rs:=by simp[bo]
 have hd:bo n rs=.tup [.int n,.lst .fz (cz rs)]:=rfl;have x1:vm (bo n rs) (.int 1)=ok (.lst .fz (cz rs)):=by rw[hd];simp
 have k1:bz Φ Nl [some (bo n rs)]=ok (.lst .ow (ah (List.replicate (m+1) (z:Int)))):=by
  unfold Nl;rw[bW (xs:=[.lst .fz (cz rs)]) (items:=cz rs) (ds:=rs.map λr=>.int (r.2.length:Int)) (by simp[m2,x1]) (by rw[c_];simp) (bG λr hr=>?_) (by simp;exact bD (by left))]
  ·have e:(rs.map λr=>D.int (r.2.length:Int))=ah (List.replicate (m+1) (z:Int)):=by
    rw[<- hm];unfold ah;rw[List.map_replicate];refine List.eq_replicate_iff.mpr ⟨by simp,λd hd=>?_⟩;obtain⟨r,hr,rfl⟩:=List.mem_map.mp hd;rw[hz r hr]
   rw[e];simp
  ·exact⟨[some (qD r.1),some (.tup (ah r.2))],by simp[bw,rD],by simp,by simp⟩
 have e2:Φ 1042 [.lst .ow (ah (List.replicate (m+1) (z:Int)))]=ok (.int 1):=by
  rw[RK];show(match intsOf (ah (List.replicate (m+1) (z:Int)))with|some ns=>if ns.length<4000 then ok (D.int (i5 ns).length)else none|none=>none)=_;unfold ah;rw[bx];show(if (List.replicate (m+1) (z:Int)).length<4000 then ok (D.int (i5 (List.replicate (m+1) (z:Int))).length)else none)=_;rw[if_pos (by rw[List.length_replicate];left),A2];rfl
 have c:ez .ne (.int 1) (.int 1)=ok (.bl false):=rfl;simp[mk_eq,oh,k1,e2,c]
def eZ(rs:ai)(xs:az)(g h:Int):Rat:=(aj rs g g*aj rs h h - aj rs g h)*((bK xs g / aj rs g g - bK xs h / aj rs h h)*(bK xs g / aj rs g g - bK xs h / aj rs h h))
noncomputable def zO:ag:=[.asg (.nm 3) (.call 7 [(.ix (.v 2) (.ix (.v 1) (.int 0))),(.ix (.ix (.v 0) (.ix (.v 1) (.int 0))) (.ix (.v 1) (.int 0)))]),.asg (.nm 4) (.call 7 [(.ix (.v 2) (.ix (.v 1) (.int 1))),(.ix (.ix (.v 0) (.ix (.v 1) (.int 1))) (.ix (.v 1) (.int 1)))]),.asg (.nm 5) (.call 5 [(.v 3),(.v 4)]),.ret (.call 6 [(.call 5 [(.call 61 [(.v 0),(.v 1)]),(.call 62 [(.v 0),(.v 1)])]),(.call 6 [(.v 5),(.v 5)])])]
def JT(m:aw):Prop:=∀k n rs f xs j (g h:Nat),Dr k n rs->xs.length=n->(∀q∈xs,Sm j q)->j<=100->g<n->h<n->0<aj rs g g->0<aj rs h h->m [.lst .fz (bP n rs .fz 0 n),qi (g,h),.lst f (a_ xs)]=ok (qD (eZ rs xs g h))
theorem Pu(Φ:aT)(h5:my (Φ 5))(h6:dO (Φ 6))(h7:Iy (Φ 7))(W3:yk (Φ 61))(MC:jv (Φ 62)):JT (mk Φ 3 6 zO):=by
 intro k n rs f xs j g h I l2 sx hj hg hh pg ph;have ng:aj rs g g≠0:=λz=>by rw[z]at pg;exact absurd pg (by decide)
 have nh:aj rs h h≠0:=λz=>by rw[z]at ph;exact absurd ph (by decide)
 have tg:=sx _ (bh (qs:=xs) (h:=(g:Int)) (by left) (by left)).2;have th:=sx _ (bh (qs:=xs) (h:=(h:Int)) (by left) (by left)).2;have a3:=kf (qs:=xs) (h:=(g:Int)) (by left) (by left);have a4:=kf (qs:=xs) (h:=(h:Int)) (by left) (by left);have b1:=rb (rs:=rs) (f:=.fz) hg;have b2:=lV (rs:=rs) (g:=g) hg;have b3:=rb (rs:=rs) (f:=.fz) hh;have b4:=lV (rs:=rs) (g:=h) hh;have e1:=h7.1 _ _ (tg.mono (by left)) ((bM I g g).mono (by decide)) ng;have e2:=h7.1 _ _ (th.mono (by left)) ((bM I h h).mono (by decide)) nh;have q1:=tg.div (bM I g g) ng;have q2:=th.div (bM I h h) nh;have e3:=h5 _ _ (q1.mono (by left)) (q2.mono (by left));have q3:=q1.sub q2;have e4:=h6 _ _ (q3.mono (by left)) (q3.mono (by left));have e5:=W3 k n rs g h I hg hh;have e6:=MC n rs g h hg hh;have s1:=bM I g h;have s2:=(bM I g g).mul (bM I h h);have e7:=h5 _ _ (s2.mono (by decide)) (s1.mono (by decide));have e8:=h6 _ _ ((s2.sub s1).mono (by decide)) ((q3.mul q3).mono (by left));simp[mk_eq,zO,bB,a3,a4,b1,b2,b3,b4,e1,e2,e3,e4,e5,e6,e7,e8];rfl
def Bi(rs:ai)(ws xs:az)(lot:ae):Rat:=((dZ lot lot).map λp=>rl rs ws xs p.1 p.2 / aj rs p.1 p.2).sum
def wu(rs:ai)(xs:az)(lot:ae):Rat:=((i3 lot).map λp=>eZ rs xs p.1 p.2 / aj rs p.1 p.2).sum
noncomputable def HK:CE:=.comp 1 (.nm 0) [4,1,3] .seq [(.call 60 [(.v 2)])] [] (.call 7 [(.call 63 [(.v 1),(.v 0),(.v 2),(.v 3)]),(.call 62 [(.v 1),(.v 0)])])
def yd:ag:=[.asg (.nm 4) (.call 21 [(.v 0)]),.ex (.call 57 [(.v 4)]),.ex (.call 58 [(.v 2),(.v 0)]),.ex (.call 46 [(.v 1),(.ix (.v 0) (.int 0))]),.ex (.call 47 [(.v 3),(.ix (.v 0) (.int 0))]),.asg (.nm 5) HK,.ret (.call 42 [(.v 5)])]
def wc(m:aw):Prop:=∀k n rs r f g ws xs j i,Dr k n rs->r∈rs->Gs j n ws xs->(∀g h,Sm i (aj rs g h))->(∀g h:Nat,g<n->h<n->0<aj rs g h)->(4*i+1+4*j)*(r.2.length*r.2.length)<=3000->m [bo n rs,.lst f (a_ ws),.tup (ah r.2),.lst g (a_ xs)]=ok (qD (Bi rs ws xs r.2))
theorem jx.nat{n:Nat}{l:ae}(h:jx n l){x:Int}(hx:x∈l):∃a:Nat,a<n/\x=a:=⟨x.toNat,by have:=h.2 x hx;left,by have:=h.2 x hx;left⟩
theorem B6(Φ:aT)(h7:Iy (Φ 7))(RG:jX (Φ 21))(W_:iF (Φ 42))(h46:jY 3 lE (Φ 46))(W8:jY 4 lE (Φ 47))(RA:uj (Φ 57))(W4:yj (Φ 58))(h60:zZ (Φ 60))(MC:jv (Φ 62))(h63:zU (Φ 63)):wc (mk Φ 4 6 yd):=by
 intro k n rs r f g ws xs j i I hr G hi hp hb;have hn:=I.n2;have l7:=I.lot r hr;have Zt:=l7.len;have l1:=G.l1;have l2:=G.l2;have hj:=G.jj;have e1:=RG k n rs I;have e2:=λf=>h46 (.lst f (a_ ws)) n (by show(a_ ws).length<=1000000;simp;left);have e3:=λf=>W8 (.lst f (a_ xs)) n (by show(a_ xs).length<=1000000;simp;left);simp only[ye,l1,decide_true,if_true]at e2;simp only[ye,l2,decide_true,if_true]at e3;have e4:=RA n rs hn hp;have e5:=W4 k n rs r I hr;have e6:=h60 r.2 (by left);have m2:aS bE (bo n rs)=bo n rs:=by simp[bo]
 have m1:aS aW (bo n rs)=bo n rs:=by simp[bo]
 have hd:bo n rs=.tup [.int n,.lst .fz (cz rs)]:=rfl;have x0:vm (bo n rs) (.int 0)=ok (.int n):=by rw[hd];simp
 have hlen:=p4 r.2 r.2;have Q8:r.2.length*r.2.length<=144:=aaG (show r.2.length<=12 by left) (show r.2.length<=12 by left);have sz:∀p∈dZ r.2 r.2,∃a b:Nat,a<n/\b<n/\p=((a:Int),(b:Int)):=λp hp=>by
  obtain⟨p1,p2⟩:=ES.mp hp;obtain⟨a,ha,ea⟩:=l7.nat p1;obtain⟨b,hb,eb⟩:=l7.nat p2;exact⟨a,b,ha,hb,Prod.ext ea eb⟩
 have k1:∀c5,bz Φ HK [some (bo n rs),some (.lst f (a_ ws)),some (.tup (ah r.2)),some (.lst g (a_ xs)),some (.lst .ow (bP n rs .ow 0 n)),c5]=ok (.lst .ow (a_ ((dZ r.2 r.2).map λp=>rl rs ws xs p.1 p.2 / aj rs p.1 p.2))):=λc5=>by
  unfold HK;rw[bW (xs:=[.lst .ow (cD (dZ r.2 r.2))]) (items:=(dZ r.2 r.2).map qi) (ds:=(dZ r.2 r.2).map λp=>qD (rl rs ws xs p.1 p.2 / aj rs p.1 p.2)) (by simp[e6]) (by rw[c_,rC];rfl) (bG λp vw=>⟨[some (qi p),some (.lst .fz (bP n rs .fz 0 n)),some (.lst (aW f) (a_ ws)),some (.lst (aW g) (a_ xs))],by simp[bw,bB],by simp,?_⟩) (by simp;exact bD (by left))]
  ·simp[a_,aX]
  ·obtain⟨a,b,ha,jQ,rfl⟩:=sz p vw;have e:=λf g=>h63 k n rs f g ws xs j a b I G ha jQ;have e':=MC n rs a b ha jQ;have nz:aj rs a b≠0:=λz=>by have:=hp a b ha jQ;rw[z]at this;exact absurd this (by decide)
   have sg:=G.s1 _ (bh (qs:=ws) (h:=(a:Int)) (by left) (by left)).2;have sh:=G.s1 _ (bh (qs:=ws) (h:=(b:Int)) (by left) (by left)).2;have tg:=G.s2 _ (bh (qs:=xs) (h:=(a:Int)) (by left) (by left)).2;have th:=G.s2 _ (bh (qs:=xs) (h:=(b:Int)) (by left) (by left)).2;have sp:Sm 4000 (rl rs ws xs a b):=(((bM I a b).sub ((bM I a a).mul (bM I b b))).mul ((sg.mul tg).mul (sh.mul th))).mono (by left);have XR:=h7.1 (rl rs ws xs a b) (aj rs a b) sp ((bM I a b).mono (by decide)) nz;simp[bB,e,e',XR]
 have e7:=λf=>W_ f ((dZ r.2 r.2).map λp=>rl rs ws xs p.1 p.2 / aj rs p.1 p.2) (4*i+1+4*j) ⟨λq hq=>by
  obtain⟨p,vw,rfl⟩:=List.mem_map.mp hq;obtain⟨a,b,ha,jQ,rfl⟩:=sz p vw;have nz:aj rs a b≠0:=λz=>by have:=hp a b ha jQ;rw[z]at this;exact absurd this (by decide)
  have sg:=G.s1 _ (bh (qs:=ws) (h:=(a:Int)) (by left) (by left)).2;have sh:=G.s1 _ (bh (qs:=ws) (h:=(b:Int)) (by left) (by left)).2;have tg:=G.s2 _ (bh (qs:=xs) (h:=(a:Int)) (by left) (by left)).2;have th:=G.s2 _ (bh (qs:=xs) (h:=(b:Int)) (by left) (by left)).2;exact((((hi a b).sub ((hi a a).mul (hi b b))).mul ((sg.mul tg).mul (sh.mul th))).div (hi a b) nz).mono (by left),by rw[List.length_map,hlen];exact hb,by rw[List.length_map,hlen];left⟩
 have f1:iy .ow=.ow:=rfl;have f2:=g9 bZ n rs .ow 0 n rfl;simp[mk_eq,yd,m1,m2,x0,e1,e2,e3,e4,e5,Fd Φ HK _ rfl,k1,e7,bB,f1,f2];rfl
noncomputable def HQ:CE:=.comp 1 (.nm 0) [3,2] .seq [(.call 59 [(.v 1)])] [] (.call 7 [(.call 64 [(.v 1),(.v 0),(.v 2)]),(.call 62 [(.v 1),(.v 0)])])
def Im:ag:=[.asg (.nm 3) (.call 21 [(.v 0)]),.ex (.call 55 [(.v 0)]),.ex (.call 57 [(.v 3)]),.ex (.call 58 [(.v 1),(.v 0)]),.ex (.call 47 [(.v 2),(.ix (.v 0) (.int 0))]),.asg (.nm 4) HQ,.ret (.call 42 [(.v 4)])]
def wg(m:aw):Prop:=∀k n rs r g xs j i z,Dr k n rs->r∈rs->(∀r∈rs,r.2.length=z)->xs.length=n->(∀q∈xs,Sm j q)->j<=100->(∀g h,Sm i (aj rs g h))->(∀g h:Nat,g<n->h<n->0<aj rs g h)->(8*i+3+4*j)*(r.2.length*r.2.length)<=3000->m [bo n rs,.tup (ah r.2),.lst g (a_ xs)]=ok (qD (wu rs xs r.2))
theorem kW:∀{hs:ae} {p:Int×Int},p∈i3 hs->p.1∈hs/\p.2∈hs
 |[],_,h=>nomatch h
 |g::gs,p,h=>by
  rcases List.mem_append.mp h with h|h
  ·obtain⟨x,hx,rfl⟩:=List.mem_map.mp h;exact⟨aai,aae _ hx⟩
  ·obtain⟨a,b⟩:=kW h;exact⟨aae _ a,aae _ b⟩
theorem oR:∀hs:ae,(i3 hs).length<=hs.length*hs.length
 |[]=>by simp[i3]
 |g::gs=>by
  have:=oR gs;show(gs.map (λh=>(g,h))++i3 gs).length<=_;rw[List.length_append,List.length_map,List.length_cons,Nat.succ_mul,Nat.mul_succ];left
theorem Cc(Φ:aT)(h7:Iy (Φ 7))(RG:jX (Φ 21))(W_:iF (Φ 42))(W8:jY 4 lE (Φ 47))(h55:zV (Φ 55))(RA:uj (Φ 57))(W4:yj (Φ 58))(h59:ET (Φ 59))(MC:jv (Φ 62))(pw:JT (Φ 64)):wg (mk Φ 3 5 Im):=by
 intro k n rs r g xs j i z I hr hz l2 sx hj hi hp hb;have hn:=I.n2;have l7:=I.lot r hr;have Zt:=l7.len;have e1:=RG k n rs I;have e3:=λf=>W8 (.lst f (a_ xs)) n (by show(a_ xs).length<=1000000;simp;left);simp only[ye,l2,decide_true,if_true]at e3;have e0:=h55 k n rs z I hz;have e4:=RA n rs hn hp;have e5:=W4 k n rs r I hr;have e6:=h59 r.2 (by left);have m2:aS bE (bo n rs)=bo n rs:=by simp[bo]
 have m1:aS aW (bo n rs)=bo n rs:=by simp[bo]
 have hd:bo n rs=.tup [.int n,.lst .fz (cz rs)]:=rfl;have x0:vm (bo n rs) (.int 0)=ok (.int n):=by rw[hd];simp
 have hlen:=oR r.2;have Q8:r.2.length*r.2.length<=144:=aaG (show r.2.length<=12 by left) (show r.2.length<=12 by left);have sz:∀p∈i3 r.2,∃a b:Nat,a<n/\b<n/\p=((a:Int),(b:Int)):=λp hp=>by
  obtain⟨p1,p2⟩:=kW hp;obtain⟨a,ha,ea⟩:=l7.nat p1;obtain⟨b,hb,eb⟩:=l7.nat p2;exact⟨a,b,ha,hb,Prod.ext ea eb⟩
 have nz:∀a b:Nat,a<n->b<n->aj rs a b≠0:=λa b ha hb z=>by have:=hp a b ha hb;rw[z]at this;exact absurd this (by decide)
 have YI:∀(i':Nat) (a b:Nat),a<n->b<n->(∀g h,Sm i' (aj rs g h))->Sm (7*i'+3+4*j) (eZ rs xs a b):=λi' a b ha hb iu=>by
  have tg:=sx _ (bh (qs:=xs) (h:=(a:Int)) (by left) (by left)).2;have th:=sx _ (bh (qs:=xs) (h:=(b:Int)) (by left) (by left)).2;have q3:=(tg.div (iu a a) (nz a a ha ha)).sub (th.div (iu b b) (nz b b hb hb));exact((((iu a a).mul (iu b b)).sub (iu a b)).mul (q3.mul q3)).mono (by left)
 have k1:∀c4,bz Φ HQ [some (bo n rs),some (.tup (ah r.2)),some (.lst g (a_ xs)),some (.lst .ow (bP n rs .ow 0 n)),c4]=ok (.lst .ow (a_ ((i3 r.2).map λp=>eZ rs xs p.1 p.2 / aj rs p.1 p.2))):=λc4=>by
  unfold HQ;rw[bW (xs:=[.lst .ow (cD (i3 r.2))]) (items:=(i3 r.2).map qi) (ds:=(i3 r.2).map λp=>qD (eZ rs xs p.1 p.2 / aj rs p.1 p.2)) (by simp[e6]) (by rw[c_,rC];rfl) (bG λp vw=>⟨[some (qi p),some (.lst .fz (bP n rs .fz 0 n)),some (.lst (aW g) (a_ xs))],by simp[bw,bB],by simp,?_⟩) (by simp;exact bD (by left))]
  ·simp[a_,aX]
  ·obtain⟨a,b,ha,jQ,rfl⟩:=sz p vw;have e:=λf=>pw k n rs f xs j a b I l2 sx hj ha jQ (hp a a ha ha) (hp b b jQ jQ);have e':=MC n rs a b ha jQ;have XR:=h7.1 (eZ rs xs a b) (aj rs a b) ((YI 61 a b ha jQ (bM I)).mono (by left)) ((bM I a b).mono (by decide)) (nz a b ha jQ);simp[bB,e,e',XR]
 have e7:=λf=>W_ f ((i3 r.2).map λp=>eZ rs xs p.1 p.2 / aj rs p.1 p.2) (8*i+3+4*j) ⟨λq hq=>by
  obtain⟨p,vw,rfl⟩:=List.mem_map.mp hq;obtain⟨a,b,ha,jQ,rfl⟩:=sz p vw;exact((YI i a b ha jQ hi).div (hi a b) (nz a b ha jQ)).mono (by left),by rw[List.length_map];exact aaD (aaK _ hlen) hb,by rw[List.length_map];left⟩
 have f1:iy .ow=.ow:=rfl;have f2:=g9 bZ n rs .ow 0 n rfl;simp[mk_eq,Im,m1,m2,x0,e0,e1,e3,e4,e5,Fd Φ HQ _ rfl,k1,e7,bB,f1,f2];rfl
def NP(m:aw):Prop:=∀p q,Sm 3000 p->Sm 3000 q->q≠0->m [qD p,qD q]=ok (qD (p / q))
noncomputable def eA(n:Nat)(N:Nat):ae:=((List.range n).filter λ(k:Nat)=>decide ((N:Int) / 2 ^ k % 2=1)).map λ(k:Nat)=>(k:Int)
def jh(n z:Nat):aO->aA
 |[]=>[]
 |N::Ns=>if (eA n N).length=z then eA n N::jh n z Ns else jh n z Ns
def gh(n z:Nat):aA:=jh n z (List.range (2 ^ n))
noncomputable def Nn:CE:=.comp 1 (.nm 0) [6] .jK [(.v 4)] [(.cmp .eq (.bin .band (.bin .shr (.v 1) (.v 0)) (.int 1)) (.int 1))] (.v 0)
def BO:ag:=[.asg (.nm 7) (.bf .tuple1 [Nn]),.ifs (.cmp .eq (.bf .len [(.v 7)]) (.v 3)) [.app 5 (.v 7)] []]
noncomputable def HR:CE:=.comp 1 (.nm 0) [0,1] .jK [(.bf .len [(.v 5)])] [] (.bin .add (.int 1) (.bin .mod (.call 200 [(.v 1),(.bin .add (.bin .add (.v 2) (.int 1)) (.v 0))]) (.int 5)))
noncomputable def Nm:CE:=.comp 1 (.nm 0) [8,5] .seq [(.cI 1017 [(.v 5)])] [] (.tup [(.call 201 [(.ix (.v 1) (.cI 1044 [(.v 2),(.v 0)])),(.bf .j4 [(.v 1)])]),(.v 0)])
noncomputable def CK:ag:=[.asg (.nm 2) (.call 200 [(.v 0),(.v 1)]),.asg (.nm 3) (.bin .add (.int 2) (.bin .mod (.v 2) (.int 2))),.asg (.nm 4) (.bin .add (.v 3) (.bin .mod (.bin .fdiv (.v 2) (.int 2)) (.bin .sub (.int 6) (.v 3)))),.asg (.nm 5) (.lst [])]
def CJ:ag:=[.fr (.nm 6) (.jK (.bin .shl (.int 1) (.v 4))) BO]
def CH:ag:=[.asg (.nm 8) HR]
def Jh:ag:=[.ret (.tup [(.v 4),Nm])]
def pZ:ag:=CK++(CJ++(CH++Jh))
theorem Sd(Φ:aT){n:Nat}(hn:n<=12)(N:Nat)(a b c d e:aG)(r:aZ):bz Φ Nn (a::b::c::d::some (.int n)::e::some (.int N)::r)=ok (.lst .ow (ah (eA n N))):=by
 unfold Nn;rw[bW (xs:=[.int n]) (ds:=((List.range n).filter λ(k:Nat)=>decide ((N:Int) / 2 ^ k % 2=1)).map λ(k:Nat)=>D.int (k:Int)) (by simp) (jO Φ (by left) (by left)) ?_ ?_]
 ·simp[aX,ah,eA]
 ·rw[Int.toNat_natCast];refine fb λk hk=>⟨[some (.int k),some (.int N)],by simp[bw],?_,λ_=>by simp⟩
  have e1:cQ .shr (.int (N:Int)) (.int k)=ok (.int ((N:Int) / 2 ^ k)):=by rw[JO (by left)];simp
  simp[e1,EN]
 ·have:=abS (λ(k:Nat)=>decide ((N:Int) / 2 ^ k % 2=1)) (List.range n);simp at this ⊢;exact bD (by left)
def eI(cs:aA):aa:=cs.map λc=>.tup (ah c)
@[simp]theorem Az(g:Fl->Fl)(cs:aA):aF g (eI cs)=eI cs:=du g (λc=>by simp) cs
@[simp]theorem Oo(g:Fl->Bool)(cs:aA):aQ g (eI cs)=false:=cL g (λc=>by simp) cs
@[simp]theorem Pw(cs:aA):(eI cs).length=cs.length:=abd ..
theorem tM(Φ:aT){n:Nat}(hn:n<=12)(z:Nat)(c0 c1 c2 c8:aG):∀(Ns:aO) (acc:aA) (c6 c7:aG),acc.length+Ns.length<=1000 ->
  ∃ml mj,dJ (λd ρ=>bT (.nm 6) d ρ) (λρ=>bI Φ BO ρ) (Ns.map λ(k:Nat)=>D.int (k:Int)) [c0,c1,c2,some (.int z),some (.int n),some (.lst .ow (eI acc)),c6,c7,c8]=ok (.nx,[c0,c1,c2,some (.int z),some (.int n),some (.lst .ow (eI (acc++jh n z Ns))),ml,mj,c8])
 |[],acc,c6,c7,_=>⟨c6,c7,by simp[jh,eh]⟩
 |N::Ns,acc,c6,c7,h=>by
  rw[List.length_cons]at h;have k1:=Sd Φ hn N c0 c1 c2 (some (.int z)) (some (.lst .ow (eI acc))) [c7,c8];have Bs:ez .eq (.int ((eA n N).length:Int)) (.int (z:Int))=ok (.bl (decide ((eA n N).length=z))):=by
   rw[x9 rfl rfl];show ok (D.bl (((eA n N).length:Int)==(z:Int)))=_;congr 2;by_cases e:(eA n N).length=z
   ·simp[e]
   ·rw[decide_eq_false e];simp;left
  have hc:acc.length<eH:=by show _<1000000;left
  by_cases e:(eA n N).length=z
  ·obtain⟨ml,mj,ih⟩:=tM Φ hn z c0 c1 c2 c8 Ns (acc++[eA n N]) (some (.int N)) (some (.tup (ah (eA n N)))) (by simp;left);have el:jh n z (N::Ns)=eA n N::jh n z Ns:=aaV e;rw[el];rw[decide_eq_true e]at Bs;have TY:eI acc++[.tup (ah (eA n N))]=eI (acc++[eA n N]):=by simp[eI]
   refine⟨ml,mj,cN (ρ1:=[c0,c1,c2,some (.int z),some (.int n),some (.lst .ow (eI acc)),some (.int N),c7,c8]) (by simp) (ρ2:=[c0,c1,c2,some (.int z),some (.int n),some (.lst .ow (eI (acc++[eA n N]))),some (.int N),some (.tup (ah (eA n N))),c8]) ?_ ?_⟩
   ·simp[BO,k1,Bs,hc,TY]
   ·exact ih.trans (by simp)
  ·obtain⟨ml,mj,ih⟩:=tM Φ hn z c0 c1 c2 c8 Ns acc (some (.int N)) (some (.tup (ah (eA n N)))) (by left);have el:jh n z (N::Ns)=jh n z Ns:=ab9 e;rw[el];rw[decide_eq_false e]at Bs;refine⟨ml,mj,cN (ρ1:=[c0,c1,c2,some (.int z),some (.int n),some (.lst .ow (eI acc)),some (.int N),c7,c8]) (by simp) (ρ2:=[c0,c1,c2,some (.int z),some (.int n),some (.lst .ow (eI acc)),some (.int N),some (.tup (ah (eA n N))),c8]) ?_ ih⟩;simp[BO,k1,Bs]
structure UE(n z:Nat)(cs:aA):Prop where
 nd:cs.Nodup
 Yv:cs.length<=10
 one:1<=cs.length
 lot:∀c∈cs,jx n c
 sz:∀c∈cs,c.length=z
 all:∀g h:Nat,g<n->h<n->∃c∈cs,(g:Int)∈c/\(h:Int)∈c
theorem tO(n z:Nat):∀Ns:aO,∀c∈jh n z Ns,c.length=z/\jx n c
 |[],_,h=>nomatch h
 |N::Ns,c,h=>by
  unfold jh at h;by_cases e:(eA n N).length=z
  ·rw[if_pos e]at h;rcases List.mem_cons.mp h with rfl|h
   ·exact⟨e,Qo n _⟩
   ·exact tO n z Ns c h
  ·rw[if_neg e]at h;exact tO n z Ns c h
def R9(n z:Nat):Bool:=decide (gh n z).Nodup&&decide ((gh n z).length<=10)&&decide (1<=(gh n z).length)&&(List.range n).all λg=>(List.range n).all λh=>(gh n z).any λc=>decide ((g:Int)∈c)&&decide ((h:Int)∈c)
theorem M_{n z:Nat}(h:R9 n z=true):UE n z (gh n z):=by
 unfold R9 at h;simp only[Bool.and_eq_true,decide_eq_true_eq]at h;obtain⟨⟨⟨h1,h2⟩,h3⟩,h4⟩:=h;refine⟨h1,h2,h3,λc hc=>(tO n z _ c hc).2,λc hc=>(tO n z _ c hc).1,λg k hg hk=>?_⟩;have:=List.all_eq_true.mp (List.all_eq_true.mp h4 g (List.mem_range.mpr hg)) k (List.mem_range.mpr hk);obtain⟨c,hc,hx⟩:=List.any_eq_true.mp this;simp only[Bool.and_eq_true,decide_eq_true_eq]at hx;exact⟨c,hc,hx.1,hx.2⟩
def tN(cs:aA)(ws:ae):ai:=(bt cs).map λc=>(Rat.divInt (ws.getD (cs.idxOf c) 0) ws.sum,c)
theorem qr{ws:ae}(hn:cs.Nodup)(hl:ws.length=cs.length):cs.map (λc=>ws.getD (cs.idxOf c) 0)=ws:=by
 refine abP (by simp[hl]) λi h1 h2=>?_;rw[List.getElem_map];have hi:i<cs.length:=by simpa using h1
 rw[hn.idxOf_getElem i hi];simp[h2]
theorem UE.dr{n z:Nat}(V:UE n z cs)(n1:1<=n)(n2:n<=12){ws:ae}(hl:ws.length=cs.length)(hw:∀w∈ws,1<=w/\w<=5):
  Dr 6 n (tN cs ws)/\nG (tN cs ws)/\(∀r∈tN cs ws,r.2.length=z)/\(∀g h:Nat,g<n->h<n->0<aj (tN cs ws) g h)/\1<=ws.sum/\ws.sum<=50:=by
 have hp:(bt cs).Perm cs:=aaU _ _;have hlen:(tN cs ws).length=cs.length:=by unfold tN;rw[List.length_map];exact hp.length_eq
 have Hx:=V.Yv;have h1:=V.one;have sb:∀l:ae,(∀w∈l,1<=w/\w<=5)->(l.length:Int)<=l.sum/\l.sum<=5*l.length:=λl=>by
  induction l with
  |nil=>intro _;exact⟨by decide,by decide⟩
  |cons w l ih =>
   intro h;obtain⟨a,b⟩:=ih λx hx=>h x (aae _ hx);have:=h w aai;rw[List.sum_cons,List.length_cons];constructor<;>push_cast<;>left
 obtain⟨s1,s2⟩:=sb ws hw;have hW:1<=ws.sum/\ws.sum<=50:=by rw[hl]at s1 s2;left
 have val:∀c∈bt cs,1<=ws.getD (cs.idxOf c) 0/\ws.getD (cs.idxOf c) 0<=5:=λc hc=>by
  have hi:cs.idxOf c<ws.length:=by rw[hl];exact List.idxOf_lt_length_iff.mpr (hp.mem_iff.mp hc)
  have:ws.getD (cs.idxOf c) 0=ws[cs.idxOf c]:=by simp[hi]
  rw[this];exact hw _ (abO _)
 have Jz:nG (tN cs ws):=⟨ws.sum.toNat,by left,by left,λr hr=>by
  unfold tN at hr;obtain⟨c,_,rfl⟩:=List.mem_map.mp hr;have d:=kA (t:=ws.getD (cs.idxOf c) 0) (b:=ws.sum) (by left)
  rwa [show ws.sum.natAbs=ws.sum.toNat by left]at d⟩
 have hpos:∀r∈tN cs ws,0<r.1:=λr hr=>by
  obtain⟨c,hc,rfl⟩:=List.mem_map.mp hr;exact pQ (by have:=val c hc;left) (by left)
 refine⟨⟨n1,n2,by rw[hlen];left,.inr Jz,by rw[hlen];left,λr hr=>?_,hpos,λr hr=>?_,?_,?_⟩,Jz,λr hr=>?_,λg h hg hh=>?_,hW⟩
 ·obtain⟨c,hc,rfl⟩:=List.mem_map.mp hr;exact V.lot c (hp.mem_iff.mp hc)
 ·obtain⟨c,hc,rfl⟩:=List.mem_map.mp hr;have:=val c hc;exact B0 (by left) (by show _<64;left) (by show _<64;left)
 ·have e:(tN cs ws).map (·.1)=(bt cs).map λc=>Rat.divInt (ws.getD (cs.idxOf c) 0) ws.sum:=by unfold tN;rw[List.map_map];rfl
  rw[e];have e2:((bt cs).map λc=>Rat.divInt (ws.getD (cs.idxOf c) 0) ws.sum).sum=(cs.map λc=>Rat.divInt (ws.getD (cs.idxOf c) 0) ws.sum).sum:=uY (hp.map _);have e3:(cs.map λc=>Rat.divInt (ws.getD (cs.idxOf c) 0) ws.sum)=(cs.map λc=>ws.getD (cs.idxOf c) 0).map λx=>Rat.divInt x ws.sum:=by rw[List.map_map];rfl
  rw[e2,e3,qr V.nd hl,sv _ (by left),Rat.divInt_eq_div];have z:((ws.sum:Int):Rat)≠0:=λz=>by rw[Rat.intCast_eq_zero_iff]at z;left
  grind
 ·have e:(tN cs ws).map (·.2)=bt cs:=by
   unfold tN;rw[List.map_map];exact(aaj λ_ _=>rfl).trans (List.map_id _)
  rw[e];exact kj V.nd
 ·obtain⟨c,hc,rfl⟩:=List.mem_map.mp hr;exact V.sz c (hp.mem_iff.mp hc)
 ·obtain⟨c,hc,c1,c2⟩:=V.all g h hg hh;have hr:(Rat.divInt (ws.getD (cs.idxOf c) 0) ws.sum,c)∈tN cs ws:=by unfold tN;exact aaI (hp.mem_iff.mpr hc)
  have key:∀l:ai,(∀r∈l,0<r.1)->(∃r∈l,bX g h r=true)->0<aj l g h:=λl=>by
   induction l with
   |nil=>rintro _ ⟨r,hr,_⟩;cases hr
   |cons r l ih =>
    rintro hp ⟨s,hs,hb⟩;rw[di];have h0:=(dI (bX g h) l λx hx=>hp x (aae _ hx)).1;have h0:0<=aj l g h:=h0;have hr:=hp r aai;cases e:bX g h r with
    |true=>simp only[if_true];grind
    |false =>
     simp only[Bool.false_eq_true,if_false];refine ih (λx hx=>hp x (aae _ hx)) ⟨s,?_,hb⟩;rcases List.mem_cons.mp hs with rfl|hs
     ·rw[e]at hb;cases hb
     ·exact hs
  exact key _ hpos ⟨_,hr,by simp[bX,c1,c2]⟩
def EU(m:aw):Prop:=∀(ns:ae) (a:Int),0<=a->∃n rs z,n<=5/\z<=3/\Dr 6 n rs/\nG rs/\(∀r∈rs,r.2.length=z)/\(∀g h:Nat,g<n->h<n->0<aj rs g h)/\m [.lst .sc (ah ns),.int a]=ok (me .ow n rs)
theorem KC(Φ:aT)(nA:qa (Φ 200))(ny:fJ (Φ 201))(RS:Φ 1017=oM)(RI:Φ 1044=Hk):EU (mk Φ 2 9 pZ):=by
 intro ns a ha;have e1:=nA ns a ha;generalize hN:bu ns a=N at e1;obtain⟨f1,f2⟩:=eT N (b:=2) (by decide);obtain⟨z,hz⟩:∃z:Nat,2+N.fmod 2=(z:Int):=⟨(2+N.fmod 2).toNat,by left⟩
 have L6:z=2\/z=3:=by left
 obtain⟨g1,g2⟩:=eT (N.fdiv 2) (b:=6 - (z:Int)) (by left);obtain⟨n,hn⟩:∃n:Nat,(z:Int)+(N.fdiv 2).fmod (6 - z)=(n:Int):=⟨((z:Int)+(N.fdiv 2).fmod (6 - z)).toNat,by left⟩
 have Oh:z<=n/\n<=5:=by left
 have V:UE n z (gh n z):=by
  refine M_ ?_;have:(z=2/\(n=2\/n=3\/n=4\/n=5))\/(z=3/\(n=3\/n=4\/n=5)):=by left
  rcases this with ⟨rfl,rfl|rfl|rfl|rfl⟩|⟨rfl,rfl|rfl|rfl⟩<;>decide +kernel
 have Hx:=V.Yv;have Q7:cQ .mod (.int N) (.int 2)=ok (.int (N.fmod 2)):=zN (by decide);have TV:cQ .fdiv (.int N) (.int 2)=ok (.int (N.fdiv 2)):=mq (hV (by left) (l6 (by left)));have Q6:cQ .mod (.int (N.fdiv 2)) (.int (6 - (z:Int)))=ok (.int ((N.fdiv 2).fmod (6 - z))):=zN (by left);have ga:bI Φ CK [some (.lst .sc (ah ns)),some (.int a),none,none,none,none,none,none,none]=ok (.nx,[some (.lst .sc (ah ns)),some (.int a),some (.int N),some (.int z),some (.int n),some (.lst .ow []),none,none,none]):=by
  simp[CK,e1,Q7,hz,TV,Q6,hn]
 have Ma:cQ .shl (.int 1) (.int (n:Int))=ok (.int ((2 ^ n:Nat):Int)):=by
  rw[Sw (by simp[kY];left),Int.toNat_natCast];simp
 have Wv:2 ^ n<=32:=by
  have:2 ^ n<=2 ^ 5:=aat (by decide) Oh.2;simpa using this
 obtain⟨a6,a7,el⟩:=tM Φ (n:=n) (by left) z (some (.lst .sc (ah ns))) (some (.int a)) (some (.int N)) none (List.range (2 ^ n)) [] none none (by simp;left);rw[List.nil_append]at el;have hit:=AE (Φ:=Φ) (a:=.bin .shl (.int 1) (.v 4)) (ρ:=[some (.lst .sc (ah ns)),some (.int a),some (.int N),some (.int z),some (.int n),some (.lst .ow []),none,none,none]) (n:=((2 ^ n:Nat):Int)) (by simp[Ma]) (Int.natCast_nonneg _) (Int.ofNat_le.mpr (aaD Wv (by decide)));rw[Int.toNat_natCast]at hit;have hf:=dQ (Φ:=Φ) (t:=.nm 6) (b:=BO) hit el;have gb:bI Φ CJ [some (.lst .sc (ah ns)),some (.int a),some (.int N),some (.int z),some (.int n),some (.lst .ow []),none,none,none]=ok (.nx,[some (.lst .sc (ah ns)),some (.int a),some (.int N),some (.int z),some (.int n),some (.lst .ow (eI (gh n z))),a6,a7,none]):=by
  rw[CJ,df,hf];rfl
 let ws:ae:=(List.range (gh n z).length).map λ(k:Nat)=>1+(bu ns (a+1+k)).fmod 5
 have Ob:ws.length=(gh n z).length:=by simp[ws]
 have hw5:∀w∈ws,1<=w/\w<=5:=λw hw=>by
  obtain⟨k,_,rfl⟩:=List.mem_map.mp hw;obtain⟨q1,q2⟩:=eT (bu ns (a+1+k)) (b:=5) (by decide);left
 obtain⟨D6,Fi,hsz,hpp,w1,w2⟩:=V.dr (by left) (by left) Ob hw5;have k1:bz Φ HR [some (.lst .sc (ah ns)),some (.int a),some (.int N),some (.int z),some (.int n),some (.lst .ow (eI (gh n z))),a6,a7,none]=ok (.lst .ow (ah ws)):=by
  unfold HR;rw[bW (xs:=[.int (gh n z).length]) (ds:=(List.range (gh n z).length).map λ(k:Nat)=>D.int (1+(bu ns (a+1+k)).fmod 5)) (by simp) (jO Φ (by left) (by left)) (bG λk hk=>⟨[some (.int k),some (.lst .sc (ah ns)),some (.int a)],by simp[bw,aW],by simp,?_⟩) (by simp;exact bD (by left))]
  ·simp[ah,aX,ws]
  ·have e:=nA ns (a+1+k) (by left);have hm:=zN (i:=bu ns (a+1+k)) (j:=5) (by decide);simp[bE,aW,e,hm]
 have gc:bI Φ CH [some (.lst .sc (ah ns)),some (.int a),some (.int N),some (.int z),some (.int n),some (.lst .ow (eI (gh n z))),a6,a7,none]=ok (.nx,[some (.lst .sc (ah ns)),some (.int a),some (.int N),some (.int z),some (.int n),some (.lst .ow (eI (gh n z))),a6,a7,some (.lst .ow (ah ws))]):=by
  simp[CH,Fd Φ HR _ rfl,k1]
 have Zo:∀cs:aA,eI cs=cs.map cP:=λ_=>rfl;have e17:∀f,Φ 1017 [.lst f (eI (gh n z))]=ok (.lst .ow (eI (bt (gh n z)))):=λf=>by
  rw[RS];show(match gk (eI (gh n z))with|some nss=>if nss.Nodup/\nss.length<64 then ok (D.lst .ow ((bt nss).map cP))else none|none=>none)=_;rw[Zo,lS];show(if (gh n z).Nodup/\(gh n z).length<64 then ok (D.lst .ow ((bt (gh n z)).map cP))else none)=_;rw[if_pos ⟨V.nd,by left⟩];rfl
 have hp:(bt (gh n z)).Perm (gh n z):=aaU _ _;have k2:bz Φ Nm [some (.lst .sc (ah ns)),some (.int a),some (.int N),some (.int z),some (.int n),some (.lst .ow (eI (gh n z))),a6,a7,some (.lst .ow (ah ws))]=ok (.lst .ow (cz (tN (gh n z) ws))):=by
  unfold Nm;rw[bW (xs:=[.lst .ow (eI (bt (gh n z)))]) (items:=(bt (gh n z)).map λc=>.tup (ah c)) (ds:=(bt (gh n z)).map λc=>rD (Rat.divInt (ws.getD ((gh n z).idxOf c) 0) ws.sum,c)) (by simp[e17]) (by rw[c_,Az];rfl) (bG λc hc=>⟨[some (.tup (ah c)),some (.lst .fz (ah ws)),some (.lst .fz (eI (gh n z)))],by simp[bw],by simp,?_⟩) (by rw[List.length_map,hp.length_eq];exact bD (by left))]
  ·have:((bt (gh n z)).map λc=>rD (Rat.divInt (ws.getD ((gh n z).idxOf c) 0) ws.sum,c))=cz (tN (gh n z) ws):=by unfold cz tN;rw[List.map_map];rfl
   rw[this,kZ]
  ·have ZD:=hp.mem_iff.mp hc;have hi:(gh n z).idxOf c<(gh n z).length:=List.idxOf_lt_length_iff.mpr ZD;have e44:∀f,Φ 1044 [.lst f (eI (gh n z)),.tup (ah c)]=ok (.int ((gh n z).idxOf c)):=λf=>by
    rw[RI];show(match gk (eI (gh n z))with|some nss=>(match intsOf (ah c)with|some c=>if c∈nss/\nss.length<=eH then ok (D.int (nss.idxOf c))else none|none=>none)|none=>none)=_;rw[Zo,lS];unfold ah;rw[bx];show(if c∈gh n z/\(gh n z).length<=eH then ok (D.int ((gh n z).idxOf c))else none)=_;rw[if_pos ⟨ZD,by show _<=1000000;left⟩]
   have ha:=Io (ts:=ws) (h:=((gh n z).idxOf c:Int)) (by left) (by rw[Ob];left);have hat:qL ws ((gh n z).idxOf c:Int)=ws.getD ((gh n z).idxOf c) 0:=by unfold qL;rw[Int.toNat_natCast]
   rw[hat]at ha;have hs:∀f,pY .j4 [.lst f (ah ws)]=ok (.int ws.sum):=λf=>by
    show(match intsOf (ah ws)with|some ns=>ok (D.int ns.sum)|none=>none)=_;unfold ah;rw[bx]
   have e':=ny (ws.getD ((gh n z).idxOf c) 0) ws.sum (by left) (l6 (by left));generalize ws.getD ((gh n z).idxOf c) 0=w at *;simp[e44,ha,hs,e',rD]
 refine⟨n,tN (gh n z) ws,z,Oh.2,by left,D6,Fi,hsz,hpp,?_⟩;rw[mk_eq (show[D.lst .sc (ah ns),.int a].length=2 from rfl)];show pM (bI Φ pZ [some (.lst .sc (ah ns)),some (.int a),none,none,none,none,none,none,none])=_;rw[pZ,eR Φ _ _ _ _ ga,eR Φ _ _ _ _ gb,eR Φ _ _ _ _ gc];simp[Jh,k2,me]
structure K26(Φ:aT):Prop where
 dY:ia (Φ 202)
 iw:dO (Φ 203)
 DS:my (Φ 222)
 acU:NP (Φ 240)
section
variable (Φ:aT)(K:K26 Φ){n:Nat}{rs:ai}{ws xs:az}(G:Gs 3 n ws xs)(hi:∀g h,Sm 6 (aj rs g h))(hp:∀g h:Nat,g<n->h<n->0<aj rs g h)(f3 f4 f5:Fl)(c0 c1 c2 c6 c7 c8 c16 c17:aG)
include K G hi hp
def nB(rs:ai)(xs:az)(g:Int)(hs:ae):Rat:=(hs.map λh=>if g<h then eZ rs xs g h / aj rs g h else 0).sum
end
theorem rM(rs:ai)(xs:az)(g:Int):∀hs:ae,(∀h∈hs,h<=g)->nB rs xs g hs=0
 |[],_=>rfl
 |h::hs,hh=>by
  have:=hh h aai;unfold nB;rw[List.map_cons,List.sum_cons,if_neg (by left),Rat.zero_add];exact rM rs xs g hs λx hx=>hh x (aae _ hx)
theorem vF(rs:ai)(xs:az)(g:Int):∀hs:ae,(∀h∈hs,g<h)->nB rs xs g hs=(hs.map λh=>eZ rs xs g h / aj rs g h).sum
 |[],_=>rfl
 |h::hs,hh=>by
  unfold nB;rw[List.map_cons,List.sum_cons,if_pos (hh h List.mem_cons_self),List.map_cons,List.sum_cons];congr 1;exact vF rs xs g hs λx hx=>hh x (aae _ hx)
theorem DX(rs:ai)(xs:az)(g:Int)(as bs:ae):nB rs xs g (as++bs)=nB rs xs g as+nB rs xs g bs:=by unfold nB;rw[List.map_append,List.sum_append]
theorem DV(rs:ai)(xs:az):∀(gs pre:ae),(pre++gs).Pairwise (· < ·)->(gs.map λg=>nB rs xs g (pre++gs)).sum=wu rs xs gs
 |[],_,_=>rfl
 |g::gs,pre,hs=>by
  have h1:=List.pairwise_append.mp hs;have h2:=List.pairwise_cons.mp h1.2.1;have Od:((pre++[g])++gs).Pairwise (· < ·):=by rw[List.append_assoc];exact hs
  have ih:=DV rs xs gs (pre++[g]) Od;rw[List.append_assoc]at ih;have e0:pre++([g]++gs)=pre++g::gs:=rfl;rw[e0]at ih;rw[List.map_cons,List.sum_cons,ih,DX,rM rs xs g pre λx hx=>by have:=h1.2.2 x hx g List.mem_cons_self;left,Rat.zero_add];have e1:nB rs xs g (g::gs)=nB rs xs g gs:=by
   unfold nB;rw[List.map_cons,List.sum_cons,if_neg (by left),Rat.zero_add]
  rw[e1,vF rs xs g gs h2.1];unfold wu;show _=((gs.map (λh=>(g,h))++i3 gs).map λp=>eZ rs xs p.1 p.2 / aj rs p.1 p.2).sum;rw[List.map_append,List.sum_append,List.map_map];rfl
theorem mf{n:Nat}{f g:Nat->Nat->Rat}(h:∀a b,a<n->b<n->f a b=g a b):ib n f=ib n g:=by
 unfold ib;congr 1;refine aaj λa ha=>?_;have ha:=(List.mem_range'_1.mp ha).2;congr 1;refine aaj λb hb=>?_;have hb:=(List.mem_range'_1.mp hb).2;exact h a b (by left) (by left)
theorem uC(f:Nat->Nat->Rat)(l:aO):∀k:aO,(k.map λa=>(l.map λb=>f a b).sum).sum=(l.map λb=>(k.map λa=>f a b).sum).sum
 |[]=>by
  have:(l.map λb=>(([]:aO).map λa=>f a b).sum)=l.map λb=>(0:Rat)*0:=aaj λ_ _=>by show(0:Rat)=_;grind
  rw[this,c9,Rat.zero_mul];rfl
 |a::k=>by
  rw[List.map_cons,List.sum_cons,uC f l k,<- sum_add];congr 1
theorem zu(n:Nat)(f:Nat->Nat->Rat):ib n f=ib n λa b=>f b a:=uC f _ _
theorem KN(n:Nat)(F:Int->Int->Rat){l:ae}(hl:jx n l):(ib n λg h=>if (g:Int)∈l then(if (h:Int)∈l then F g h else 0)else 0)=((dZ l l).map λp=>F p.1 p.2).sum:=by
 have b:∀y∈l,((0:Nat):Int)<=y/\y<((0+n:Nat):Int):=λy hy=>by have:=hl.2 y hy;constructor<;>left
 have e2:∀g:Int,((List.range' 0 n).map λ(i:Nat)=>if (i:Int)∈l then F g i else 0).sum=dC l (F g):=λg=>dh (F g) n 0 l hl.1 b;have e3:=dh (λg=>dC l (F g)) n 0 l hl.1 b;have e4:((dZ l l).map λp=>F p.1 p.2).sum=dC l λg=>dC l (F g):=by
  unfold dZ;rw[List.map_flatMap,lj];unfold dC;congr 1;refine aaj λg _=>?_;rw[List.map_map];rfl
 rw[e4,<- e3];unfold ib;congr 1;refine aaj λg _=>?_;by_cases hg:(g:Int)∈l
 ·simp only[hg,if_true];exact e2 g
 ·simp only[hg,if_false];have:((List.range' 0 n).map λ(_:Nat)=>(0:Rat))=(List.range' 0 n).map λ_=>(0:Rat)*0:=aaj λ_ _=>by grind
  rw[this,c9,Rat.zero_mul]
theorem xR(n:Nat)(F:Int->Int->Rat):∀(rs:ai),(∀r∈rs,jx n r.2)->(ib n λg h=>aj rs g h*F g h)=(rs.map λr=>r.1*((dZ r.2 r.2).map λp=>F p.1 p.2).sum).sum
 |[],_=>by
  have e:(ib n λg h=>aj [] g h*F g h)=ib n λg h=>0*F g h:=rfl;rw[e,jo,Rat.zero_mul];rfl
 |r::rs,h=>by
  have ih:=xR n F rs λs hs=>h s (aae _ hs);rw[List.map_cons,List.sum_cons,<- ih,<- KN n F (h r List.mem_cons_self),<- jo,<- mh];refine hU λa b=>?_;rw[di];by_cases ha:(a:Int)∈r.2<;>by_cases hb:(b:Int)∈r.2<;>simp[bX,ha,hb]<;>grind
section
variable {k n:Nat}{rs:ai}(I:Dr k n rs)(hp:∀g h:Nat,g<n->h<n->0<aj rs g h)
include I hp
theorem F_(ws xs:az):(rs.map λr=>r.1*Bi rs ws xs r.2).sum=PQ n rs ws xs:=by
 have e:=xR n (λg h=>rl rs ws xs g h / aj rs g h) rs I.lot;rw[Cq];refine Eq.trans e.symm (mf λa b ha hb=>?_);have:=hp a b ha hb;have z:aj rs a b≠0:=λz=>by rw[z]at this;exact absurd this (by decide)
 grind
theorem Hy(xs:az):(rs.map λr=>r.1*wu rs xs r.2).sum=ib n λg h=>if (g:Int)<h then eZ rs xs g h else 0:=by
 have e:=xR n (λg h=>if g<h then eZ rs xs g h / aj rs g h else 0) rs I.lot;have e1:(rs.map λr=>r.1*wu rs xs r.2)=rs.map λr=>r.1*((dZ r.2 r.2).map λp=>if p.1<p.2 then eZ rs xs p.1 p.2 / aj rs p.1 p.2 else 0).sum:=aaj λr hr=>by
  have g:=DV rs xs r.2 [] (I.lot r hr).1;rw[List.nil_append]at g;rw[<- g];congr 1;unfold dZ;rw[List.map_flatMap,lj];congr 1;refine aaj λg _=>?_;rw[List.map_map];rfl
 rw[e1];refine Eq.trans e.symm (mf λa b ha hb=>?_);have:=hp a b ha hb;have z:aj rs a b≠0:=λz=>by rw[z]at this;exact absurd this (by decide)
 by_cases nv:(a:Int)<b
 ·simp only[nv,if_true];grind
 ·simp only[nv,if_false];grind
end
theorem oW(rs:ai)(g h:Int):aj rs g h=aj rs h g:=by
 unfold aj;congr 2;refine List.filter_congr λr _=>?_;unfold bX;exact Bool.and_comm ..
theorem uH(n:Nat)(z:Nat)(g:Int):∀(rs:ai),(∀r∈rs,jx n r.2)->(∀r∈rs,r.2.length=z)->((List.range' 0 n).map λ(h:Nat)=>aj rs g h).sum=(z:Rat)*aj rs g g
 |[],_,_=>by
  have:((List.range' 0 n).map λ(h:Nat)=>aj [] g h)=(List.range' 0 n).map λ_=>(0:Rat)*0:=aaj λ_ _=>by show(0:Rat)=_;grind
  rw[this,c9,Rat.zero_mul];show(0:Rat)=z*0;grind
 |r::rs,hl,hz=>by
  have ih:=uH n z g rs (λs hs=>hl s (aae _ hs)) λs hs=>hz s (aae _ hs);have h1:=hl r aai;have e:=dh (λ_=>(if g∈r.2 then r.1 else 0)) n 0 r.2 h1.1 λy hy=>by have:=h1.2 y hy;constructor<;>left
  have e2:((List.range' 0 n).map λ(h:Nat)=>aj (r::rs) g h)=(List.range' 0 n).map λ(h:Nat)=>(if (h:Int)∈r.2 then(if g∈r.2 then r.1 else 0)else 0)+aj rs g h:=aaj λh _=>by
   rw[di];by_cases ha:g∈r.2<;>by_cases hb:(h:Int)∈r.2<;>simp[bX,ha,hb]<;>grind
  rw[e2,sum_add,e,ih,di];have e3:∀(c:Rat) (l:ae),dC l (λ_=>c)=(l.length:Rat)*c:=λc l=>by
   induction l with
   |nil=>show(0:Rat)=_;simp
   |cons x l ih =>
    rw[gX,ih,List.length_cons];have:((l.length+1:Nat):Rat)=(l.length:Rat)+1:=by rw[Rat.natCast_add];rfl
    rw[this];grind
  rw[e3,hz r List.mem_cons_self];by_cases ha:g∈r.2<;>simp[bX,ha]<;>grind
theorem uI(n:Nat)(z:Nat):∀(rs:ai),(∀r∈rs,jx n r.2)->(∀r∈rs,r.2.length=z)->((List.range' 0 n).map λ(h:Nat)=>aj rs h h).sum=(z:Rat)*(rs.map (·.1)).sum
 |[],_,_=>by
  have:((List.range' 0 n).map λ(h:Nat)=>aj [] h h)=(List.range' 0 n).map λ_=>(0:Rat)*0:=aaj λ_ _=>by show(0:Rat)=_;grind
  rw[this,c9,Rat.zero_mul];show(0:Rat)=z*0;grind
 |r::rs,hl,hz=>by
  have ih:=uI n z rs (λs hs=>hl s (aae _ hs)) λs hs=>hz s (aae _ hs);have h1:=hl r aai;have e:=dh (λ_=>r.1) n 0 r.2 h1.1 λy hy=>by have:=h1.2 y hy;constructor<;>left
  have e2:((List.range' 0 n).map λ(h:Nat)=>aj (r::rs) h h)=(List.range' 0 n).map λ(h:Nat)=>(if (h:Int)∈r.2 then r.1 else 0)+aj rs h h:=aaj λh _=>by
   rw[di];by_cases hb:(h:Int)∈r.2<;>simp[bX,hb]<;>grind
  have e3:∀(c:Rat) (l:ae),dC l (λ_=>c)=(l.length:Rat)*c:=λc l=>by
   induction l with
   |nil=>show(0:Rat)=_;simp
   |cons x l ih =>
    rw[gX,ih,List.length_cons];have:((l.length+1:Nat):Rat)=(l.length:Rat)+1:=by rw[Rat.natCast_add];rfl
    rw[this];grind
  rw[e2,sum_add,e,ih,e3,hz r List.mem_cons_self,List.map_cons,List.sum_cons];grind
theorem xG{k n z:Nat}{rs:ai}(I:Dr k n rs)(hp:∀g h:Nat,g<n->h<n->0<aj rs g h)(hz:∀r∈rs,r.2.length=z)(ws xs:az)(hw:∀g:Nat,g<n->bK ws g=1 / aj rs g g):
  (ib n λg h=>if (g:Int)<h then eZ rs xs g h else 0)=PQ n rs ws xs:=by
 have Vt:∀g:Nat,((List.range' 0 n).map λ(h:Nat)=>aj rs g h - aj rs g g*aj rs h h).sum=0:=λg=>by
  have e:((List.range' 0 n).map λ(h:Nat)=>aj rs g h - aj rs g g*aj rs h h)=(List.range' 0 n).map λ(h:Nat)=>aj rs g h+(-(aj rs g g))*aj rs h h:=aaj λh _=>by grind
  rw[e,sum_add,c9,uH n z g rs I.lot hz,uI n z rs I.lot hz,I.one];grind
 have y0:(ib n λg h=>(aj rs g h - aj rs g g*aj rs h h)*(bK xs g / aj rs g g*(bK xs g / aj rs g g)))=0:=by
  unfold ib;have e:((List.range' 0 n).map λg:Nat=>((List.range' 0 n).map λh:Nat=>(aj rs g h - aj rs g g*aj rs h h)*(bK xs g / aj rs g g*(bK xs g / aj rs g g))).sum)=(List.range' 0 n).map λ_=>(0:Rat)*0:=aaj λg _=>by
   have e2:((List.range' 0 n).map λh:Nat=>(aj rs g h - aj rs g g*aj rs h h)*(bK xs g / aj rs g g*(bK xs g / aj rs g g)))=(List.range' 0 n).map λh:Nat=>(bK xs g / aj rs g g*(bK xs g / aj rs g g))*(aj rs g h - aj rs g g*aj rs h h):=aaj λh _=>by grind
   rw[e2,c9,Vt g];grind
  rw[e,c9,Rat.zero_mul]
 have y1:(ib n λg h=>(aj rs g h - aj rs g g*aj rs h h)*(bK xs h / aj rs h h*(bK xs h / aj rs h h)))=0:=by
  rw[zu];refine Eq.trans (hU λa b=>?_) y0;rw[oW rs b a];grind
 have hs:(ib n λg h=>if (g:Int)<h then eZ rs xs g h else 0)=ib n λg h=>if (h:Int)<g then eZ rs xs g h else 0:=by
  rw[zu];refine hU λa b=>?_;by_cases nv:(b:Int)<a
  ·simp only[nv,if_true];unfold eZ;rw[oW rs b a];grind
  ·simp only[nv,if_false]
 have h2:(ib n λg h=>if (g:Int)<h then eZ rs xs g h else 0)+(ib n λg h=>if (h:Int)<g then eZ rs xs g h else 0)=ib n λg h=>eZ rs xs g h:=by
  rw[<- mh];refine hU λa b=>?_;by_cases nv:(a:Int)<b
  ·have:¬ (b:Int)<a:=by left
   simp only[nv,this,if_true,if_false];grind
  ·by_cases hba:(b:Int)<a
   ·simp only[nv,hba,if_true,if_false];grind
   ·have:a=b:=by left
    subst this;simp only[nv,if_false];unfold eZ;grind
 have h3:(ib n λg h=>eZ rs xs g h)=ib n λg h=>2*rl rs ws xs g h+((-1)*((aj rs g h - aj rs g g*aj rs h h)*(bK xs g / aj rs g g*(bK xs g / aj rs g g)))+(-1)*((aj rs g h - aj rs g g*aj rs h h)*(bK xs h / aj rs h h*(bK xs h / aj rs h h)))):=mf λa b ha hb=>by
  unfold eZ rl;rw[hw a ha,hw b hb];have e1:∀x p:Rat,1 / p*x=x / p:=λx p=>by rw[Rat.div_def,Rat.div_def,Rat.one_mul,Rat.mul_comm]
  rw[e1,e1];grind
 rw[mh,mh,jo,jo,jo,y0,y1]at h3;rw[Cq];rw[<- hs]at h2;grind
theorem Es(Φ:aT)(Ψ:Nat->aa->Prop)(c0 c1:aG):∀(qs:az) (c2:aG),(∀q∈qs,0<=q)->(∃q∈qs,q=0)->NT Φ Ψ 6 (.nm 2) oF (a_ qs) [c0,c1,c2]
 |[],_,_,h=>by obtain⟨_,h,_⟩:=h;cases h
 |q::qs,c2,hn,h=>by
  have e0:bT (.nm 2) (qD q) [c0,c1,c2]=ok [c0,c1,some (qD q)]:=by simp
  by_cases hq:q=0
  ·subst hq;refine .hd e0 (.hd (.TK ?_ (.hd .rs)));simp
  ·have Fe:0<q:=by have:=hn q aai;grind
   have Q2:=fL Fe;have c:ez .eq (.int q.num) (.int 0)=ok (.bl false):=by
    rw[x9 rfl rfl];show ok (D.bl (q.num==0))=_;rw[beq_eq_false_iff_ne.mpr (by left)]
   refine .tl e0 (ρ2:=[c0,c1,some (qD q)]) (by simp[oF,c]) (Es Φ Ψ c0 c1 qs _ (λp hp=>hn p (aae _ hp)) ?_);obtain⟨p,hp,rfl⟩:=h;rcases List.mem_cons.mp hp with rfl|hp
   ·exact absurd rfl hq
   ·exact⟨_,hp,rfl⟩
theorem Et(Φ:aT)(Ψ:Nat->aa->Prop){n:Nat}{rs:ai}(hn:∀g h:Int,0<=aj rs g h)(c0:aG):∀(k j:Nat) (c1 c2:aG),j+k<=n->(∃g h:Nat,j<=g/\g<j+k/\h<n/\aj rs g h=0)->NT Φ Ψ 6 (.nm 1) qS (bP n rs .fz j k) [c0,c1,c2]
 |0,j,c1,c2,_,h=>by obtain⟨g,h,h1,h2,_⟩:=h;left
 |k+1,j,c1,c2,hjk,hz=>by
  have ep:bP n rs .fz j (k+1)=.lst .fz (a_ ((List.range' 0 n).map λ(h:Nat)=>aj rs j h))::bP n rs .fz (j+1) k:=by unfold bP;rw[List.range'_succ,List.map_cons]
  have e0:bT (.nm 1) (.lst .fz (a_ ((List.range' 0 n).map λ(h:Nat)=>aj rs j h))) [c0,c1,c2]=ok [c0,some (.lst .fz (a_ ((List.range' 0 n).map λ(h:Nat)=>aj rs j h))),c2]:=by simp
  have hit:cc Φ (.seq (.v 1)) [c0,some (.lst .fz (a_ ((List.range' 0 n).map λ(h:Nat)=>aj rs j h))),c2]=ok (a_ ((List.range' 0 n).map λ(h:Nat)=>aj rs j h),[c0,some (.lst .fz (a_ ((List.range' 0 n).map λ(h:Nat)=>aj rs j h))),c2]):=by
   rw[qB (f:=.fz) (ds:=a_ ((List.range' 0 n).map λ(h:Nat)=>aj rs j h)) (by simp)];simp
  rw[ep];by_cases hr:∃q∈(List.range' 0 n).map (λ(h:Nat)=>aj rs j h),q=0
  ·refine .hd e0 (.hd (.fr hit (Es Φ Ψ _ _ _ _ (λq hq=>?_) hr) rfl));obtain⟨i,_,rfl⟩:=List.mem_map.mp hq;exact hn _ _
  ·obtain⟨a2,e2⟩:=pT Φ c0 (some (.lst .fz (a_ ((List.range' 0 n).map λ(h:Nat)=>aj rs j h)))) ((List.range' 0 n).map λ(h:Nat)=>aj rs j h) c2 λq hq=>by
    have h0:0<=q:=by obtain⟨i,_,rfl⟩:=List.mem_map.mp hq;exact hn _ _
    have h1:q≠0:=λz=>hr ⟨q,hq,z⟩;grind
   have hf:=dQ (Φ:=Φ) (t:=.nm 2) (b:=oF) hit e2;refine .tl e0 (ρ2:=[c0,some (.lst .fz (a_ ((List.range' 0 n).map λ(h:Nat)=>aj rs j h))),a2]) (by rw[qS,df,hf];rfl) (Et Φ Ψ hn c0 k (j+1) _ _ (by left) ?_);obtain⟨g,h,h1,h2,h3,h4⟩:=hz;refine⟨g,h,?_,by left,h3,h4⟩;by_cases hg:g=j
   ·subst hg;exact absurd ⟨_,List.mem_map.mpr ⟨h,List.mem_range'_1.mpr (by left),rfl⟩,h4⟩ hr
   ·left
def Ux(ds:aa):Prop:=∃(k n:Nat) (rs:ai),Dr k n rs/\(∃g h:Nat,g<n/\h<n/\aj rs g h=0)/\ds=[.lst .fz (bP n rs .fz 0 n)]
theorem XD(Φ:aT)(Ψ:Nat->aa->Prop)(ds:aa)(h:Ux ds):ds.length=1/\Er Φ Ψ 6 iE (ds.map some++List.replicate (3 - ds.length) none):=by
 obtain⟨k,n,rs,I,⟨g,h,hg,hh,hz⟩,rfl⟩:=h;refine⟨rfl,.hd (.fr (items:=bP n rs .fz 0 n) (ρ1:=[some (.lst .fz (bP n rs .fz 0 n)),none,none]) ?_ (Et Φ Ψ (λg h=>(jd I g h).1) _ n 0 _ _ (by left) ⟨g,h,by left,by left,hh,hz⟩) rfl)⟩;show cc Φ (.seq (.v 0)) [some (.lst .fz (bP n rs .fz 0 n)),none,none]=_;rw[qB (f:=.fz) (ds:=bP n rs .fz 0 n) (by simp[bB])];have:=g9 bZ n rs .fz 0 n rfl;simp[bB,this]
def Uw(ds:aa):Prop:=∃(k n:Nat) (rs:ai) (a b c:D),Dr k n rs/\(∃g h:Nat,g<n/\h<n/\aj rs g h=0)/\ds=[bo n rs,a,b,c]
theorem XB(Φ:aT)(Ψ:Nat->aa->Prop)(RG:jX (Φ 21))(RA:∀ds,Ux ds->Ψ 57 ds)(ds:aa)(h:Uw ds):ds.length=4/\Er Φ Ψ 6 yd (ds.map some++List.replicate (6 - ds.length) none):=by
 obtain⟨k,n,rs,a,b,c,I,hz,rfl⟩:=h;have e1:=RG k n rs I;have m1:aS aW (bo n rs)=bo n rs:=by simp[bo]
 have m2:aS bE (bo n rs)=bo n rs:=by simp[bo]
 have f1:iy .ow=.ow:=rfl;have f2:=g9 bZ n rs .ow 0 n rfl;refine⟨rfl,.tl (ρ':=[some (bo n rs),some a,some b,some c,some (.lst .ow (bP n rs .ow 0 n)),none]) ?_ (.hd (.ex (xs:=[.lst .al (bP n rs .al 0 n)]) ?_ (RA _ ⟨k,n,rs,I,hz,?_⟩)))⟩
 ·show qG Φ (.asg (.nm 4) (.call 21 [(.v 0)])) [some (bo n rs),some a,some b,some c,none,none]=_;simp[m1,m2,e1,bB,f1,f2]
 ·simp[bB,bE]
 ·simp[bB,aW]
def yc(lot:ae)(xs:az):az:=(List.range xs.length).map λ(k:Nat)=>if (k:Int)∈lot then bK xs k else 7 / 2
noncomputable def nW:CE:=.comp 1 (.nm 0) [1,0] .jK [(.bf .len [(.v 1)])] [] (.ix (.lst [(.tup [(.int 7),(.int 2)]),(.ix (.v 1) (.v 0))]) (.bf .vq [(.cmp .AK (.v 0) (.v 2))]))
def oo:ag:=[.ret nW]
def zY(m:aw):Prop:=∀lot xs,xs.length<=12->m [.tup (ah lot),.lst .fz (a_ xs)]=ok (.lst .ow (a_ (yc lot xs)))
theorem Gn(Φ:aT):zY (mk Φ 2 2 oo):=by
 intro lot xs hn;have k1:bz Φ nW [some (.tup (ah lot)),some (.lst .fz (a_ xs))]=ok (.lst .ow (a_ (yc lot xs))):=by
  unfold nW;rw[bW (xs:=[.int xs.length]) (ds:=(List.range xs.length).map λ(k:Nat)=>qD (if (k:Int)∈lot then bK xs k else 7 / 2)) (by simp) (jO Φ (by left) (by left)) (bG λk hk=>⟨[some (.int k),some (.lst .fz (a_ xs)),some (.tup (ah lot))],by simp[bw,aW],by simp,?_⟩) (by simp;exact bD (by left))]
  ·have:((List.range xs.length).map λ(k:Nat)=>qD (if (k:Int)∈lot then bK xs k else 7 / 2))=a_ (yc lot xs):=by unfold a_ yc;rw[List.map_map];rfl
   rw[this,o6]
  ·rw[Int.toNat_natCast,List.mem_range]at hk;have a1:=kf (qs:=xs) (h:=(k:Int)) (by left) (by left);have a2:=EH (k:Int) lot;have z7:D.tup [.int 7,.int 2]=qD (7 / 2):=by
    have n7:(7 / 2:Rat).num=7:=by decide +kernel
    have d7:(7 / 2:Rat).den=2:=by decide +kernel
    show _=D.tup [.int (7 / 2:Rat).num,.int (7 / 2:Rat).den];rw[n7,d7];rfl
   by_cases hm:(k:Int)∈lot
   ·rw[decide_eq_true hm]at a2;rw[if_pos hm];have b1:pY .vq [.bl true]=ok (.int 1):=rfl;simp[a1,a2,b1,z7]
   ·rw[decide_eq_false hm]at a2;rw[if_neg hm];have b1:pY .vq [.bl false]=ok (.int 0):=rfl;simp[a1,a2,b1,z7]
 simp[mk_eq,oo,Fd Φ nW _ rfl,k1]
theorem zK{h:Int}(hm:h∈lot)(h0:0<=h)(h1:h<xs.length):bK (yc lot xs) h=bK xs h:=by
 obtain⟨k,rfl⟩:∃k:Nat,h=k:=⟨h.toNat,by left⟩
 unfold bK yc;rw[Int.toNat_natCast,List.getD_eq_getElem?_getD,List.getElem?_map,List.getElem?_range (by left)];simp[hm,bK]
theorem Po{n:Nat}(rs:ai)(ws xs:az)(hl:jx n lot)(hx:xs.length=n):Bi rs ws (yc lot xs) lot=Bi rs ws xs lot:=by
 unfold Bi;congr 1;refine aaj λp hp=>?_;have hm:p.1∈lot/\p.2∈lot:=by
  unfold dZ at hp;obtain⟨g,hg,hp⟩:=List.mem_flatMap.mp hp;obtain⟨h,hh,rfl⟩:=List.mem_map.mp hp;exact⟨hg,hh⟩
 have b1:=hl.2 _ hm.1;have b2:=hl.2 _ hm.2;unfold rl;rw[zK hm.1 b1.1 (by left),zK hm.2 b2.1 (by left)]
theorem RV{n:Nat}(rs:ai)(xs:az)(hl:jx n lot)(hx:xs.length=n):wu rs (yc lot xs) lot=wu rs xs lot:=by
 unfold wu;congr 1;refine aaj λp hp=>?_;have hm:=kW hp;have b1:=hl.2 _ hm.1;have b2:=hl.2 _ hm.2;unfold eZ;rw[zK hm.1 b1.1 (by left),zK hm.2 b2.1 (by left)]
noncomputable def Bu:Nat:=(List.range' 1 63).foldl Nat.lcm 1
theorem Sj:∀a,a<64->0<a->a∣Bu:=by decide +kernel
theorem pF{q:Rat}(hW:W<64)(h:Fm W (1*W) q)(h0:0<q):Fm Bu (64*Bu) (1 / q):=by
 obtain⟨w0,z,hz,e⟩:=h;have hw:(W:Rat)≠0:=sX w0;have hwp:(0:Rat)<(W:Rat):=by
  have:((0:Int):Rat)<((W:Int):Rat):=Rat.intCast_lt_intCast.mpr (by left);rw[Rat.intCast_natCast]at this;exact this
 have L7:(0:Int)<z:=by
  have h1:(0:Rat)<q*(W:Rat):=Rat.mul_pos h0 hwp;rw[e]at h1;have h2:((0:Int):Rat)<(z:Rat):=h1;exact Rat.intCast_lt_intCast.mp h2
 obtain⟨a,rfl⟩:∃a:Nat,z=a:=⟨z.natAbs,by left⟩
 rw[Int.natAbs_natCast]at hz;obtain⟨c,hc⟩:=Sj a (by left) (by left);have ha:(a:Rat)≠0:=sX (by left);refine⟨by decide +kernel,(W:Int)*c,?_,?_⟩
 ·rw[Int.natAbs_mul,Int.natAbs_natCast,Int.natAbs_natCast];refine aaG (by left) ?_;rw[hc];exact abg _ (by left)
 ·have hq:q≠0:=λz=>by rw[z]at h0;exact absurd h0 (by decide)
  rw[hc,Rat.natCast_mul,Rat.intCast_mul,Rat.intCast_natCast,Rat.intCast_natCast];rw[Rat.intCast_natCast]at e;grind
theorem eu{k n:Nat}{rs:ai}(I:Dr k n rs)(h0:0<W)(hd:∀r∈rs,r.1.den∣W)(g h:Int):Fm W (1*W) (aj rs g h):=by
 refine xI h0 (lX hd h0 g h) ?_;obtain⟨a,b⟩:=jd I g h;have n0:0<=(aj rs g h).num:=Rat.num_nonneg.mpr a;have:(aj rs g h).num<=(aj rs g h).den:=by
  rw[Rat.le_iff]at b;simpa using b
 left
noncomputable def b25:Nat:=7*420*(7*420)
def G8(W:Nat):Nat:=W*W*(Xj*Xj)*Bu
def G0(W:Nat):Nat:=(W*(1*W)+1*W*(1*W))*(b25*b25)*(64*Bu)
theorem MJ{k n:Nat}{rs:ai}(I:Dr k n rs)(h0:0<W)(hW:W<64)(hd:∀r∈rs,r.1.den∣W)(G:Gs 3 n ws xs){g h:Int}(g0:0<=g/\g<n)(T7:0<=h/\h<n)(hp:0<aj rs g h):Fm (G8 W) (G0 W) (rl rs ws xs g h / aj rs g h):=by
 have l1:=G.l1;have l2:=G.l2;have a1:=tL (G.s1 _ (bh (qs:=ws) g0.1 (by left)).2);have a2:=tL (G.s2 _ (bh (qs:=xs) g0.1 (by left)).2);have a3:=tL (G.s1 _ (bh (qs:=ws) T7.1 (by left)).2);have a4:=tL (G.s2 _ (bh (qs:=xs) T7.1 (by left)).2);have p1:=(eu I h0 hd g h).lift W h0;have p2:=(eu I h0 hd g g).mul (eu I h0 hd h h);have r:=((p1.sub p2).mul ((a1.mul a2).mul (a3.mul a4))).mul (pF hW (eu I h0 hd g h) hp);have e:rl rs ws xs g h / aj rs g h=(aj rs g h - aj rs g g*aj rs h h)*(bK ws g*bK xs g*(bK ws h*bK xs h))*(1 / aj rs g h):=by unfold rl;grind
 rw[e];exact r
theorem RY{k n:Nat}{rs:ai}(I:Dr k n rs)(h0:0<W)(hW:W<64)(hd:∀r∈rs,r.1.den∣W)(G:Gs 3 n ws xs)(hp:∀g h:Nat,g<n->h<n->0<aj rs g h)(hl:jx n lot):Fm (G8 W) ((dZ lot lot).length*G0 W) (Bi rs ws xs lot):=by
 have:=Fm.sum (M:=G8 W) (B:=G0 W) (qs:=(dZ lot lot).map λp=>rl rs ws xs p.1 p.2 / aj rs p.1 p.2) (aaA (aaA (aaA h0 h0) (by decide)) (by decide +kernel)) λq hq=>by
  obtain⟨p,hm,rfl⟩:=List.mem_map.mp hq;unfold dZ at hm;obtain⟨g,hg,hm⟩:=List.mem_flatMap.mp hm;obtain⟨h,hh,rfl⟩:=List.mem_map.mp hm;obtain⟨a,ha,rfl⟩:=hl.nat hg;obtain⟨b,hb,rfl⟩:=hl.nat hh;exact MJ I h0 hW hd G ⟨by left,by left⟩ ⟨by left,by left⟩ (hp a b ha hb)
 rw[List.length_map]at this;exact this
section
variable {k n A B W:Nat}{rs:ai}{ws xs:az}(I:Dr k n rs)(hA:0<A)(hx:∀h:Int,0<=h->h<n->Fm A B (bK ws h*bK xs h))
include I hA hx
theorem JE{r:Row}(hr:r∈rs):Fm A (12*B) (gQ ws xs r):=by
 have hl:=I.lot r hr;have hn:=I.n2;refine Xt hA (by have:=hl.len;left) λh hh=>?_;obtain⟨a,b⟩:=hl.2 h hh;exact hx h a b
theorem HB(hl:rs.length<=12)(h0:0<W)(hd:∀r∈rs,r.1.den∣W):Fm (W*A) (12*(W*(12*B))) (cK rs ws xs):=by
 have:=Fm.sum (M:=W*A) (B:=W*(12*B)) (qs:=rs.map λr=>r.1*gQ ws xs r) (aaA h0 hA) λq hq=>by
  obtain⟨r,hr,rfl⟩:=List.mem_map.mp hq;have:=(D1 I h0 hd hr).mul (JE I hA hx hr);rw[Nat.one_mul]at this;exact this
 rw[List.length_map]at this;exact this.mono (aaB _ hl)
end
structure LsC(W M Bm Bg dv:Nat):Prop where
 w1:W<64
 m1:M<2 ^ 600
 m2:M*M<2 ^ 600
 m3:W*(M*M)<2 ^ 600
 bm:Bm<2 ^ 600
 bg:Bg<2 ^ 600
 ds:Bg+Bm<=dv
 d1:dv<2 ^ 600
 d2:dv*dv<2 ^ 600
 d3:12*(64*(dv*dv))<2 ^ 600
theorem lsC{A:Nat}(w1:W<64)(hA:A<=2 ^ 120)(hB:B<=2 ^ 130):LsC W (W*A) (12*(W*(12*B))) (W*(12*B)) (13*(64*(12*2 ^ 130))):=by
 have hW:W<=64:=by left
 have a1:W*A<=64*2 ^ 120:=aaG hW hA;have a2:W*(12*B)<=64*(12*2 ^ 130):=aaG hW (aaK _ hB);exact⟨w1,aaq a1 (by decide +kernel),aaq (aaG a1 a1) (by decide +kernel),aaq (aaG hW (aaG a1 a1)) (by decide +kernel),aaq (aaK _ a2) (by decide +kernel),aaq a2 (by decide +kernel),by left,by decide +kernel,by decide +kernel,by decide +kernel⟩
theorem rE(Φ:aT)(dY:ia (Φ 202))(iw:dO (Φ 203))(DS:my (Φ 222))(tG:jw (Φ 231))(f g:Fl)(ws xs:az)(n:Nat){W M Bm Bg dv i0 j0:Nat}(L:LsC W M Bm Bg dv)(hn:n<=12)(G:IA i0 j0 n ws xs)(m:Rat)(sm:Fm M Bm m)(c0:aG):∀(rs:ai) (acc:Rat) (i:Nat) (c5 c6 c7:aG),
  (∀r∈rs,jx n r.2/\Fm W (1*W) r.1/\Fm M Bg (gQ ws xs r))->Fm (W*(M*M)) (i*(64*(dv*dv))) acc->i+rs.length<=12 ->
  ∃ya ml mj,dJ (λd ρ=>bT (.tp [5,6]) d ρ) (λρ=>bI Φ jH ρ) (cz rs) [c0,some (.lst f (a_ ws)),some (.lst g (a_ xs)),some (qD m),some (qD acc),c5,c6,c7]=ok (.nx,[c0,some (.lst f (a_ ws)),some (.lst g (a_ xs)),some (qD m),some (qD (acc+nE rs ws xs m)),ya,ml,mj])
 |[],acc,i,c5,c6,c7,_,_,_=>⟨c5,c6,c7,by simp[nE,cz,eh,Rat.add_zero]⟩
 |r::rs,acc,i,c5,c6,c7,hm,hs,hi=>by
  rw[List.length_cons]at hi;obtain⟨hl,s1,s2⟩:=hm r aai;have e0:=λf g=>tG f g n r.2 ws xs i0 j0 hl hn G;change ∀f g,Φ 231 _=ok (qD (gQ ws xs r))at e0;have s3:Fm M dv (gQ ws xs r - m):=(s2.sub sm).mono L.ds;have s4:=s3.mul s3;have s5:Fm (W*(M*M)) (64*(dv*dv)) (r.1*((gQ ws xs r - m)*(gQ ws xs r - m))):=(s1.mul s4).mono (aaB _ (by have:=L.w1;left));have up:∀{M B q},Fm M B q->M<2 ^ 600->B<2 ^ 600->Sm 4000 q:=λh a b=>(h.sm a b).mono (by decide);have hW:W<2 ^ 600:=aal L.w1 (aat (n:=2) (by decide) (show 6<=600 by decide));have e1:=DS (gQ ws xs r) m (up s2 L.m1 L.bg) (up sm L.m1 L.bm);have e2:=iw _ _ (up s3 L.m1 L.d1) (up s3 L.m1 L.d1);have e3:=iw r.1 _ (up s1 hW (by rw[Nat.one_mul];exact hW)) (up s4 L.m2 L.d2);have pw:64*(dv*dv)<=12*(64*(dv*dv)):=abg _ (by decide);have gI:i*(64*(dv*dv))<2 ^ 600:=aaq (aaB _ (show i<=12 by left)) L.d3;have e4:=dY acc _ (up hs L.m3 gI) (up s5 L.m3 (aaq pw L.d3));obtain⟨ya,ml,mj,ih⟩:=rE Φ dY iw DS tG f g ws xs n L hn G m sm c0 rs (acc+r.1*((gQ ws xs r - m)*(gQ ws xs r - m))) (i+1) (some (qD r.1)) (some (.tup (ah r.2))) (some (qD (gQ ws xs r - m))) (λx hx=>hm x (aae _ hx)) (by rw[Nat.succ_mul];exact hs.add s5) (by left);refine⟨ya,ml,mj,cN (ρ1:=[c0,some (.lst f (a_ ws)),some (.lst g (a_ xs)),some (qD m),some (qD acc),some (qD r.1),some (.tup (ah r.2)),c7]) (by simp[rD]) (ρ2:=[c0,some (.lst f (a_ ws)),some (.lst g (a_ xs)),some (qD m),some (qD (acc+r.1*((gQ ws xs r - m)*(gQ ws xs r - m)))),some (qD r.1),some (.tup (ah r.2)),some (qD (gQ ws xs r - m))]) ?_ ?_⟩
  ·simp[jH,e0,e1,e2,e3,e4]
  ·refine ih.trans ?_;have:nE (r::rs) ws xs m=r.1*((gQ ws xs r - m)*(gQ ws xs r - m))+nE rs ws xs m:=by unfold nE;rw[List.map_cons,List.sum_cons]
   rw[this,Rat.add_assoc]
def mx(m:aw):Prop:=∀n rs f g ws xs i j A B,Dr 6 n rs->nG rs->IA i j n ws xs->0<A->A<=2 ^ 120->B<=2 ^ 130->(∀h:Int,0<=h->h<n->Fm A B (bK ws h*bK xs h))->m [bo n rs,.lst f (a_ ws),.lst g (a_ xs)]=ok (qD (nE rs ws xs (cK rs ws xs)))
theorem KA(Φ:aT)(dY:ia (Φ 202))(iw:dO (Φ 203))(DS:my (Φ 222))(tG:jw (Φ 231))(Xd:zW (Φ 232)):mx (mk Φ 3 8 jV):=by
 intro n rs f g ws xs i j A B I Fi G T3 hA hB hx;have z0:D.tup [.int 0,.int 1]=qD 0:=rfl;have hf:=I.wx;obtain⟨W,w0,w1,w2⟩:=Fi;have em:=λf g=>Xd n rs f g ws xs i j I G;have sm:=HB I T3 hx (by left) w0 w2;obtain⟨c5,c6,c7,e⟩:=rE Φ dY iw DS tG f g ws xs n (lsC w1 hA hB) I.n2 G (cK rs ws xs) sm (some (bo n rs)) rs 0 0 none none none (λr hr=>⟨I.lot r hr,D1 I w0 w2 hr,(JE I T3 hx hr).lift W w0⟩) (by
  rw[Nat.zero_mul];exact Fm.zero (aaA w0 (aaA (aaA w0 T3) (aaA w0 T3)))) (by left)
 rw[Rat.zero_add]at e;have m1:aS aW (bo n rs)=bo n rs:=by simp[bo]
 have m2:aS bE (bo n rs)=bo n rs:=by simp[bo]
 have x1:bz Φ (.ix (.v 0) (.int 1)) [some (bo n rs),some (.lst f (a_ ws)),some (.lst g (a_ xs)),some (qD (cK rs ws xs)),some (qD 0),none,none,none]=ok (.lst .fz (cz rs)):=by simp[bo]
 have hit:cc Φ (.seq (.ix (.v 0) (.int 1))) [some (bo n rs),some (.lst f (a_ ws)),some (.lst g (a_ xs)),some (qD (cK rs ws xs)),some (qD 0),none,none,none]=ok (cz rs,[some (bo n rs),some (.lst f (a_ ws)),some (.lst g (a_ xs)),some (qD (cK rs ws xs)),some (qD 0),none,none,none]):=by
  rw[qB x1];simp
 have hx:=dQ (Φ:=Φ) (t:=.tp [5,6]) (b:=jH) hit e;simp[mk_eq,jV,z0,m1,m2,em,hx]
theorem mx.drawn{m:aw}(h:mx m){n:Nat}{rs:ai}(f g:Fl)(I:Dr 6 n rs)(Fi:nG rs)(G:Gs 3 n ws xs):m [bo n rs,.lst f (a_ ws),.lst g (a_ xs)]=ok (qD (dM rs ws xs)):=by
 rw[<- pR I G];refine h n rs f g ws xs 3 3 Xj (7*420*(7*420)) I Fi (G.two (by decide)) (by decide) (by decide +kernel) (by decide +kernel) λh a b=>?_;exact(tL (G.s1 _ (bh (qs:=ws) a (by rw[G.l1];exact b)).2)).mul (tL (G.s2 _ (bh (qs:=xs) a (by rw[G.l2];exact b)).2))
def wk(n:Nat)(rs:ai):az:=(IU n rs).map λq=>1 / q
theorem I0{n:Nat}{rs:ai}{k:Nat}(h:k<n):bK (wk n rs) k=1 / aj rs k k:=by
 unfold bK wk;rw[Int.toNat_natCast,List.getD_eq_getElem?_getD,List.getElem?_map,F9 rs h];rfl
theorem IZ{n:Nat}{rs:ai}(I:Dr 6 n rs)(Fi:nG rs)(hp:∀g:Nat,g<n->0<aj rs g g):∀q∈wk n rs,Sm 6 q:=by
 intro q hq;obtain⟨p,vw,rfl⟩:=List.mem_map.mp hq;obtain⟨k,hk,rfl⟩:=G3 vw;have:=hp k hk;have nz:aj rs k k≠0:=λz=>by rw[z]at this;exact absurd this (by decide)
 have:=Vl.div (iq I Fi k k) nz;obtain⟨s1,s2⟩:=iq I Fi k k;have e:=Rat.inv_def (aj rs k k);have hn:=fL (hp k hk);have e2:(1:Rat) / aj rs k k=Rat.divInt (aj rs k k).den (aj rs k k).num:=by
  rw[Rat.div_def,Rat.one_mul,e]
 rw[e2];exact lO (by left) (by simpa using s2) s1
theorem mx.KO{m:aw}(h:mx m){n:Nat}{rs:ai}(f g:Fl)(I:Dr 6 n rs)(Fi:nG rs)(hp:∀g:Nat,g<n->0<aj rs g g)(hl:xs.length=n)(hx:∀q∈xs,Sm 3 q):m [bo n rs,.lst f (a_ (wk n rs)),.lst g (a_ xs)]=ok (qD (dM rs (wk n rs) xs)):=by
 have l1:(wk n rs).length=n:=by unfold wk;simp
 have s1:=IZ I Fi hp;have G:Gs 6 n (wk n rs) xs:=⟨l1,hl,s1,λq hq=>(hx q hq).mono (by decide),by decide⟩
 rw[<- pR I G];obtain⟨W,w0,w1,w2⟩:=id Fi;refine h n rs f g _ xs 6 6 (Bu*420) (64*Bu*(7*420)) I Fi (G.two (by decide)) (by decide +kernel) (by decide +kernel) (by decide +kernel) λh a b=>?_;obtain⟨k,rfl⟩:∃k:Nat,h=k:=⟨h.toNat,by left⟩
 rw[I0 (by left)];exact(pF w1 (eu I w0 w2 k k) (hp k (by left))).mul (tL (hx _ (bh (qs:=xs) a (by rw[hl];exact b)).2))
def SR:Nat:=64*Bu*(7*420)
def HA(W:Nat):Nat:=W*W*(Bu*420*(Bu*420))*Bu
def Hw(W:Nat):Nat:=(1*W*(1*W)+W*(1*W))*((SR+SR)*(SR+SR))*(64*Bu)
theorem HC{k n:Nat}{rs:ai}(I:Dr k n rs)(h0:0<W)(hW:W<64)(hd:∀r∈rs,r.1.den∣W)(hl:xs.length=n)(hx:∀q∈xs,Sm 3 q){g h:Nat}(hg:g<n)(hh:h<n)(hp:∀g h:Nat,g<n->h<n->0<aj rs g h):Fm (HA W) (Hw W) (eZ rs xs g h / aj rs g h):=by
 have a2:=tL (hx _ (bh (qs:=xs) (h:=(g:Int)) (by left) (by left)).2);have a4:=tL (hx _ (bh (qs:=xs) (h:=(h:Int)) (by left) (by left)).2);have q1:=(pF hW (eu I h0 hd g g) (hp g g hg hg)).mul a2;have q2:=(pF hW (eu I h0 hd h h) (hp h h hh hh)).mul a4;have d:=q1.sub q2;have p1:=(eu I h0 hd g h).lift W h0;have p2:=(eu I h0 hd g g).mul (eu I h0 hd h h);have r:=((p2.sub p1).mul (d.mul d)).mul (pF hW (eu I h0 hd g h) (hp g h hg hh));have e1:∀x p:Rat,1 / p*x=x / p:=λx p=>by rw[Rat.div_def,Rat.div_def,Rat.one_mul,Rat.mul_comm]
 have e2:∀x p:Rat,x*(1 / p)=x / p:=λx p=>by rw[Rat.div_def,Rat.div_def,Rat.one_mul]
 rw[e2,e1,e1]at r;exact r
theorem RZ{k n:Nat}{rs:ai}(I:Dr k n rs)(h0:0<W)(hW:W<64)(hd:∀r∈rs,r.1.den∣W)(hl:xs.length=n)(hx:∀q∈xs,Sm 3 q)(hp:∀g h:Nat,g<n->h<n->0<aj rs g h)(ho:jx n lot):Fm (HA W) (144*Hw W) (wu rs xs lot):=by
 have:=Fm.sum (M:=HA W) (B:=Hw W) (qs:=(i3 lot).map λp=>eZ rs xs p.1 p.2 / aj rs p.1 p.2) (aaA (aaA (aaA h0 h0) (by decide +kernel)) (by decide +kernel)) λq hq=>by
  obtain⟨p,hm,rfl⟩:=List.mem_map.mp hq;obtain⟨m1,m2⟩:=kW hm;obtain⟨a,ha,e1⟩:=ho.nat m1;obtain⟨b,hb,e2⟩:=ho.nat m2;rw[e1,e2];exact HC I h0 hW hd hl hx ha hb hp
 rw[List.length_map]at this;have l1:=oR lot;have l2:=ho.len;have l3:=I.n2;have l4:lot.length*lot.length<=12*12:=aaG (by left) (by left);exact this.mono (aaB _ (by left))
theorem MI{k n:Nat}{rs:ai}(I:Dr k n rs)(h0:0<W)(hW:W<64)(hd:∀r∈rs,r.1.den∣W)(G:Gs 3 n ws xs)(hp:∀g h:Nat,g<n->h<n->0<aj rs g h)(hl:jx n lot):Fm (G8 W) (144*G0 W) (Bi rs ws xs lot):=by
 have l2:=hl.len;have l3:=I.n2;refine(RY I h0 hW hd G hp hl).mono (aaB _ ?_);rw[p4];exact(aaG (show lot.length<=12 by left) (show lot.length<=12 by left):lot.length*lot.length<=12*12)
theorem X5:∀W,W<64->G8 W<2 ^ 600/\144*G0 W<2 ^ 600/\W*G8 W<2 ^ 600/\13*(64*(144*G0 W))<2 ^ 600/\HA W<2 ^ 600/\144*Hw W<2 ^ 600/\W*HA W<2 ^ 600/\13*(64*(144*Hw W))<2 ^ 600:=by decide +kernel
noncomputable def Ke:ag:=[.asg (.nm 12) (.call 69 [(.v 2),(.v 11),(.v 6)]),.ifs (.cmp .ne (.v 12) (.call 69 [(.v 2),(.v 11),(.call 239 [(.v 11),(.v 6)])])) [.ret (.bl false)] [],.asg (.nm 9) (.call 202 [(.v 9),(.call 203 [(.v 10),(.v 12)])])]
noncomputable def F2:ag:=[.asg (.nm 12) (.call 68 [(.v 2),(.v 5),(.v 11),(.v 6)]),.ifs (.cmp .ne (.v 12) (.call 68 [(.v 2),(.v 5),(.v 11),(.call 239 [(.v 11),(.v 6)])])) [.ret (.bl false)] [],.asg (.nm 8) (.call 202 [(.v 8),(.call 203 [(.v 10),(.v 12)])])]
def U7:ag:=F2++[.ifs (.v 3) Ke []]
structure K25(Φ:aT):Prop where
 T4:wc (Φ 68)
 ZM:wg (Φ 69)
 dY:ia (Φ 202)
 iw:dO (Φ 203)
 Xb:zY (Φ 239)
def Kr(rs:ai)(ws xs:az)(ss:ai):Rat:=(ss.map λr=>r.1*Bi rs ws xs r.2).sum
def Bp(rs:ai)(xs:az)(ev:Bool)(ss:ai):Rat:=if ev then(ss.map λr=>r.1*wu rs xs r.2).sum else 0
theorem NI(lot:ae)(xs:az):(yc lot xs).length=xs.length:=by simp[yc]
theorem Su(h:∀q∈xs,Sm 3 q):∀q∈yc lot xs,Sm 3 q:=by
 intro q hq;unfold yc at hq;obtain⟨k,hk,rfl⟩:=List.mem_map.mp hq;rw[List.mem_range]at hk;by_cases hm:(k:Int)∈lot
 ·rw[if_pos hm];exact h _ (bh (qs:=xs) (h:=(k:Int)) (by left) (by left)).2
 ·rw[if_neg hm];constructor<;>decide +kernel
theorem BH(Φ:aT)(K:K25 Φ){n z W:Nat}{rs:ai}{ws xs:az}(ev:Bool)(I:Dr 6 n rs)(n5:n<=5)(w0:0<W)(w1:W<64)(w2:∀r∈rs,r.1.den∣W)(hz:ev=true->∀r∈rs,r.2.length=z)(hp:∀g h:Nat,g<n->h<n->0<aj rs g h)(G:Gs 3 n ws xs)(c0 c1 c4 c7 JL:aG):∀(ss:ai),(∀r∈ss,r∈rs)->∀(A B:Rat) (i:Nat) (Um Ul OF:aG),Fm (W*G8 W) (i*(64*(144*G0 W))) A->Fm (W*HA W) (i*(64*(144*Hw W))) B->i+ss.length<=12 ->
  ∃X1 X0 EJ,dJ (λd ρ=>bT (.tp [10,11]) d ρ) (λρ=>bI Φ U7 ρ) (cz ss) [c0,c1,some (bo n rs),some (.bl ev),c4,some (.lst .ow (a_ ws)),some (.lst .ow (a_ xs)),c7,some (qD A),some (qD B),Um,Ul,OF,JL]=ok (.nx,[c0,c1,some (bo n rs),some (.bl ev),c4,some (.lst .ow (a_ ws)),some (.lst .ow (a_ xs)),c7,some (qD (A+Kr rs ws xs ss)),some (qD (B+Bp rs xs ev ss)),X1,X0,EJ,JL])
 |[],_,A,B,i,Um,Ul,OF,_,_,_=>⟨Um,Ul,OF,by cases ev<;>simp[eh,cz,Kr,Bp,Rat.add_zero]⟩
 |r::ss,hss,A,B,i,Um,Ul,OF,sA,sB,hi=>by
  rw[List.length_cons]at hi;obtain⟨b1,b2,b3,b4,b5,b6,b7,b8⟩:=X5 W w1;have hr:=hss r aai;have l7:=I.lot r hr;have Zt:=l7.len;have TN:=iq I ⟨W,w0,w1,w2⟩;have zz:r.2.length*r.2.length<=5*5:=aaG (by left) (by left);have l2:=G.l2;have Gb:Gs 3 n ws (yc r.2 xs):=⟨G.l1,by rw[NI];exact l2,G.s1,Su G.s2,by decide⟩
  have e1:=λf g=>K.T4 6 n rs r f g ws xs 3 6 I hr G TN hp (by left);have e2:=λf g=>K.T4 6 n rs r f g ws (yc r.2 xs) 3 6 I hr Gb TN hp (by left);rw[Po rs ws xs l7 l2]at e2;have e3:=K.Xb r.2 xs (by left);have up:∀{M B q},Fm M B q->M<2 ^ 600->B<2 ^ 600->Sm 4000 q:=λh a b=>(h.sm a b).mono (by decide);have fc:=D1 I w0 w2 hr;have hW:W<2 ^ 600:=aal w1 (aat (n:=2) (by decide) (show 6<=600 by decide));have uc:Sm 4000 r.1:=up fc hW (by rw[Nat.one_mul];exact hW);have fs:=MI I w0 w1 w2 G hp l7;have ft:Fm (W*G8 W) (64*(144*G0 W)) (r.1*Bi rs ws xs r.2):=(fc.mul fs).mono (aaB _ (by left));have e4:=K.iw r.1 _ uc (up fs b1 b2);have le:∀x j:Nat,j<=13->j*x<=13*x:=λx j h=>aaB _ h;have e5:=K.dY A _ (up sA b3 (aaq (le _ _ (by left)) b4)) (up ft b3 (aaq (by have:=le (64*(144*G0 W)) 1 (by left);rw[Nat.one_mul]at this;exact this) b4));have YJ:=sA.add ft;rw[<- Nat.succ_mul]at YJ;have e6:=C1 (Bi rs ws xs r.2);have pS:Kr rs ws xs (r::ss)=r.1*Bi rs ws xs r.2+Kr rs ws xs ss:=by unfold Kr;rw[List.map_cons,List.sum_cons]
  rw[pS,<- Rat.add_assoc];generalize Bi rs ws xs r.2=sq at *;have f1:iy .ow=.ow:=rfl;have m1:aS aW (bo n rs)=bo n rs:=by simp[bo]
  have m2:aS bE (bo n rs)=bo n rs:=by simp[bo]
  have ga:bI Φ F2 [c0,c1,some (bo n rs),some (.bl ev),c4,some (.lst .ow (a_ ws)),some (.lst .ow (a_ xs)),c7,some (qD A),some (qD B),some (qD r.1),some (.tup (ah r.2)),OF,JL]=ok (.nx,[c0,c1,some (bo n rs),some (.bl ev),c4,some (.lst .ow (a_ ws)),some (.lst .ow (a_ xs)),c7,some (qD (A+r.1*sq)),some (qD B),some (qD r.1),some (.tup (ah r.2)),some (qD sq),JL]):=by
   simp[F2,m1,m2,e1,e2,e3,e4,e5,e6,f1]
  have hb:∃EJ B',B'+Bp rs xs ev ss=B+Bp rs xs ev (r::ss)/\Fm (W*HA W) ((i+1)*(64*(144*Hw W))) B'/\bI Φ [.ifs (.v 3) Ke []] [c0,c1,some (bo n rs),some (.bl ev),c4,some (.lst .ow (a_ ws)),some (.lst .ow (a_ xs)),c7,some (qD (A+r.1*sq)),some (qD B),some (qD r.1),some (.tup (ah r.2)),some (qD sq),JL]=ok (.nx,[c0,c1,some (bo n rs),some (.bl ev),c4,some (.lst .ow (a_ ws)),some (.lst .ow (a_ xs)),c7,some (qD (A+r.1*sq)),some (qD B'),some (qD r.1),some (.tup (ah r.2)),EJ,JL]):=by
   cases ev with
   |false =>
    refine⟨some (qD sq),B,rfl,sB.mono (aaB _ (by left)),?_⟩;simp
   |true =>
    have hz:=hz rfl;have d1:=λg=>K.ZM 6 n rs r g xs 3 6 z I hr hz G.l2 G.s2 (by decide) TN hp (by left);have d2:=λg=>K.ZM 6 n rs r g (yc r.2 xs) 3 6 z I hr hz Gb.l2 Gb.s2 (by decide) TN hp (by left);rw[RV rs xs l7 l2]at d2;have gs:=RZ I w0 w1 w2 G.l2 G.s2 hp l7;have gt:Fm (W*HA W) (64*(144*Hw W)) (r.1*wu rs xs r.2):=(fc.mul gs).mono (aaB _ (by left));have d4:=K.iw r.1 _ uc (up gs b5 b6);have d5:=K.dY B _ (up sB b7 (aaq (le _ _ (by left)) b8)) (up gt b7 (aaq (by have:=le (64*(144*Hw W)) 1 (by left);rw[Nat.one_mul]at this;exact this) b8));have S_:=sB.add gt;rw[<- Nat.succ_mul]at S_;have d6:=C1 (wu rs xs r.2);have pG:Bp rs xs true (r::ss)=r.1*wu rs xs r.2+Bp rs xs true ss:=by unfold Bp;rw[if_pos rfl,if_pos rfl,List.map_cons,List.sum_cons]
    refine⟨some (qD (wu rs xs r.2)),B+r.1*wu rs xs r.2,by rw[pG,Rat.add_assoc],S_,?_⟩;generalize wu rs xs r.2=gq at *;simp[Ke,m1,m2,d1,d2,e3,d4,d5,d6,f1]
  obtain⟨EJ,B',eB,S_,gb⟩:=hb;obtain⟨Uk,Uj,Ui,ih⟩:=BH Φ K ev I n5 w0 w1 w2 hz hp G c0 c1 c4 c7 JL ss (λx hx=>hss x (aae _ hx)) (A+r.1*sq) B' (i+1) (some (qD r.1)) (some (.tup (ah r.2))) EJ YJ S_ (by left);rw[eB]at ih;exact⟨Uk,Uj,Ui,cN (ρ1:=[c0,c1,some (bo n rs),some (.bl ev),c4,some (.lst .ow (a_ ws)),some (.lst .ow (a_ xs)),c7,some (qD A),some (qD B),some (qD r.1),some (.tup (ah r.2)),OF,JL]) (by simp[rD]) ((eR Φ F2 _ _ _ ga).trans gb) ih⟩
def Bh(n:Nat)(rs:ai)(g:Nat):Bool:=(List.range' 0 n).any λ(h:Nat)=>decide (aj rs g h=0)
noncomputable def Nj:CE:=.comp 1 (.nm 0) [] .seq [(.v 7)] [(.cI 1045 [(.tup [(.int 0),(.int 1)]),(.v 0)])] (.v 0)
theorem UL(Φ:aT)(DT:Φ 1045=TF){n:Nat}(hn:n<=12)(rs:ai)(h7:ρ[7]?=some (some (.lst .ow (bP n rs .ow 0 n)))):
  bz Φ Nj ρ=ok (.lst .ow (((List.range' 0 n).filter (Bh n rs)).map λ(g:Nat)=>.lst .al (a_ ((List.range' 0 n).map λ(h:Nat)=>aj rs g h)))):=by
 unfold Nj;rw[bW (xs:=[.lst .al (bP n rs .al 0 n)]) (items:=bP n rs .fz 0 n) (ds:=((List.range' 0 n).filter (Bh n rs)).map λ(g:Nat)=>.lst .fz (a_ ((List.range' 0 n).map λ(h:Nat)=>aj rs g h))) (by simp[h7,bB,bE]) (by rw[c_,bB];rfl) (fb λg hg=>⟨[some (.lst .fz (a_ ((List.range' 0 n).map λ(h:Nat)=>aj rs g h)))],by simp[bw],?_,λ_=>by simp[bE]⟩) (by
  have:=List.length_filter_le (Bh n rs) (List.range' 0 n);rw[List.length_range']at this;simp only[List.length_map];exact bD (by left))]
 ·congr 2;rw[aX,List.map_map];refine aaj λg _=>?_;show aS iy (.lst .fz _)=_;rw[aS];show D.lst .al (aF iy (a_ _))=_;rw[o6]
 ·have z0:D.tup [.int 0,.int 1]=qD 0:=rfl;have k1:TF [qD 0,.lst .fz (a_ ((List.range' 0 n).map λ(h:Nat)=>aj rs g h))]=ok (.bl (Bh n rs g)):=by
   show(if dA 8 (qD 0)=true/\_ then _ else _)=_;rw[if_pos ⟨rn 7 0,sU (rn 7) _⟩];congr 2;show(a_ _).any _=_;unfold Bh;unfold a_;rw[List.any_map,List.any_map];congr 1;funext h;show iU (qD (aj rs g h)) (qD 0)=decide (aj rs g h=0);exact D_ _ _
  simp[z0,DT,bE,k1]
def SG(ds:aa):Prop:=∃(k n:Nat) (rs:ai) (a b c:D),Dr k n rs/\(∃g h:Nat,g<n/\h<n/\aj rs g h=0)/\ds=[bo n rs,a,b,c,.int 0]
open Classical in
noncomputable def C_(ds:aa):O D:=if SG ds then ok (.bl true)else none
def zT(m:aw):Prop:=∀ds,SG ds->m ds=ok (.bl true)
theorem Gf:zT C_:=λds h=>aaV h
noncomputable def NH:CS:=.ifs (.cmp .eq (.v 4) (.int 0)) [.ex (.call 68 [(.v 0),(.v 2),(.v 1),(.v 3)])] [.ex (.call 69 [(.v 0),(.v 1),(.v 3)])]
theorem Sa(Φ:aT)(Ψ:Nat->aa->Prop)(T4:∀ds,Uw ds->Ψ 68 ds)(ds:aa)(r:D)(h:C_ ds=ok r):r=.bl true/\ds.length=5/\qm Φ Ψ 6 NH ((ds.map some++List.replicate (7 - ds.length) none).set 5 (some .bV)):=by
 unfold C_ at h;split at h
 ·rename_i hx;cases h;obtain⟨k,n,rs,a,b,c,I,hz,rfl⟩:=hx;have m1:aS bE (bo n rs)=bo n rs:=by simp[bo]
  have m2:aS aW (bo n rs)=bo n rs:=by simp[bo]
  have c0:ez .eq (.int 0) (.int 0)=ok (.bl true):=rfl;refine⟨rfl,rfl,.TK ?_ (.hd (.ex (xs:=[bo n rs,aS bE b,aS bE a,aS bE c]) ?_ (T4 _ ⟨k,n,rs,aS aW (aS bE b),aS aW (aS bE a),aS aW (aS bE c),I,hz,?_⟩)))⟩
  ·simp[c0]
  ·simp[m1]
  ·show[aS aW (bo n rs),_,_,_]=_;rw[m2]
 ·cases h
noncomputable def GN:ag:=[.asg (.nm 1) (.call 200 [(.v 0),(.int 0)]),.asg (.nm 2) (.call 212 [(.v 0),(.int 1),(.int 5)]),.asg (.nm 3) (.cmp .eq (.bin .mod (.v 1) (.int 2)) (.int 1)),.ifs (.v 3) [.asg (.nm 2) (.call 238 [(.v 0),(.int 1)])] []]
noncomputable def Ld:ag:=[.asg (.nm 4) (.ix (.v 2) (.int 0)),.asg (.nm 5) (.call 230 [(.call 200 [(.v 0),(.int 14)]),(.v 4)]),.asg (.nm 6) (.call 230 [(.call 200 [(.v 0),(.int 15)]),(.v 4)]),.asg (.nm 7) (.call 213 [(.v 2)])]
def GL:ag:=[.ifs (.cmp .gt (.bf .len [Nj]) (.int 0)) [.ret (.call 211 [(.v 2),(.ix (.ix (.ix (.v 2) (.int 1)) (.int 0)) (.int 1)),(.v 5),(.v 6),(.int 0)])] []]
noncomputable def Lc:ag:=[.asg (.nm 8) (.tup [(.int 0),(.int 1)]),.asg (.nm 9) (.tup [(.int 0),(.int 1)])]
def Lb:ag:=[.fr (.tp [10,11]) (.seq (.ix (.v 2) (.int 1))) U7]
noncomputable def Ec:CE:=.comp 1 (.nm 0) [7] .jK [(.v 4)] [] (.call 201 [(.ix (.ix (.ix (.v 1) (.v 0)) (.v 0)) (.int 1)),(.ix (.ix (.ix (.v 1) (.v 0)) (.v 0)) (.int 0))])
def La:ag:=[.ifs (.cmp .ne (.v 8) (.call 237 [(.v 2),(.v 5),(.v 6)])) [.ret (.bl false)] [],.asg (.nm 13) Ec,.ret (.or [(.not (.v 3)),(.cmp .eq (.v 9) (.call 237 [(.v 2),(.v 13),(.v 6)]))])]
def lC:ag:=GN++(Ld++(GL++(Lc++(Lb++La))))
theorem Py(Φ:aT)(ny:fJ (Φ 201)){n:Nat}{rs:ai}(I:Dr 6 n rs)(Fi:nG rs)(hp:∀g:Nat,g<n->0<aj rs g g)(h4:ρ[4]?=some (some (.int n)))(h7:ρ[7]?=some (some (.lst .ow (bP n rs .ow 0 n)))):bz Φ Ec ρ=ok (.lst .ow (a_ (wk n rs))):=by
 have hn:=I.n2;unfold Ec;rw[bW (xs:=[.int n]) (ds:=(List.range n).map λ(k:Nat)=>qD (1 / aj rs k k)) (by simp[h4]) (jO Φ (by left) (by left)) (bG λk hk=>⟨[some (.int k),some (.lst .fz (bP n rs .fz 0 n))],by simp[bw,h7,bB,aW],by simp,?_⟩) (by simp;exact bD (by left))]
 ·have:((List.range n).map λ(k:Nat)=>qD (1 / aj rs k k))=a_ (wk n rs):=by
   unfold a_ wk IU;rw[List.map_map];simp
  rw[this,o6]
 ·rw[Int.toNat_natCast,List.mem_range]at hk;have b1:=λf=>rb (rs:=rs) (f:=f) hk;have b2:=lV (rs:=rs) (g:=k) hk;have s1:=iq I Fi k k;have h0:=hp k hk;generalize aj rs k k=q at *;have e4:qD q=.tup [.int q.num,.int q.den]:=rfl;have Fe:=fL h0;have e:=ny q.den q.num (by left) (aal s1.1 (aat (by decide) (by decide)));have ev:Rat.divInt q.den q.num=1 / q:=by
   rw[Rat.divInt_eq_div,Rat.intCast_natCast];have h1:=Cm q;have h0:q≠0:=λz=>by rw[z]at Fe;exact absurd Fe (by decide)
   have h2:(q.den:Rat)≠0:=sX q.den_pos;rw[h1];grind
  rw[ev]at e;rw[e4]at b2;simp[b1,b2,e,bB,bE]
abbrev Ap(ns:ae)(d:D)(ev:Bool)(n:Nat)(ws xs:az)(rs:ai)(m:aZ):aZ:=some (.lst .sc (ah ns))::some (.int (bu ns 0))::some d::some (.bl ev)::some (.int n)::some (.lst .ow (a_ ws))::some (.lst .ow (a_ xs))::some (.lst .ow (bP n rs .ow 0 n))::m
theorem Qt(Φ:aT)(K:K25 Φ)(nA:qa (Φ 200))(ny:fJ (Φ 201))(Xg:zT (Φ 211))(Xf:se (Φ 212))(Xe:we (Φ 213))(RF:zX (Φ 230))(RE:mx (Φ 237))(Xc:EU (Φ 238))(DT:Φ 1045=TF)(ns:ae):
  mk Φ 1 14 lC [.lst .sc (ah ns)]=ok (.bl true):=by
 rw[mk_eq (show[D.lst .sc (ah ns)].length=1 from rfl)];show pM (bI Φ lC [some (.lst .sc (ah ns)),none,none,none,none,none,none,none,none,none,none,none,none,none])=_;have c0:=nA ns 0 (by decide);have c14:=nA ns 14 (by decide);have c15:=nA ns 15 (by decide);obtain⟨n1,E_,hn1,I1,Fi1,d1⟩:=Xf ns 1 5 (by decide) (by decide) (by decide);have Z9:Φ 212 [.lst .sc (ah ns),.int 1,.int 5]=ok (me .ow n1 E_):=d1;obtain⟨n2,Vs,z2,Oh,z3,I2,Fi2,L6,hp2,d2⟩:=Xc ns 1 (by decide);have head:∃(ev:Bool) (n:Nat) (rs:ai) (z:Nat),n<=5/\Dr 6 n rs/\nG rs/\(ev=true->∀r∈rs,r.2.length=z) /\
   bI Φ GN [some (.lst .sc (ah ns)),none,none,none,none,none,none,none,none,none,none,none,none,none]=ok (.nx,[some (.lst .sc (ah ns)),some (.int (bu ns 0)),some (me .ow n rs),some (.bl ev),none,none,none,none,none,none,none,none,none,none]):=by
  have bm:cQ .mod (.int (bu ns 0)) (.int 2)=ok (.int ((bu ns 0).fmod 2)):=rfl;have ce:=x9 (a:=.int ((bu ns 0).fmod 2)) (b:=.int 1) rfl rfl;by_cases he:(bu ns 0).fmod 2=1
  ·have ce:ez .eq (.int ((bu ns 0).fmod 2)) (.int 1)=ok (.bl true):=by rw[he];rfl
   exact⟨true,n2,Vs,z2,Oh,I2,Fi2,λ_=>L6,by simp[GN,c0,Z9,bm,ce,d2,me]⟩
  ·have ce:ez .eq (.int ((bu ns 0).fmod 2)) (.int 1)=ok (.bl false):=by
    rw[ce];show ok (D.bl ((bu ns 0).fmod 2==1))=_;rw[beq_eq_false_iff_ne.mpr he]
   exact⟨false,n1,E_,0,hn1,I1,Fi1,λh=>absurd h aac,by simp[GN,c0,Z9,bm,ce,me]⟩
 obtain⟨ev,n,rs,z,n5,I,Fi,hz,ga⟩:=head;have n2:=I.n2;obtain⟨ws,w1,w2,w3⟩:=RF (bu ns 14) n n2;obtain⟨xs,x1,x2,x3⟩:=RF (bu ns 15) n n2;have G:Gs 3 n ws xs:=⟨w2,x2,w3,x3,by decide⟩
 have e3:=Xe n rs I;have f1:iy .ow=.ow:=rfl;have f2:=g9 bZ n rs .ow 0 n rfl;have gb:bI Φ Ld [some (.lst .sc (ah ns)),some (.int (bu ns 0)),some (me .ow n rs),some (.bl ev),none,none,none,none,none,none,none,none,none,none]=ok (.nx,(Ap ns (me .ow n rs) ev n ws xs rs [none,none,none,none,none,none])):=by
  simp[Ld,Ef,e3,c14,c15,w1,x1,bB,f1,f2]
 have gz:=UL Φ DT n2 rs (ρ:=(Ap ns (me .ow n rs) ev n ws xs rs [none,none,none,none,none,none])) rfl;rw[lC,eR Φ _ _ _ _ ga,eR Φ _ _ _ _ gb];by_cases TM:∃g h:Nat,g<n/\h<n/\aj rs g h=0
 ·have hpos:((List.range' 0 n).filter (Bh n rs)).length≠0:=by
   obtain⟨g,h,hg,hh,e⟩:=TM;have:g∈(List.range' 0 n).filter (Bh n rs):=by
    refine List.mem_filter.mpr ⟨List.mem_range'_1.mpr (by left),?_⟩;unfold Bh;exact List.any_eq_true.mpr ⟨h,List.mem_range'_1.mpr (by left),aaM e⟩
   intro z;rw[List.length_eq_zero_iff]at z;rw[z]at this;cases this
  have cg:ez .gt (.int (((List.range' 0 n).filter (Bh n rs)).length:Int)) (.int 0)=ok (.bl true):=by
   show ok (D.bl (decide ((0:Int)<_)))=_;rw[decide_eq_true (by left)]
  obtain⟨r,mK,rfl⟩:∃r mK,rs=r::mK:=by
   cases rs with
   |nil=>have:=I.one;exact absurd this (by decide)
   |cons r mK=>exact⟨r,mK,rfl⟩
  have er:=Xg [bo n (r::mK),.tup (ah r.2),.lst .fz (a_ ws),.lst .fz (a_ xs),.int 0] ⟨6,n,r::mK,_,_,_,I,TM,rfl⟩;have ix0:bz Φ (.ix (.ix (.ix (.v 2) (.int 1)) (.int 0)) (.int 1)) (Ap ns (me .ow n (r::mK)) ev n ws xs (r::mK) [none,none,none,none,none,none])=ok (.tup (ah r.2)):=by
   simp[me,cz,rD]
  generalize ((List.range' 0 n).filter (Bh n (r::mK)))=fl at *;have bl:pY .len [.lst .ow (fl.map λ(g:Nat)=>.lst .al (a_ ((List.range' 0 n).map λ(h:Nat)=>aj (r::mK) g h)))]=ok (.int (fl.length:Int)):=by show ok (D.int ((fl.map _).length:Int))=_;rw[List.length_map]
  simp only[GL,List.cons_append,List.nil_append];rw[df,z_,JH,Sf,Ee,gz];rw[Se,Ew,NM,bl,Ed,Ih,cg,FO,LQ];rw[df,OP];simp[-XH,ix0,Ef,er]
 ·have hp:∀g h:Nat,g<n->h<n->0<aj rs g h:=λg h hg hh=>by
   have h0:=(jd I g h).1;have h1:aj rs g h≠0:=λe=>TM ⟨g,h,hg,hh,e⟩;grind
  have Mg:(List.range' 0 n).filter (Bh n rs)=[]:=by
   rw[List.filter_eq_nil_iff];intro g hg hb;unfold Bh at hb;obtain⟨h,hh,e⟩:=List.any_eq_true.mp hb;exact TM ⟨g,h,by have:=(List.mem_range'_1.mp hg).2;left,by have:=(List.mem_range'_1.mp hh).2;left,aad e⟩
  rw[Mg]at gz;have cg:ez .gt (.int 0) (.int 0)=ok (.bl false):=rfl;have bl:pY .len [.lst .ow []]=ok (.int 0):=rfl;have gc:bI Φ GL (Ap ns (me .ow n rs) ev n ws xs rs [none,none,none,none,none,none])=ok (.nx,(Ap ns (me .ow n rs) ev n ws xs rs [none,none,none,none,none,none])):=by
   simp only[GL];rw[df,z_,JH,Sf,Ee,gz];simp[bl,cg]
  have z0:D.tup [.int 0,.int 1]=qD 0:=rfl;have gd:bI Φ Lc (Ap ns (me .ow n rs) ev n ws xs rs [none,none,none,none,none,none])=ok (.nx,(Ap ns (me .ow n rs) ev n ws xs rs [some (qD 0),some (qD 0),none,none,none,none])):=by
   simp[Lc,z0]
  obtain⟨W,w0,wl,wd⟩:=id Fi;have hf:=I.wx;have mp:0<W*G8 W:=aaA w0 (aaA (aaA (aaA w0 w0) (by decide)) (by decide +kernel));have gp:0<W*HA W:=aaA w0 (aaA (aaA (aaA w0 w0) (by decide +kernel)) (by decide +kernel));obtain⟨Uk,Uj,Ui,el⟩:=BH Φ K ev I n5 w0 wl wd hz hp G (some (.lst .sc (ah ns))) (some (.int (bu ns 0))) (some (.int n)) (some (.lst .ow (bP n rs .ow 0 n))) none rs (λ_ h=>h) 0 0 0 none none none (by rw[Nat.zero_mul];exact Fm.zero mp) (by rw[Nat.zero_mul];exact Fm.zero gp) (by left);rw[Rat.zero_add,Rat.zero_add]at el;have y1:bz Φ (.ix (.v 2) (.int 1)) (Ap ns (me .ow n rs) ev n ws xs rs [some (qD 0),some (qD 0),none,none,none,none])=ok (.lst .al (cz rs)):=by simp[me]
  have hit:cc Φ (.seq (.ix (.v 2) (.int 1))) (Ap ns (me .ow n rs) ev n ws xs rs [some (qD 0),some (qD 0),none,none,none,none])=ok (cz rs,(Ap ns (bo n rs) ev n ws xs rs [some (qD 0),some (qD 0),none,none,none,none])):=by
   rw[qB y1];simp[i7,Ef]
  have Fh:=dQ (Φ:=Φ) (t:=.tp [10,11]) (b:=U7) hit el;have eS:Kr rs ws xs rs=dM rs ws xs:=by unfold Kr;rw[F_ I hp,ra I G]
  rw[eS]at Fh;have ge:bI Φ Lb (Ap ns (me .ow n rs) ev n ws xs rs [some (qD 0),some (qD 0),none,none,none,none])=ok (.nx,(Ap ns (bo n rs) ev n ws xs rs [some (qD (dM rs ws xs)),some (qD (Bp rs xs ev rs)),Uk,Uj,Ui,none])):=by
   rw[Lb,df,Fh];rfl
  rw[eR Φ _ _ _ _ gc,eR Φ _ _ _ _ gd,eR Φ _ _ _ _ ge];have s1:=λf g=>RE.drawn (ws:=ws) (xs:=xs) f g I Fi G;have s2:=λf g=>RE.KO (xs:=xs) f g I Fi (λg hg=>hp g g hg hg) x2 x3;have q1:=C1 (dM rs ws xs);have m1:aS aW (bo n rs)=bo n rs:=by simp[bo]
  have m2:aS bE (bo n rs)=bo n rs:=by simp[bo]
  have rg:=Py Φ ny I Fi (λg hg=>hp g g hg hg) (ρ:=(Ap ns (bo n rs) ev n ws xs rs [some (qD (dM rs ws xs)),some (qD (Bp rs xs ev rs)),Uk,Uj,Ui,none])) rfl rfl;have eG:ev=true->ez .eq (qD (Bp rs xs ev rs)) (qD (dM rs (wk n rs) xs))=ok (.bl true):=λh=>by
   subst h;have Gr:Gs 6 n (wk n rs) xs:=⟨by unfold wk;simp,x2,IZ I Fi (λg hg=>hp g g hg hg),λq hq=>(x3 q hq).mono (by decide),by decide⟩
   have:Bp rs xs true rs=dM rs (wk n rs) xs:=by
    unfold Bp;rw[if_pos rfl,Hy I hp,xG I hp (hz rfl) (wk n rs) xs (λg hg=>I0 hg),ra I Gr]
   rw[this,x9 (rn 39 _) (rn 39 _),D_];simp
  cases ev with
  |false=>simp[La,m1,m2,s1,q1,Fd Φ Ec _ rfl,rg]
  |true =>
   have eG:=eG rfl;simp[La,m1,m2,s1,s2,q1,Fd Φ Ec _ rfl,rg,eG]
end DI
end
section
namespace DI
open PySem PySem.Spec PyProof.Rows L2
def Df(K:au)(x:Str)(st:Stmt):Prop:=∃f fd,Bv K x x st f fd/\PySem.W.nsIn K mainGlobals x=some (some (.ref f))
variable {K:au}{st:Stmt}
theorem dmk{x:Str}{f:Addr}{oc:Value}{od an:Option Addr}{sl:Array (Option Value)}{kV dc pm cd ct:Value}(a:PySem.W.nsIn K mainGlobals x=some (some (.ref f)))(l:K.lookup f=some ⟨oc,od,.func (PySem.W.fnOf x x (eU st) (bJ st) (aN st) .none kV dc pm an cd ct),sl⟩)(c:PySem.W.codeIn K cd x=true)(k:PySem.W.keepIn K (.ref f)=true):Df K x st:=⟨f,_,MG l c k,a⟩
noncomputable def T9(N P:ao)(sc:Scope):Bool:=decide (sc.kind=.function)&&(!sc.isCoroutine&&(!sc.isGenerator&&(decide N.Nodup&&(decide (N.take P.length=P)&&(P.all (λx=>decide (sc.names.lookup x=some .local\/sc.names.lookup x=some .cell))&&sc.names.all λy=>decide (y.2≠.free))))))
theorem zg{N P:ao}{sc:Scope}(h:T9 N P sc=true):fK N P sc:=by
 obtain⟨h1,h⟩:=aL h;obtain⟨h2,h⟩:=aL h;obtain⟨h3,h⟩:=aL h;obtain⟨h4,h⟩:=aL h;obtain⟨h5,h⟩:=aL h;obtain⟨h6,h7⟩:=aL h;exact⟨aad h1,je h2,je h3,aad h4,aad h5,λx hx=>aad (List.all_eq_true.mp h6 x hx),λy hy=>aad (List.all_eq_true.mp h7 y hy)⟩
def NF(st:Stmt)(N ps:ao)(tb:List (Nat×Str))(bl:ao)(cs:List (Str×GK))(px:Px)(b:ag):Bool:=T9 N ps (aN st)&&iX ⟨aN st,N,λn=>List.lookup n tb,bl,cs,px⟩ b (bJ st)
theorem u1{α:Type}{P:List α->Prop}(h:∀a,P [a])(us:List α)(e:us.length=1):P us:=by obtain⟨a,rfl⟩:=Qs e;exact h a
theorem u2{α:Type}{P:List α->Prop}(h:∀a b,P [a,b])(us:List α)(e:us.length=2):P us:=by obtain⟨a,b,rfl⟩:=Qr e;exact h a b
theorem u3{α:Type}{P:List α->Prop}(h:∀a b c,P [a,b,c])(us:List α)(e:us.length=3):P us:=by obtain⟨a,b,c,rfl⟩:=Qq e;exact h a b c
theorem u4{α:Type}{P:List α->Prop}(h:∀a b c d,P [a,b,c,d])(us:List α)(e:us.length=4):P us:=by obtain⟨a,b,c,d,rfl⟩:=V0 e;exact h a b c d
theorem u5{α:Type}{P:List α->Prop}(h:∀a b c d e,P [a,b,c,d,e])(us:List α)(e:us.length=5):P us:=by
 match us,e with
 |[a,b,c,d,e],_=>exact h a b c d e
variable {P:aE}{base:Heap}{k':Nat}{mg:Str->Option Value}{w:World}
theorem Ent.u{k:Nat}{y:Str}{m:aw}(h:Ent P w K mg base k y m)(hk:k<=k':=by decide):Ent P w K mg base k' y m:=h.up hk
theorem en{h:Heap}(X:K.In h)(G:h.Ns mainGlobals mg)⦃x:Str⦄⦃st:Stmt⦄⦃N ps bl:ao⦄⦃tb:List (Nat×Str)⦄⦃cs:List (Str×GK)⦄⦃px:Px⦄⦃b:ag⦄(k:Nat)(Φ:aT)(m:aw)(d:Df K x st)(hc:NF st N ps tb bl cs px b=true)
  (hp:qc px Φ/\Ft px Φ) (vB:cm (λy=>mg y=none) bl) (mT:cm (λp:Str×GK=>∃u,mg p.1=some u/\yn K p.2 u) cs)
  (hf:cm (λp:Nat×Str=>Ent P w K mg base k p.2 (Φ p.1)) tb) (hm:∀ds r,m ds=ok r->ds.length=ps.length/\sI Φ N.length b ds=ok r) (hb:∀(kV doc pm:Value) (an:Option Addr) (gi ct:Value) (us:av),us.length=ps.length->bindArgs (PySem.W.fnOf x x (eU st) (bJ st) (aN st) .none kV doc pm an gi ct) ⟨us,[]⟩=pure (ps.zip us):=by first|exact λ_ _ _ _ _ _=>u1 λ_=>rfl|exact λ_ _ _ _ _ _=>u2 λ_ _=>rfl|exact λ_ _ _ _ _ _=>u3 λ_ _ _=>rfl|exact λ_ _ _ _ _ _=>u4 λ_ _ _ _=>rfl|exact λ_ _ _ _ _ _=>u5 λ_ _ _ _ _=>rfl):Ent P w K mg base (k+1) x m:=by
 obtain⟨f,fd,Fu,a⟩:=d;obtain⟨h1,h2⟩:=aL hc;exact ent Fu (aa_ X G a) (Fu.binds hb) (zg h1) h2 hp.1 hp.2 (cm.mem vB) (cm.two (P:=λy i=>∃u,mg y=some u/\yn K i u) mT) (cm.tab (P:=λg y=>Ent P w K mg base k y (Φ g)) hf) hm
noncomputable def xm(PT F:aT)(i:Nat)(m:aw):aT:=λn=>bif Nat.ble 1000 n then PT n else bif Nat.beq n i then m else F n
theorem Zg{α:Type}{Q:Nat->Prop}(p:Nat){k:Nat}{a b c:α}(h:(if p=k then a else b)=c)(h1:a=c->Q k)(h2:b=c->Q p):Q p:=by
 by_cases e:p=k
 ·subst e;rw[if_pos rfl]at h;exact h1 h
 ·rw[if_neg e]at h;exact h2 h
variable {F:Addr->Prop}{Z:Cx}{cs:aD}{Φ:aT}
theorem AL{α:Type}{e:Expr}{p k:Nat}{a b c:α}(h:(if p=k then a else b)=c)(h1:a=c->PE Z e (tD Z F Φ (.cI k cs))/\L2.PT Z e (gW Z F Φ (.cI k cs)))(h2:b=c->PE Z e (tD Z F Φ (.cI p cs))/\L2.PT Z e (gW Z F Φ (.cI p cs))):PE Z e (tD Z F Φ (.cI p cs))/\L2.PT Z e (gW Z F Φ (.cI p cs)):=Zg (Q:=λp=>PE Z e (tD Z F Φ (.cI p cs))/\L2.PT Z e (gW Z F Φ (.cI p cs))) p h h1 h2
theorem Zf{α:Type}{i p k:Nat}{a b c:α}(h:(if p=k then a else b)=c)(h1:a=c->PS Z st (qT Z F Φ (.mut k i cs)))(h2:b=c->PS Z st (qT Z F Φ (.mut p i cs))):PS Z st (qT Z F Φ (.mut p i cs)):=Zg (Q:=λp=>PS Z st (qT Z F Φ (.mut p i cs))) p h h1 h2
theorem Fc{A:Prop}(h:∃_:aa,False):A:=h.elim λ_ z=>z.elim
theorem dX:True:=trivial
theorem cm.nn{K:au}{h:Heap}{mg:aU}(X:K.In h)(G:h.Ns mainGlobals mg):∀{l:ao},cm (λy=>PySem.W.nsIn K mainGlobals y=some none) l->cm (λy=>mg y=none) l
 |[],_=>trivial
 |_::_,z=>⟨PySem.W.mg_none_of X G z.1,cm.nn X G z.2⟩
theorem en7{P:aE}{w:World}{K:au}{h base:Heap}{mg:aU}{bl:ao}{cs:List (Str×GK)}{px:Px}{PT:aT}(X:K.In h)(G:h.Ns mainGlobals mg)(hp:∀F i m,qc px (xm PT F i m)/\Ft px (xm PT F i m))(vB:cm (λy=>mg y=none) bl)(mT:cm (λp:Str×GK=>∃u,mg p.1=some u/\yn K p.2 u) cs)
  ⦃x:Str⦄ ⦃st:Stmt⦄ (k:Nat) (Φ:aT) (d:Df K x st) (N:ao) (a:Nat) (tb:List (Nat×Str)) (b:ag)
  (hf:cm (λp:Nat×Str=>Ent P w K mg base k p.2 (Φ p.1)) tb) (hc:NF st N (N.take a) tb bl cs px b=true:=by decide +kernel) (e:∃F i m,Φ=xm PT F i m:=by exact⟨_,_,_,rfl⟩) (ha:(N.take a).length=a:=by rfl) (hb:∀(kV doc pm:Value) (an:Option Addr) (gi ct:Value) (us:av),us.length=a->bindArgs (PySem.W.fnOf x x (eU st) (bJ st) (aN st) .none kV doc pm an gi ct) ⟨us,[]⟩=pure ((N.take a).zip us):=by first|exact λ_ _ _ _ _ _=>u1 λ_=>rfl|exact λ_ _ _ _ _ _=>u2 λ_ _=>rfl|exact λ_ _ _ _ _ _=>u3 λ_ _ _=>rfl|exact λ_ _ _ _ _ _=>u4 λ_ _ _ _=>rfl|exact λ_ _ _ _ _ _=>u5 λ_ _ _ _ _=>rfl):Ent P w K mg base (k+1) x (mk Φ a N.length b):=by
 obtain⟨F,i,m,e⟩:=e;exact en X G k Φ _ d hc (e▸hp F i m) vB mT hf (λds r q=>⟨(xi ds r q).1.trans ha.symm,(xi ds r q).2⟩) (λkV doc pm an gi ct us hu=>hb kV doc pm an gi ct us (hu.trans ha))
theorem enL{x:Str}{N ps bl:ao}{tb:List (Nat×Str)}{cs:List (Str×GK)}{px:Px}{b:ag}{f:Addr}{fd:FuncData}(k:Nat)(Φ:aT)(m:aw)(Fu:Bv K x x st f fd)(hc:NF st N ps tb bl cs px b=true)
  (hp:qc px Φ/\Ft px Φ) (vB:cm (λy=>mg y=none) bl) (mT:cm (λp:Str×GK=>∃u,mg p.1=some u/\yn K p.2 u) cs)
  (hf:cm (λp:Nat×Str=>Ent P w K mg base k p.2 (Φ p.1)) tb) (hm:∀ds r,m ds=ok r->ds.length=ps.length/\sI Φ N.length b ds=ok r):gL P w K mg base z5 (k+1) f fd ps (EY K ps.length m):=by
 obtain⟨h1,h2⟩:=aL hc;exact vI Fu (zg h1) h2 hp.1 hp.2 (cm.mem vB) (cm.two (P:=λy i=>∃u,mg y=some u/\yn K i u) mT) (λg y h=>(cm.tab (P:=λg y=>Ent P w K mg base k y (Φ g)) hf g y h).ex) hm
variable {B C:Addr}
theorem iO.up{k:Nat}{y:Str}{mr:aa->Prop}(h:iO P w K mg base k C y mr)(hk:k<=k'):iO P w K mg base k' C y mr:=by
 obtain⟨f,fd,ps,h1,h2⟩:=h.ex;exact⟨f,fd,ps,h1.mono hk,h2⟩
theorem iO.u{k:Nat}{y:Str}{mr:aa->Prop}(h:iO P w K mg base k C y mr)(hk:k<=k':=by decide):iO P w K mg base k' C y mr:=h.up hk
theorem As{h:Heap}(X:K.In h)(q:PySem.W.excIn K C J4 "ValueError.__new__" = true)(m:PySem.W.mroIn K C (.ref B)=some true)(ne:C≠B):mB C B h:=by
 obtain⟨dd,nm,bs,bm,ns,qn,hd,sn,sub,ab,col,k0,k1,k2,k3,k5,ho,_,_,_⟩:=zp q;refine⟨_,_,_,_,_,_,_,_,_,_,_,_,_,_,_,_,_,X _ _ ho,?_⟩;unfold PySem.W.mroIn PySem.W.clsIn at m;rw[ho]at m;have m:some ((Value.ref C::bm).contains (.ref B))=some true:=m;have m:=aar m;rw[List.contains_cons,Bool.or_eq_true]at m;rcases m with m|m
 ·have:=beq_iff_eq.mp m;cases this;exact absurd rfl ne
 ·exact m
section
variable {P:aE}{w:World}{K:au}{h base:Heap}{mg:aU}(X:K.In h)(G:h.Ns mainGlobals mg){C:Addr}⦃x:Str⦄⦃st:Stmt⦄⦃N ps bl:ao⦄⦃tb:List (Nat×Str)⦄⦃cs:List (Str×GK)⦄⦃px:Px⦄
include X G
theorem ZU{y:Str}(O:qd y C mg base)⦃b:ag⦄(n k:Nat)(Φ:aT)(Ψ:Nat->aa->Prop)(mr:aa->Prop)(d:Df K x st)(hc:NF st N ps tb bl cs px b=true)(Wn:z9 (fV (aN st) y&&!(y==("__debug__" : Str))) n y b (bJ st)=true)
  (hp:qc px Φ/\Ft px Φ) (vB:cm (λy=>mg y=none) bl) (mT:cm (λp:Str×GK=>∃u,mg p.1=some u/\yn K p.2 u) cs)
  (hf:cm (λp:Nat×Str=>Ent P w K mg base k p.2 (Φ p.1)) tb) (Ml:cm (λp:Nat×Str=>(∃ds,Ψ p.1 ds)->iO P w K mg base k C p.2 (Ψ p.1)) tb)
  (hm:∀ds,mr ds->ds.length=ps.length/\Er Φ Ψ n b (ds.map some++List.replicate (N.length - ds.length) none)) (hb:∀(kV doc pm:Value) (an:Option Addr) (gi ct:Value) (us:av),us.length=ps.length->bindArgs (PySem.W.fnOf x x (eU st) (bJ st) (aN st) .none kV doc pm an gi ct) ⟨us,[]⟩=pure (ps.zip us):=by first|exact λ_ _ _ _ _ _=>u1 λ_=>rfl|exact λ_ _ _ _ _ _=>u2 λ_ _=>rfl|exact λ_ _ _ _ _ _=>u3 λ_ _ _=>rfl|exact λ_ _ _ _ _ _=>u4 λ_ _ _ _=>rfl|exact λ_ _ _ _ _ _=>u5 λ_ _ _ _ _=>rfl):iO P w K mg base (k+1) C x mr:=by
 obtain⟨f,fd,Fu,a⟩:=d;obtain⟨h1,h2⟩:=aL hc;exact⟨f,fd,ps,Nb Fu (zg h1) h2 Wn hp.1 hp.2 (cm.mem vB) (cm.two (P:=λy i=>∃u,mg y=some u/\yn K i u) mT) (cm.tab (P:=λg y=>Ent P w K mg base k y (Φ g)) hf) (cm.tab (P:=λg y=>(∃ds,Ψ g ds)->iO P w K mg base k C y (Ψ g)) Ml) O hm,aa_ X G a,Fu.kp,Fu.binds hb,λds q=>(hm ds q).1⟩
noncomputable def XY(y:Str):Str->Option Bool:=λx=>if x=y then some true else none
def YW(sc:Scope)(N:ao)(share y ex kept:Str)(i j:Nat):Bool:=(fV sc share&&!(share==("__debug__" : Str)))&&((fV sc y&&!(y==("__debug__" : Str)))&&(fV sc "isinstance" && (decide (N[i]?=some ex)&&(decide (N[j]?=some kept)&&(decide (kept≠ex)&&(decide (sc.names.lookup ex=some .local)&&(decide (sc.names.lookup kept=some .local)&&(xT ex&&xT kept))))))))
theorem enT{share ex kept y:Str}(hO:qd share B mg base)(OS:mB C B base)(xc:XC K C)(ni:mg "isinstance" = none)(hy:mg y=some (.ref C))(vC:PySem.W.kitOne K (.ref C) (.ref C)=some true){IS:Stmt}{ie:Expr}{j1:Nat}{q1 q2 q3 np p1 p2 p3 hpos pos rp:Pos}{c:CS}(n i j k:Nat)(Φ:aT)(Ψ:Nat->aa->Prop)(m:aw)(d:Df K x st)(hsc:T9 N ps (aN st)=true)(hn:YW (aN st) N share y ex kept i j=true)
  (Ma:bJ st=[.Assign [.Name kept q1] (.Constant .none j1 q2) q3,.Try [IS] [.ExceptHandler (some (.Name share np)) (some ex) [.Assign [.Name kept p1] (.Name ex p2) p3] hpos] [] [] pos,.Return (some ie) rp]/\pW ⟨aN st,N,λn=>List.lookup n tb,bl,cs,px⟩ c IS=true/\Dm kept (XY y) ie=some true/\FN c=true)
  (hp:qc px Φ/\Ft px Φ) (vB:cm (λy=>mg y=none) bl) (mT:cm (λp:Str×GK=>∃u,mg p.1=some u/\yn K p.2 u) cs)
  (hf:cm (λp:Nat×Str=>Ent P w K mg base k p.2 (Φ p.1)) tb) (Ml:cm (λp:Nat×Str=>(∃ds,Ψ p.1 ds)->iO P w K mg base k C p.2 (Ψ p.1)) tb)
  (hm:∀ds r,m ds=ok r->r=.bl true/\ds.length=ps.length/\qm Φ Ψ n c ((ds.map some++List.replicate (N.length - ds.length) none).set j (some .bV))) (hb:∀(kV doc pm:Value) (an:Option Addr) (gi ct:Value) (us:av),us.length=ps.length->bindArgs (PySem.W.fnOf x x (eU st) (bJ st) (aN st) .none kV doc pm an gi ct) ⟨us,[]⟩=pure (ps.zip us):=by first|exact λ_ _ _ _ _ _=>u1 λ_=>rfl|exact λ_ _ _ _ _ _=>u2 λ_ _=>rfl|exact λ_ _ _ _ _ _=>u3 λ_ _ _=>rfl|exact λ_ _ _ _ _ _=>u4 λ_ _ _ _=>rfl|exact λ_ _ _ _ _ _=>u5 λ_ _ _ _ _=>rfl):Ent P w K mg base (k+1) x m:=by
 obtain⟨f,fd,Fu,a⟩:=d;obtain⟨s1,s2,s3,s4⟩:=Ma;obtain⟨n1,hn⟩:=aL hn;obtain⟨n2,hn⟩:=aL hn;obtain⟨n3,hn⟩:=aL hn;obtain⟨n4,hn⟩:=aL hn;obtain⟨n5,hn⟩:=aL hn;obtain⟨n6,hn⟩:=aL hn;obtain⟨n7,hn⟩:=aL hn;obtain⟨n8,hn⟩:=aL hn;obtain⟨n9,n10⟩:=aL hn;obtain⟨n2,n2'⟩:=aL n2;refine⟨f,fd,ps,BK Fu (zg hsc) s1 hO OS n1 (aad n4) (aad n5) (aad n6) (aad n7) (aad n8) n9 n10 hp.1 (cm.mem vB) (cm.two (P:=λy i=>∃u,mg y=some u/\yn K i u) mT) (cm.tab (P:=λg y=>Ent P w K mg base k y (Φ g)) hf) (cm.tab (P:=λg y=>(∃ds,Ψ g ds)->iO P w K mg base k C y (Ψ g)) Ml) s4 s2 (λX L e1 e2=>?_) s3 hm,aa_ X G a,Fu.kp,Fu.binds hb,λds r q=>(hm ds r q).2.1⟩;subst e1 e2;refine⟨xc,L.gl n3,ni,λz b hz p=>?_⟩;unfold XY at hz;split at hz
 ·rename_i e;subst e;cases hz;exact⟨.ref C,.ref C,sR (L.gl n2) hy rfl (je n2'),λu z=>z,vC⟩
 ·cases hz
end
end DI
end
namespace PySem.W.Fast
def tw13117057663861671307:=0
def tw4352945540107069610:=0
def tw5391683103078470533:=0
def tw14962734319157687276:=0
def tw8867625608422510507:=0
def tw6600791891426519855:=0
def tw6990671339058660698:=0
def tw323047453493538456:=0
def tw11955320466123853376:=0
def tw10624924815399225428:=0
def tw2112566435202079827:=0
def tw12409260876474856688:=0
def tw15787197720039410690:=0
def tw7145697437087471871:=0
def tw17878373271583860167:=0
def tw4710908858974195124:=0
def tw4155178211082459652:=0
def tw12627954744067893478:=0
def tw12928791119450432408:=0
def tw6657796192720978975:=0
def tw12895605883858880022:=0
def tw223020361540166606:=0
def tw12811428876301919033:=0
def tw1697290339187837474:=0
def tw6947960410032057243:=0
def tw13074686523007816711:=0
def tw10697380982005951355:=0
def tw12798839384033170495:=0
def tw5756110262962504752:=0
def tw9989123112369703641:=0
def tw4912152438867696066:=0
def tw10168114359751224891:=0
def tw16328177995336870705:=0
def tw14503197212817835112:=0
def tw10290465658222349462:=0
def tw17503198231252358566:=0
def tw10413649964509451595:=0
def tw10273531748678821250:=0
def tw16428031225109628004:=0
def tw6596577481821841284:=0
def tw2423980499827950442:=0
def tw10703764215378516073:=0
def tw10835548245191394170:=0
def tw18050958672080856911:=0
def tw3195438364996589023:=0
def tw18137553522841361305:=0
def tw9006893399717062611:=0
def tw16330813119254920003:=0
def tw17031377143796220555:=0
def tw14354884259310741589:=0
def tw6970218392252152543:=0
def tw12467033068955972682:=0
def tw5764282994181794934:=0
def tw10182931844152879252:=0
def tw13983715130196607847:=0
def tw7706954151939168213:=0
def tw11266322833171150497:=0
def tw8064721145168460296:=0
def tw14115908430375414839:=0
def tw11250887953220848703:=0
def tw3359720785742753820:=0
def tw933794083270744141:=0
def tw13598027382732926263:=0
def tw13010116330729903901:=0
def tw3871200251873522226:=0
def tw3635000858941208709:=0
def tw17387857022224574420:=0
def tw8267150318022472205:=0
def tw5970719108671290233:=0
def tw8980846656739906352:=0
def tw14597780256285258126:=0
def tw5309956327265082798:=0
def tw5109421778459485376:=0
def tw16317581701104929469:=0
def tw18139137226415053117:=0
def tw918497955834687265:=0
def tw5601662344864266934:=0
def tw10757723662014193978:=0
def tw14698431205087580665:=0
def tw10075170161621953678:=0
def tw430313309275042630:=0
def tw10628439716415915103:=0
def tw12214348123076897720:=0
def tw6214182307930758381:=0
def tw11972392331959976457:=0
def tw7302863607307271471:=0
def tw6216828569918918252:=0
def tw16662018199551691013:=0
def tw13919828957579532757:=0
def tw2160005806259413385:=0
def tw1582501879948446841:=0
def tw9167417671945587113:=0
def tw15091631273242179283:=0
def tw11139032858994107598:=0
def tw12798759604283532112:=0
def tw14710937920252013485:=0
def tw15973247570441006764:=0
def tw12602421394225091428:=0
def tw196520630408104404:=0
def tw5832663129905953491:=0
def tw9720688564418003558:=0
def tw9806568811211835156:=0
def tw6968730368777140076:=0
def tw9497236777847466553:=0
def tw593197212878908764:=0
def tw6702577137049883798:=0
def tw5479224933423266380:=0
def tw330224325663072952:=0
def tw16565761395015573172:=0
def tw3268239000923604249:=0
def tw4883064780452564029:=0
def tw6195139981743864477:=0
def tw4959262539191324991:=0
def tw8381431773795888943:=0
def tw3857085028247781489:=0
def tw14249952508582761176:=0
def tw4191660740128514553:=0
def tw6051741339703794454:=0
def tw10919972731378700129:=0
def tw12478866762960295190:=0
def tw15748127865618750508:=0
def tw14432498844096482586:=0
def tw1764291281003744454:=0
def tw10646770782061131016:=0
def tw213002612589253837:=0
def tw8288564566300642920:=0
def tw12401826060463307358:=0
def tw8561526277982908433:=0
def tw15803994245964897940:=0
def tw18177830266189312740:=0
def tw5724377953798899550:=0
def tw3806980824039251244:=0
def tw12884520171960587618:=0
def tw11109613203235090492:=0
def tw12203790568214050487:=0
def tw16700057263412858595:=0
def tw12870388743399648583:=0
def tw6126046696220459599:=0
def tw15069193010624465400:=0
def tw13607098851748736634:=0
def tw2127250037679297178:=0
def tw16894254104695960933:=0
def tw3216434949156381798:=0
def tw6148127027084073695:=0
def tw5780682141012833055:=0
def tw15177232559727436015:=0
def tw11144601043558554349:=0
def tw14890131134367644890:=0
def tw3629039355273637388:=0
def tw9089091184796383874:=0
def tw2019904852189682046:=0
def tw11413344101342016274:=0
def tw6972250160824353943:=0
def tw7348664345694673032:=0
def tw16053613988364461421:=0
def tw8958291054096788788:=0
def tw15854240278643844334:=0
def tw3631770789941649063:=0
def tw13007045654442483585:=0
def tw16931695698317685542:=0
def tw13958406596083978774:=0
def tw6201234399761611807:=0
def tw14093937030790916976:=0
def tw16572530052741503887:=0
def tw10543701731206731769:=0
def tw1832559981374751947:=0
def tw6740584762845065114:=0
def tw9699464080404081401:=0
def tw16569274107262444247:=0
def tw8729884007631052475:=0
def tw11553211113354404340:=0
def tw12995987446220355497:=0
def tw8151013761561372985:=0
def tw4298491599646571959:=0
def tw12392849148867849736:=0
def tw14709860426115897259:=0
def tw9244184013230084760:=0
def tw5996319113682332938:=0
def tw8810341888268398961:=0
def tw16460314432249125751:=0
def tw17643289825969728108:=0
def tw2848549260445268560:=0
def tw226980128545426914:=0
def tw15033797712881881389:=0
def tw9214698048466083163:=0
def tw17438205974354420909:=0
def tw10207029013348802872:=0
def tw13459738478270016010:=0
def tw4629374924435202158:=0
def tw3932081051714521453:=0
def tw10031501280399228454:=0
def tw3768325256588656614:=0
def tw11812593609314389433:=0
def tw5016051266296933424:=0
def tw9114849587240131427:=0
def tw17505002935530014790:=0
def tw18335707700608214931:=0
def tw1462389392130414935:=0
def tw13914438799932100032:=0
end PySem.W.Fast
namespace Asm
open PySem PySem.Spec PyProof.Rows L2 DI
noncomputable def top(i:Nat):Stmt:=PySem.Challenge.pw_sharesample_k25_whole_guessed_spreads.main.body.getD i (.Pass ⟨0,0,0,0⟩)
def px:Px:=⟨λn sc bl e=>if n=1017 then fg "sorted" sc bl e else if n=1020 then mi true sc bl e else if n=1022 then zG sc bl e else if n=1023 then mi true sc bl e else if n=1030 then tV sc bl e else if n=1031 then n_ sc bl e else if n=1032 then xZ sc bl e else if n=1035 then fg "sorted" sc bl e else if n=1040 then zF sc bl e else if n=1042 then zH "len" "set" sc bl e else if n=1043 then Ex false sc bl e else if n=1044 then tU sc bl e else if n=1045 then Ex true sc bl e else none,λn sc bl e=>if n=1000 then js sc bl e else if n=1002 then fg "enumerate" sc bl e else if n=1100 then EE sc bl e else none,λn sc bl e=>if n=1013 then xX sc bl e else if n=1033 then nZ sc bl e else none⟩
noncomputable def PT:aT
 |1000=>FC
 |1002=>tQ
 |1013=>xJ
 |1017=>oM
 |1020=>(cutD true)
 |1022=>Ow
 |1023=>vS
 |1030=>Ei
 |1031=>vQ
 |1032=>Em
 |1033=>vO
 |1035=>pN
 |1040=>Qn
 |1042=>Dc
 |1043=>YT
 |1044=>Hk
 |1045=>TF
 |1100=>pP
 |_=>λ_=>none
theorem pr(F:aT)(i:Nat)(m:aw):qc px (xm PT F i m)/\Ft px (xm PT F i m):=⟨⟨(λX sc bl k L p e args he F cs hs=>AL he (λhe=>BX rfl L he hs) λhe=>AL he (λhe=>NA rfl L he hs) λhe=>AL he (λhe=>RW rfl L he hs) λhe=>AL he (λhe=>Ib rfl L he hs) λhe=>AL he (λhe=>HX rfl L he hs) λhe=>AL he (λhe=>H_ rfl L he hs) λhe=>AL he (λhe=>Nx rfl L he hs) λhe=>AL he (λhe=>Eg rfl L he hs) λhe=>AL he (λhe=>Qm rfl L he hs) λhe=>AL he (λhe=>LC rfl L he hs) λhe=>AL he (λhe=>Jl rfl L he hs) λhe=>AL he (λhe=>L5 rfl L he hs) λhe=>AL he (λhe=>Jl rfl L he hs) λhe=>nomatch he),(λX sc bl k L p e args he F cs tg ht hs pins s σ H R τ ρ xs d items I Si cn ed ei Rr hR=>by
  dsimp only[px]at he;by_cases hp:p=1000
  ·subst hp;rw[if_pos rfl]at he;exact JY rfl L he ht hs I Si cn ed ei Rr hR
  rw[if_neg hp]at he;clear hp;by_cases hp:p=1002
  ·subst hp;rw[if_pos rfl]at he;exact Eb rfl L he ht hs I Si cn ed ei Rr hR
  rw[if_neg hp]at he;clear hp;by_cases hp:p=1100
  ·subst hp;rw[if_pos rfl]at he;exact Ej rfl L he ht hs I Si cn ed ei Rr hR
  rw[if_neg hp]at he;clear hp;cases he)⟩,⟨(λX sc bl k L hN wq p st x pos args he i hi hl pe F cs hs=>Zf he (λhe=>M9 rfl L hN wq he hi hl pe hs) λhe=>Zf he (λhe=>HW rfl L hN wq he hi hl pe hs) λhe=>nomatch he)⟩⟩
noncomputable def xt(F:aT)(i a b:Nat)(c:ag):aT:=xm PT F i (mk F a b c)
noncomputable def BL:ao:=["abs","all","bool","enumerate","int","isinstance","len","list","range","set","sorted","sum","tuple","zip"]
noncomputable def CC:List (Str×GK):=[("MOST_HOUSES",GK.i 12)]
noncomputable def kG:aT:=xm PT PT 0 λ_=>none
noncomputable def mF:aT:=xt kG 201 2 4 (lB)
noncomputable def jC:aT:=xt mF 202 2 2 (zM 201)
noncomputable def kI:aT:=xt jC 239 2 2 (oo)
noncomputable def gR:aT:=xt kI 200 2 4 (fh)
noncomputable def kH:aT:=xt gR 212 3 10 (jW)
noncomputable def kF:aT:=xt kH 238 2 9 (pZ)
noncomputable def mE:aT:=xt kF 230 2 4 (oj)
noncomputable def jA:aT:=xt mE 203 2 2 (jT 201)
noncomputable def ck:aT:=xt jA 213 1 8 (lz)
noncomputable def kJ:aT:=xt ck 57 1 3 (iE)
noncomputable def iN:aT:=xt kJ 0 1 1 (iB)
noncomputable def qh:aT:=xt iN 43 2 2 (dz)
noncomputable def jE:aT:=xt qh 11 2 2 (h_)
noncomputable def eQ:aT:=xt jE 58 2 2 (ua)
noncomputable def eP:aT:=xt eQ 55 1 1 (oh)
noncomputable def gT:aT:=xt eP 1 2 3 (dw)
noncomputable def fA:aT:=xt gT 3 1 1 (bY)
noncomputable def gf:aT:=xt fA 40 2 2 (cB)
noncomputable def eY:aT:=xt gf 47 2 2 (iD 40 4)
noncomputable def mG:aT:=xt eY 2 2 3 (cZ)
noncomputable def fj:aT:=xt mG 7 2 2 (EM 2)
noncomputable def jy:aT:=xt fj 9 1 3 (cX)
noncomputable def kD:aT:=xt jy 10 2 2 (gD)
noncomputable def iL:aT:=xt kD 41 1 2 (iA)
noncomputable def iM:aT:=xt iL 42 1 2 (fI)
noncomputable def gU:aT:=xt iM 6 2 2 (jT 2)
noncomputable def jD:aT:=xt gU 61 2 2 (ub)
noncomputable def iH:aT:=xt jD 5 2 2 (mn 2)
noncomputable def kL:aT:=xt iH 62 2 2 (lu)
noncomputable def qg:aT:=xt kL 64 3 6 (zO)
noncomputable def jz:aT:=xt qg 12 2 2 (lD)
noncomputable def f9:aT:=xt jz 44 1 3 (gE)
noncomputable def gM:aT:=xt f9 14 1 4 (jS)
noncomputable def kK:aT:=xt gM 15 1 2 (eV)
noncomputable def iJ:aT:=xt kK 45 1 4 (iC)
noncomputable def fq:aT:=xt iJ 16 1 1 (fH)
noncomputable def gS:aT:=xt fq 17 1 1 (dN)
noncomputable def gN:aT:=xt gS 19 3 4 (om)
noncomputable def f_:aT:=xt gN 21 1 4 (jU)
noncomputable def iK:aT:=xt f_ 59 1 4 (t_)
noncomputable def jF:aT:=xt iK 69 3 5 (Im)
noncomputable def fm:aT:=xt jF 60 1 3 (ud)
noncomputable def gF:aT:=xt fm 46 2 2 (iD 40 3)
noncomputable def dt:aT:=xt gF 63 4 6 (og)
noncomputable def gO:aT:=xt dt 68 4 6 (yd)
noncomputable def jB:aT:=xm PT gO 211 C_
noncomputable def kE:aT:=xt jB 231 3 5 (lA)
noncomputable def mD:aT:=xt kE 232 3 6 (oi)
noncomputable def iI:aT:=xt mD 222 2 2 (mn 201)
noncomputable def EW:aT:=xt iI 237 3 8 (jV)
def OH:Nat->aa->Prop
 |57=>Ux
 |68=>Uw
 |_=>λ_=>False
def wN:=Gk kG
def BQ:=Pt mF (f:=201) wN
def U8:=Gn jC
def Kf:=KG kI
def Ve:=Ao gR ⟨rfl,rfl,rfl,rfl,rfl,rfl⟩ Kf wN
def U9:=KC kH Kf wN rfl rfl
def Vb:=Gj kF wN
def F3:=yF mE (f:=201) wN
def Vd:=B8 jA BQ
def YA:=Gp ck
def t0:=wX kJ
def YC:=sH iN t0
def YG:=Cb qh YC
def Yz:=KD jE YG rfl
def t55:=Gh eQ rfl
def t1:=lR eP
def t3:=qx gT t0 t1
def YE:=nj fA t3
theorem YB:jY 4 lE (eY 47):=yG gf (f:=40) r9 YE
def t2:=qy eY t1
def t7:=s_by mG (f:=2) t2
def t9:=m_ fj t1
def YH:=uO jy
def t41:=wW kD t9 YH
def YD:=sG iL t2 t41
def t6:=yF iM (f:=2) t2.1
def Yy:=KH gU t6
def t5:=B_ jD (f:=2) t2.1
def S5:=B7 iH
def t64:=Pu kL t5 t6 t7 Yy S5
def t12:=Ca qg t3 YC
def t44:=uP jz rfl rfl rfl
def YF:=Am f9 t9 YH rfl
def t15:=qw gM YF
def t45:=wY kK t0 t12 t15 t44
def t16:=sF iJ YG t45
def t17:=nc fq t16
def t19:=Gm gS t2
def Vg:=An gN YF t17 t19
def t59:=Kz f_ rfl rfl rfl
def t69:=Cc iK t7 Vg YD YB t55 YA Yz t59 S5 t64
def t60:=Gq jF rfl
theorem t46:jY 3 lE (gF 46):=yG fm (f:=40) r9 YE
def t63:=Gg gF t5 t6 Yy S5
def t68:=B6 dt t7 Vg YD t46 YB YA Yz t60 S5 t63
noncomputable def Vf:=Gf
def Pe:=B9 jB BQ F3
def Va:=Gi kE BQ F3 Pe
def Vc:=B_ mD (f:=201) wN
def U_:=KA iI BQ F3 Vc Pe Va
theorem AB:∀ns:ae,(mk EW 1 14 (lC)) [.lst .sc (ah ns)]=ok (.bl true):=Qt EW ⟨t68,t69,BQ,F3,U8⟩ Kf wN Vf Ve Vd Vb U_ U9 rfl
theorem j3:z9 (fV (aN (top 40)) "NoPair" && !(("NoPair" : Str)==("__debug__" : Str))) 6 "NoPair" (iE) (bJ (top 40))=true:=by decide +kernel
theorem fB:NF (top 40) ["pairs","line","share"] (List.take 1 ["pairs","line","share"]) [] BL CC px (iE)=true:=by decide +kernel
theorem mY:z9 (fV (aN (top 48)) "NoPair" && !(("NoPair" : Str)==("__debug__" : Str))) 6 "NoPair" (yd) (bJ (top 48))=true:=by decide +kernel
theorem iW:NF (top 48) ["drawing","weights","lot","worths","pairs","parts"] (List.take 4 ["drawing","weights","lot","worths","pairs","parts"]) [(7,"frac_by"),(21,"pair_shares"),(42,"frac_total"),(46,"check_weights"),(47,"check_worths"),(57,"check_all_shared"),(58,"check_lot"),(60,"all_pairs"),(62,"pair_share"),(63,"pair_part")] BL CC px (yd)=true:=by decide +kernel
theorem pB:T9 ["_law_drawing_here","_law_lot","_law_weights","_law_worths","_law_which","_law_kept","e"] ["_law_drawing_here","_law_lot","_law_weights","_law_worths","_law_which"] (aN (top 63))=true:=by decide +kernel
theorem o3:YW (aN (top 63)) ["_law_drawing_here","_law_lot","_law_weights","_law_worths","_law_which","_law_kept","e"] "ShareError" "NoPair" "e" "_law_kept" 6 5=true:=by decide +kernel
theorem pV:∃IS ie j1 q1 q2 q3 np p1 p2 p3 hpos pos rp,bJ (top 63)=[.Assign [.Name "_law_kept" q1] (.Constant .none j1 q2) q3,.Try [IS] [.ExceptHandler (some (.Name "ShareError" np)) (some "e") [.Assign [.Name "_law_kept" p1] (.Name "e" p2) p3] hpos] [] [] pos,.Return (some ie) rp]/\pW ⟨aN (top 63),["_law_drawing_here","_law_lot","_law_weights","_law_worths","_law_which","_law_kept","e"],λn=>List.lookup n [(68,"spread_guess"),(69,"gaps_guess")],BL,CC,px⟩ NH IS=true/\Dm "_law_kept" (XY "NoPair") ie=some true/\FN NH=true:=⟨_,_,_,_,_,_,_,_,_,_,_,_,_,rfl,by decide +kernel,by decide +kernel,rfl⟩
theorem ND:NF (top 65) ["_law_script","_law_number","_law_drawing_here","_law_even_here","_law_many","_law_weights","_law_worths","_law_pairs_here","_law_mean_here","_law_gaps","_law_chance","_law_lot","_law_found","_law_right"] ["_law_script"] [(68,"spread_guess"),(69,"gaps_guess"),(200,"_law_cell"),(201,"_law_frac"),(202,"_law_add"),(203,"_law_mul"),(211,"_law_refused"),(212,"_law_drawing"),(213,"_law_pairs"),(230,"_law_list"),(237,"_law_spread"),(238,"_law_even"),(239,"_law_blind")] BL CC px (lC)=true:=by decide +kernel
theorem all_mk{l:PySem.W.OpenLaw}{w:World}{K:au}{h:Heap}{mg:aU}{fa gB gC:Addr}{u0:Value}(X:K.In h)(G:h.Ns mainGlobals mg)(hfa:mg "law" = some (.ref fa))
  (a0:Df K "_law_frac" (top 52))
  (a1:Df K "_law_add" (top 53))
  (a2:Df K "_law_blind" (top 64))
  (a3:Df K "_law_cell" (top 51))
  (a4:Df K "_law_drawing" (top 56))
  (a5:Df K "_law_even" (top 62))
  (a6:Df K "_law_list" (top 57))
  (a7:Df K "_law_mul" (top 54))
  (a8:Df K "_law_pairs" (top 58))
  (a9:Df K "check_all_shared" (top 40))
  (a10:Df K "is_whole" (top 10))
  (a11:Df K "are_houses" (top 24))
  (a12:Df K "is_lot" (top 25))
  (a13:Df K "check_lot" (top 41))
  (a14:Df K "check_one_size" (top 39))
  (a15:Df K "common_divisor" (top 11))
  (a16:Df K "is_fraction" (top 13))
  (a17:Df K "are_fractions" (top 14))
  (a18:Df K "check_worths" (top 37))
  (a19:Df K "fraction_of" (top 12))
  (a20:Df K "frac_by" (top 17))
  (a21:Df K "common_bottom" (top 18))
  (a22:Df K "tops_over" (top 19))
  (a23:Df K "over_one" (top 20))
  (a24:Df K "frac_total" (top 21))
  (a25:Df K "frac_times" (top 16))
  (a26:Df K "both_shares" (top 44))
  (a27:Df K "frac_less" (top 15))
  (a28:Df K "pair_share" (top 45))
  (a29:Df K "gap_part" (top 47))
  (a30:Df K "is_row" (top 26))
  (a31:Df K "rows_rise" (top 27))
  (a32:Df K "weighed_lots" (top 28))
  (a33:Df K "sums_to_one" (top 29))
  (a34:Df K "is_drawn" (top 30))
  (a35:Df K "is_drawing" (top 31))
  (a36:Df K "check_drawing" (top 32))
  (a37:Df K "joint_share" (top 33))
  (a38:Df K "pair_shares" (top 34))
  (a39:Df K "rising_pairs" (top 42))
  (a40:Df K "gaps_guess" (top 49))
  (a41:Df K "all_pairs" (top 43))
  (a42:Df K "check_weights" (top 36))
  (a43:Df K "pair_part" (top 46))
  (a44:Df K "spread_guess" (top 48))
  (a45:Df K "_law_refused" (top 63))
  (a46:Df K "_law_guess" (top 59))
  (a47:Df K "_law_mean" (top 60))
  (a48:Df K "_law_sub" (top 55))
  (a49:Df K "_law_spread" (top 61))
  (a50:Df K "law" (top 65))
  (z:cm (λy=>PySem.W.nsIn K mainGlobals y=some none) BL)
  (q0:PySem.W.nsIn K mainGlobals "MOST_HOUSES" = some (some u0)) (r0:RelV (.int 12) u0)
  (eB:PySem.W.nsIn K mainGlobals "ShareError" = some (some (.ref gB))) (eC:PySem.W.nsIn K mainGlobals "NoPair" = some (some (.ref gC))) (xB:PySem.W.excIn K gB J4 "ValueError.__new__" = true) (xC:PySem.W.excIn K gC J4 "ValueError.__new__" = true) (mC:PySem.W.mroIn K gC (.ref gB)=some true) (nC:gC≠gB) (vC:PySem.W.kitOne K (.ref gC) (.ref gC)=some true)
  (w1:PySem.W.findIn K (.ref gC) "__getattribute__" = some (some (.builtin "BaseException.__getattribute__"))) (w2:PySem.W.findIn K (.ref gC) "__getattr__" = some none) (w3:PySem.W.findIn K (.ref gC) "__class__" = some (some (.builtin "object.__class__"))) (w4:PySem.W.mroIn K gC (.type "BaseException")=some true) (w5:PySem.W.mroIn K gC (.type "object")=some true) :
  ∃fd:FuncData,(∀(s:Shared) (v:Value),BindsTo s fd ⟨[v],[]⟩ [("_law_script",v)])/\∀base:Heap,K.In base->base.Ns mainGlobals mg->gL l.prog w K mg base z5 52 fa fd ["_law_script"] (EY K 1 sZ):=by
 obtain⟨f,fd,Fu,a⟩:=a50;have e:=hfa.symm.trans (aa_ X G a);cases e;obtain⟨oc,od,kV,dc,pm,an,cd,ct,sl,rfl,_,_⟩:=id Fu.ex;have Y:=cm.nn X G z;have x0:∃u,mg "MOST_HOUSES" = some u/\yn K (GK.i 12) u:=⟨_,aa_ X G q0,r0⟩
 refine⟨PySem.W.fnOf "law" "law" (eU (top 65)) (bJ (top 65)) (aN (top 65)) .none kV dc pm an cd ct,λs v=>.of_eq rfl,λbase KB GB=>?_⟩;have N:=@en7 l.prog w K h base mg BL CC px PT X G pr Y ⟨x0,dX⟩;have xc:XC K gC:=⟨w1,w2,w3,w4,w5,by
  unfold PySem.W.mroIn at w5;cases q:PySem.W.clsIn K gC with
  |none=>rw[q]at w5;cases w5
  |some _=>rfl⟩
 have O:qd "NoPair" gC mg base:=yS KB GB eC xC;have OB:qd "ShareError" gB mg base:=yS KB GB eB xB;have OS:mB gC gB base:=As KB xC mC nC;have E0:=N 1 kG a0 ["_law_top","_law_bottom","_law_one","_law_other"] 2 [] (lB) dX;have E1:=N 2 mF a1 ["_law_one","_law_other"] 2 [(201,"_law_frac")] (zM 201) ⟨E0.u,dX⟩;have E2:=N 3 jC a2 ["_law_lot","_law_worths"] 2 [] (oo) dX;have E3:=N 4 kI a3 ["_law_script","_law_k","_law_cell_here","_law_number"] 2 [] (fh) dX;have E4:=N 5 gR a4 ["_law_script","_law_at","_law_most","_law_number","_law_many","_law_lots","_law_k","_law_other","_law_lot","_law_whole"] 3 [(200,"_law_cell"),(201,"_law_frac")] (jW) ⟨E3.u,E0.u,dX⟩;have E5:=N 6 kH a5 ["_law_script","_law_at","_law_number","_law_size","_law_many","_law_lots","_law_code","_law_lot","_law_weights"] 2 [(200,"_law_cell"),(201,"_law_frac")] (pZ) ⟨E3.u,E0.u,dX⟩;have E6:=N 7 kF a6 ["_law_number","_law_many","_law_found","_law_k"] 2 [(201,"_law_frac")] (oj) ⟨E0.u,dX⟩;have E7:=N 8 mE a7 ["_law_one","_law_other"] 2 [(201,"_law_frac")] (jT 201) ⟨E0.u,dX⟩;have E8:=N 9 jA a8 ["_law_drawing_here","_law_found","_law_house","_law_row","_law_other","_law_share","_law_chance","_law_lot"] 1 [(202,"_law_add")] (lz) ⟨E1.u,dX⟩;have E9:=N 10 ck a9 ["pairs","line","share"] 1 [] (iE) dX fB;have X9:=ZU (P:=l.prog) (w:=w) X G O 6 10 ck OH Ux a9 fB j3 (pr _ _ _) Y ⟨x0,dX⟩ dX dX (XD ck OH);have Yn:=N 11 kJ a10 ["thing"] 1 [] (iB) dX;have E11:=N 12 iN a11 ["thing","many"] 2 [(0,"is_whole")] (dz) ⟨Yn.u,dX⟩;have E12:=N 13 qh a12 ["thing","many"] 2 [(43,"are_houses")] (h_) ⟨E11.u,dX⟩;have Ym:=N 14 jE a13 ["thing","drawing"] 2 [(11,"is_lot")] (ua) ⟨E12.u,dX⟩;have E14:=N 15 eQ a14 ["drawing"] 1 [] (oh) dX;have Yk:=N 16 eP a15 ["one","other","rest"] 2 [] (dw) dX;have E16:=N 17 gT a16 ["thing"] 1 [(0,"is_whole"),(1,"common_divisor")] (bY) ⟨Yn.u,Yk.u,dX⟩;have E17:=N 18 fA a17 ["thing","many"] 2 [(3,"is_fraction")] (cB) ⟨E16.u,dX⟩;have Yj:=N 19 gf a18 ["thing","many"] 2 [(40,"are_fractions")] (iD 40 4) ⟨E17.u,dX⟩;have SN:=N 20 eY a19 ["top","bottom","divisor"] 2 [(1,"common_divisor")] (cZ) ⟨Yk.u,dX⟩;have UG:=N 21 mG a20 ["one","other"] 2 [(2,"fraction_of")] (EM 2) ⟨SN.u,dX⟩;have E21:=N 22 fj a21 ["some","bottom","part"] 1 [(1,"common_divisor")] (cX) ⟨Yk.u,dX⟩;have E22:=N 23 jy a22 ["some","bottom"] 2 [] (gD) dX;have E23:=N 24 kD a23 ["some","bottom"] 1 [(9,"common_bottom"),(10,"tops_over")] (iA) ⟨E21.u,E22.u,dX⟩;have Yi:=N 25 iL a24 ["some","tops"] 1 [(2,"fraction_of"),(41,"over_one")] (fI) ⟨SN.u,E23.u,dX⟩;have Yh:=N 26 iM a25 ["one","other"] 2 [(2,"fraction_of")] (jT 2) ⟨SN.u,dX⟩;have E26:=N 27 gU a26 ["pairs","two"] 2 [(6,"frac_times")] (ub) ⟨Yh.u,dX⟩;have E27:=N 28 jD a27 ["one","other"] 2 [(2,"fraction_of")] (mn 2) ⟨SN.u,dX⟩;have SM:=N 29 iH a28 ["pairs","two"] 2 [] (lu) dX;have E29:=N 30 kL a29 ["pairs","two","worths","one","other","gap"] 3 [(5,"frac_less"),(6,"frac_times"),(7,"frac_by"),(61,"both_shares"),(62,"pair_share")] (zO) ⟨E27.u,Yh.u,UG.u,E26.u,SM.u,dX⟩;have E30:=N 31 qg a30 ["thing","many"] 2 [(3,"is_fraction"),(43,"are_houses")] (lD) ⟨E16.u,E11.u,dX⟩;have E31:=N 32 jz a31 ["rows","ahead","behind"] 1 [] (gE) dX;have E32:=N 33 f9 a32 ["rows","chances","lots","bottom"] 1 [(9,"common_bottom"),(10,"tops_over")] (jS) ⟨E21.u,E22.u,dX⟩;have E33:=N 34 gM a33 ["rows","weighed"] 1 [(14,"weighed_lots")] (eV) ⟨E32.u,dX⟩;have E34:=N 35 kK a34 ["thing","many","rows","row"] 1 [(0,"is_whole"),(12,"is_row"),(15,"sums_to_one"),(44,"rows_rise")] (iC) ⟨Yn.u,E30.u,E33.u,E31.u,dX⟩;have E35:=N 36 iJ a35 ["thing"] 1 [(11,"is_lot"),(45,"is_drawn")] (fH) ⟨E12.u,E34.u,dX⟩;have E36:=N 37 fq a36 ["thing"] 1 [(16,"is_drawing")] (dN) ⟨E35.u,dX⟩;have E37:=N 38 gS a37 ["weighed","one","other","having"] 3 [(2,"fraction_of")] (om) ⟨SN.u,dX⟩;have Yg:=N 39 gN a38 ["drawing","weighed","pairs","one"] 1 [(14,"weighed_lots"),(17,"check_drawing"),(19,"joint_share")] (jU) ⟨E32.u,E36.u,E37.u,dX⟩;have E39:=N 40 f_ a39 ["houses","pairs","place","one"] 1 [] (t_) dX;have E40:=N 41 iK a40 ["drawing","lot","worths","pairs","parts"] 3 [(7,"frac_by"),(21,"pair_shares"),(42,"frac_total"),(47,"check_worths"),(55,"check_one_size"),(57,"check_all_shared"),(58,"check_lot"),(59,"rising_pairs"),(62,"pair_share"),(64,"gap_part")] (Im) ⟨UG.u,Yg.u,Yi.u,Yj.u,E14.u,E9.u,Ym.u,E39.u,SM.u,E29.u,dX⟩;have E41:=N 42 jF a41 ["houses","pairs","one"] 1 [] (ud) dX;have E42:=N 43 fm a42 ["thing","many"] 2 [(40,"are_fractions")] (iD 40 3) ⟨E17.u,dX⟩;have E43:=N 44 gF a43 ["pairs","two","weights","worths","one","other"] 4 [(5,"frac_less"),(6,"frac_times"),(61,"both_shares"),(62,"pair_share")] (og) ⟨E27.u,Yh.u,E26.u,SM.u,dX⟩;have E44:=N 45 dt a44 ["drawing","weights","lot","worths","pairs","parts"] 4 [(7,"frac_by"),(21,"pair_shares"),(42,"frac_total"),(46,"check_weights"),(47,"check_worths"),(57,"check_all_shared"),(58,"check_lot"),(60,"all_pairs"),(62,"pair_share"),(63,"pair_part")] (yd) ⟨UG.u,Yg.u,Yi.u,E42.u,Yj.u,E9.u,Ym.u,E41.u,SM.u,E43.u,dX⟩ iW;have X44:=ZU (P:=l.prog) (w:=w) X G O 6 45 dt OH Uw a44 iW mY (pr _ _ _) Y ⟨x0,dX⟩ ⟨UG.u,Yg.u,Yi.u,E42.u,Yj.u,E9.u,Ym.u,E41.u,SM.u,E43.u,dX⟩ ⟨Fc,Fc,Fc,Fc,Fc,λ_=>X9.u,Fc,Fc,Fc,Fc,dX⟩ (XB dt OH Vg λ_ h=>h);obtain⟨_,_,_,_,_,_,_,_,_,_,_,_,_,hT⟩:=pV;have E45:=enT (P:=l.prog) (w:=w) X G OB OS xc (Y.mem _ (by decide)) (aa_ X G eC) vC 6 6 5 46 gO OH C_ a45 pB o3 hT (pr _ _ _) Y ⟨x0,dX⟩ ⟨E44.u,E40.u,dX⟩ ⟨λ_=>X44.u,Fc,dX⟩ (Sa gO OH λ_ h=>h);have E46:=N 47 jB a46 ["_law_weights","_law_lot","_law_worths","_law_found","_law_house"] 3 [(202,"_law_add"),(203,"_law_mul")] (lA) ⟨E1.u,E7.u,dX⟩;have E47:=N 48 kE a47 ["_law_drawing_here","_law_weights","_law_worths","_law_found","_law_chance","_law_lot"] 3 [(202,"_law_add"),(203,"_law_mul"),(231,"_law_guess")] (oi) ⟨E1.u,E7.u,E46.u,dX⟩;have E48:=N 49 mD a48 ["_law_one","_law_other"] 2 [(201,"_law_frac")] (mn 201) ⟨E0.u,dX⟩;have E49:=N 50 iI a49 ["_law_drawing_here","_law_weights","_law_worths","_law_mean_here","_law_found","_law_chance","_law_lot","_law_gap"] 3 [(202,"_law_add"),(203,"_law_mul"),(222,"_law_sub"),(231,"_law_guess"),(232,"_law_mean")] (jV) ⟨E1.u,E7.u,E48.u,E46.u,E47.u,dX⟩;exact enL 51 EW sZ Fu ND (pr _ _ _) Y ⟨x0,dX⟩ ⟨E44.u,E40.u,E3.u,E0.u,E1.u,E7.u,E45.u,E4.u,E8.u,E6.u,E49.u,E5.u,E2.u,dX⟩ (C9 λns _=>(xi _ _ (AB ns)).2)
theorem walk{l:PySem.W.OpenLaw}{q:aE}{loose:ao}{XP:(aU)->Heap->Prop}{YP:World->Heap->Prop}{d:DefRec}{K:Params->au}(hn:l.most=some 63)(Rh:d.params.defaults=[])
  (hY:∀(w:World) (h:Heap),YP w h->(K w.params).In h)
  (F:∀(w:World) (mg:aU) (fa:Addr) (h:Heap),(K w.params).In h->h.Ns mainGlobals mg->mg d.name=some (.ref fa) ->
   ∃fd:FuncData,(∀(s:Shared) (u:Value),BindsTo s fd ⟨[u],[]⟩ [("_law_script",u)])/\∀base:Heap,(K w.params).In base->base.Ns mainGlobals mg->gL l.prog w (K w.params) mg base z5 52 fa fd ["_law_script"] (EY (K w.params) 1 sZ)) :
  PySem.W.WalkO q loose XP YP l.row.toRowW d [] (λf vs=>PySem.call f vs) :=
 L2.FF (n:=63) (k:=52) (x:="_law_script") (CX:=λ_=>z5) (sp:=λw=>EY (K w.params) 1 sZ) hn (by decide) Rh ⟨rfl,by decide,by decide⟩ hY F (λw H a ns hl hO hS=>LH (K w.params) H a ns sZ (G7 hl) hO hS) λ_ _ _ _ _ z=>z
end Asm
end
open PySem PySem.W PyProof.Rows
set_option maxRecDepth 100000 in
set_option maxHeartbeats 0 in
theorem PySem.Challenge.cw_sharesample_k25_whole_guessed_spreads_holds : PySem.Challenge.rw_sharesample_k25_whole_guessed_spreads.Holds := by
 w_on;o_law;k_head;(case hw=>w_witness2)
 k_fill
 refine Asm.walk (l:=PySem.Challenge.rw_sharesample_k25_whole_guessed_spreads) rfl rfl (fun w h Y=>PySem.W.kIn_of Y) ?F
 case F =>
  intro w mg fa h KX G hmg
  refine' Asm.all_mk KX G hmg ?a0 ?a1 ?a2 ?a3 ?a4 ?a5 ?a6 ?a7 ?a8 ?a9 ?a10 ?a11 ?a12 ?a13 ?a14 ?a15 ?a16 ?a17 ?a18 ?a19 ?a20 ?a21 ?a22 ?a23 ?a24 ?a25 ?a26 ?a27 ?a28 ?a29 ?a30 ?a31 ?a32 ?a33 ?a34 ?a35 ?a36 ?a37 ?a38 ?a39 ?a40 ?a41 ?a42 ?a43 ?a44 ?a45 ?a46 ?a47 ?a48 ?a49 ?a50 ?zz ?q0 ?r0 ?eB ?eC ?xB ?xC ?mC ?nC ?vC ?w1 ?w2 ?w3 ?w4 ?w5
  case a0 | a1 | a2 | a3 | a4 | a5 | a6 | a7 | a8 | a9 | a10 | a11 | a12 | a13 | a14 | a15 | a16 | a17 | a18 | a19 | a20 | a21 | a22 | a23 | a24 | a25 | a26 | a27 | a28 | a29 | a30 | a31 | a32 | a33 | a34 | a35 | a36 | a37 | a38 | a39 | a40 | a41 | a42 | a43 | a44 | a45 | a46 | a47 | a48 | a49 | a50 =>
   refine' DI.dmk ?x ?y ?z ?w
   case x | y | z | w=>k_is
  (case zz=>refine' ⟨?_,?_,?_,?_,?_,?_,?_,?_,?_,?_,?_,?_,?_,?_,trivial⟩ <;> show PySem.W.nsIn _ _ _ = some none <;> k_is)
  (case q0=>k_is);(case r0=>exact ⟨_,rfl⟩)
  (case eB=>k_is)
  (case eC=>k_is)
  (case xB=>k_exc)
  (case xC=>k_exc)
  (case mC=>k_is)
  (case nC=>decide)
  (case vC=>kit_is)
  (case w1=>k_is)
  (case w2=>k_is)
  (case w3=>k_is)
  (case w4=>k_is)
  (case w5=>k_is)
