import PyProof.Rows.All
import Wide.All
import OpenK.AllK
import Wide.FinOn
import Lean
import PyProof.EqAt
import PyProof.EqKinds
import PyProof.TupleCall
import PyProof.NeKinds
import KE.BitLaws
import PyProof.SumWalkG
import PyProof.ConsumeWalk
import PyProof.WalksMore
import KE.KSortedM
import PyProof.Rows.SetFrom
import PyProof.CompUse
import KE.KSortTup
import PyProof.DictRoadsH
import PyProof.DictKinds
import PyProof.ZipIter
import PyProof.DictIter
import PyProof.Rows.DictUnroll
import KE.KDictSum
import PyProof.ListRange
import PyProof.EnumMake
import PyProof.SliceList
import PyProof.CollectWalk
import PyProof.FactsAll.dict_keyiterator_1
import KE.KDictList
import PyProof.Draws
import PyProof.DictItems
import PyProof.DictItemsLoops
import PyProof.Rows.TupDisplay
import PySem.Challenge.RW_sharesample_k11_lines
set_option bootstrap.genMatcherCode false
set_option genSizeOf false
set_option genSizeOfSpec false
set_option Elab.async false
set_option linter.all false
set_option maxRecDepth 100000
local macro_rules | `(tactic| left) => `(tactic| first | assumption | exact Nat.zero_le _ | exact Int.natCast_nonneg _ | exact Int.ofNat_lt.mpr (by assumption) | exact Nat.le_of_lt (by assumption) | exact Nat.le_trans (by assumption) (by assumption) | exact Nat.lt_of_lt_of_le (by assumption) (by assumption) | lia | omega)
noncomputable section
abbrev Yj:=@PySem.wpAny_bind
abbrev Yk:=@PySem.wpAny_pure
abbrev Ym:=@PySem.Heap.get?_push_of_some
abbrev Yn:=@of_decide_eq_true
abbrev Yo:=@List.mem_cons_self
abbrev Yp:=@Bool.false_ne_true
abbrev Yq:=@List.mem_cons_of_mem
abbrev Yr:=@PySem.Heap.lt_size
abbrev Ys:=@Nat.le_refl
abbrev Yt:=@PySem.Heap.get?_push_size
abbrev Yu:=@Nat.lt_of_lt_of_le
abbrev Yv:=@Nat.ne_of_lt
abbrev Yw:=@List.getElem?_eq_getElem
abbrev Yx:=@List.mem_append_right
abbrev Yy:=@List.map_congr_left
abbrev Yz:=@List.mem_of_getElem?
abbrev YA:=@Nat.lt_succ_of_lt
abbrev YB:=@Option.some.inj
abbrev YC:=@PySem.wpAny_mono
abbrev YD:=@PySem.wpAny_holding
abbrev YE:=@PySem.wpAny_call_entry
abbrev YF:=@Nat.pow_le_pow_right
abbrev YG:=@Nat.lt_irrefl
abbrev YH:=@Nat.lt_of_le_of_lt
abbrev YI:=@PySem.Heap.SameBut.update
abbrev YJ:=@Nat.lt_succ_self
abbrev YK:=@PyProof.Rows.callWith_type1
abbrev YL:=@Nat.le_trans
abbrev YM:=@PySem.wpAny_setState_of
abbrev YN:=@List.mem_append_left
abbrev YO:=@PySem.wpAny_newObj_type
abbrev YQ:=@Nat.zero_le
abbrev YR:=@PySem.wpAny_Call_Name_kw
abbrev YS:=@List.nodup_nil
abbrev YT:=@List.mergeSort_perm
abbrev YU:=@Array.getElem?_eq_getElem
abbrev YV:=@if_pos
abbrev YW:=@PySem.wpAny_forIn_list
abbrev YX:=@Int.le_refl
abbrev YY:=@Int.mul_le_mul
abbrev YZ:=@PySem.wpAny_callSpecial?_slot
abbrev Y0:=@PySem.wpAny_truthy_bool
abbrev Y1:=@PySem.F.slot_dict_keyiterator_next
abbrev Y2:=@PySem.codeAny_builtin
abbrev Y3:=@Nat.ne_of_gt
abbrev Y4:=@List.getElem_mem
abbrev Y5:=@PySem.Heap.get?_update_self
abbrev Y6:=@Nat.lt_or_eq_of_le
abbrev Y7:=@Classical.byContradiction
abbrev Y8:=@Nat.le_succ
abbrev Y9:=@PyProof.Rows.callWith_builtin1
abbrev Y_:=@Int.mul_le_mul_of_nonneg_right
abbrev Za:=@PySem.wpAny_typeNameOfWhole_keyiter
abbrev Zb:=@PySem.mem_of_lookup
abbrev Zc:=@PySem.wpAny_setField
abbrev Zd:=@PySem.wpAny_seqItems
abbrev Ze:=@PySem.Heap.get?_update_other
abbrev Zf:=@Rat.intCast_lt_intCast
abbrev Zg:=@decide_eq_false
abbrev Zh:=@PySem.wpAny_passesOwn
abbrev Zi:=@PySem.wpAny_specialOf
abbrev Zj:=@List.perm_ext_iff_of_nodup
abbrev Zk:=@PySem.Calls.call_function_entry
abbrev Zm:=@decide_eq_true
abbrev Zn:=@List.Perm.refl
abbrev Zo:=@List.ext_getElem
abbrev Zp:=@PySem.wpAny_typeNameOf_keyiter
abbrev Zq:=@PySem.wpAny_isInstance
abbrev Zr:=@Int.mul_fdiv_cancel_left
abbrev Zs:=@PySem.wpAny_setEntries_of
abbrev Zt:=@PySem.W.kia_one
abbrev Zu:=@Int.emod_lt_of_pos
abbrev Zv:=@Int.emod_nonneg
abbrev Zw:=@congrArg
abbrev Zx:=@PySem.sizeLine_eq
abbrev Zy:=@List.pairwise_lt_range
abbrev Zz:=@Nat.lt_trichotomy
abbrev ZA:=@PySem.codeAny_mono
abbrev ZC:=@PySem.wpAny_fieldsOf
abbrev ZD:=@Int.mul_ediv_add_emod
abbrev ZE:=@Rat.mul_lt_mul_of_pos_right
abbrev ZF:=@PySem.wpAny_rule
abbrev ZG:=@PySem.call_meets
abbrev ZH:=@Nat.mod_lt
abbrev ZI:=@PySem.wpAny_newList
abbrev ZJ:=@PySem.wpAny_attempt
abbrev ZK:=@Nat.le_of_dvd
abbrev ZL:=@Nat.mul_le_mul_left
abbrev ZM:=@PySem.SeqAt.EqAt.same
abbrev ZN:=@List.length_map
abbrev ZO:=@Nat.le_of_lt
abbrev ZP:=@PySem.Calls.spliced_cons
abbrev ZQ:=@PySem.SeqAt.EqAt.int_int
abbrev ZR:=@PySem.F.args_tuple_add_2
abbrev ZS:=@List.Pairwise.imp_of_mem
abbrev ZT:=@PySem.Heap.size_push
abbrev ZU:=@PySem.F.entry_tuple_add
abbrev ZV:=@PySem.Calls.spliced_nil
abbrev ZW:=@Nat.le_succ_of_le
abbrev ZX:=@PySem.wpAny_storeSet_of
abbrev ZY:=@PySem.F.slot_tuple_add
abbrev ZZ:=@PyProof.Rows.subscriptTail_builtinR
abbrev Z0:=@PySem.Calls.callWith_builtin
abbrev Z1:=@if_neg
abbrev Z2:=@List.length_pos_of_mem
abbrev Z3:=@Int.fmod_nonneg_of_pos
abbrev Z4:=@Rat.intCast_le_intCast
abbrev Z5:=@List.cons.inj
abbrev Z6:=@PySem.plainId_quiet
abbrev Z7:=@PySem.wpAny_eqBool_int
abbrev Z8:=@List.getElem_inj
abbrev Z9:=@beq_self_eq_true
abbrev Z_:=@PySem.W.ksm_same
abbrev aaa:=@PySem.F.slot_tuple_lt
abbrev aab:=@PySem.Obj.isFreed_of_fields
abbrev aac:=@PySem.isSubtype_tuple_tuple
abbrev aad:=@PySem.SeqAt.EqAt.none_bool
abbrev aae:=@PySem.SeqAt.EqAt.bool_none
abbrev aaf:=@PySem.SeqAt.EqAt.bool_bool
abbrev aag:=@PySem.wpAny_typeOf
abbrev aah:=@PyProof.Rows.entry_list_sort
abbrev aai:=@PySem.wpAny_ite_split
abbrev aaj:=@Int.mul_ne_zero
abbrev aak:=@Nat.div_le_self
abbrev aal:=@Int.le_of_lt
abbrev aam:=@PySem.SeqAt.EqAt.none_int
abbrev aan:=@PySem.SeqAt.EqAt.bool_int
abbrev aao:=@PySem.SeqAt.EqAt.int_none
abbrev aap:=@PySem.SeqAt.EqAt.int_bool
abbrev aaq:=@Nat.add_le_add_left
abbrev aar:=@List.mem_map_of_mem
abbrev aas:=@Rat.divInt_mul_left
abbrev aat:=@Ne.symm
abbrev aau:=@PySem.wpAny_runValue
abbrev aav:=@Eq.symm
abbrev aaw:=@Int.mul_nonneg
abbrev aax:=@PySem.Code.quiet_builtin
abbrev aay:=@PySem.tupleKind_room_in1
abbrev aaz:=@PySem.Obj.data_mapFields
abbrev aaA:=@PySem.wpAny_tupleItemsOf
abbrev aaB:=@Int.fmod_lt_of_pos
abbrev aaC:=@PySem.wpAny_standAt
abbrev aaD:=@PySem.Value.isInt_shape
abbrev aaE:=@PySem.wpAny_pyIter_list
abbrev aaF:=@List.ext_getElem?
abbrev aaG:=@PySem.wpAny_pyIter_slot
abbrev aaH:=@PySem.wpAny_dictEntries
abbrev aaI:=@PySem.Obj.cls_mapFields
abbrev aaJ:=@Nat.le_of_lt_succ
abbrev aaK:=@PySem.W.kat_cons
abbrev aaL:=@Nat.le_add_right
abbrev aaM:=@PySem.W.kat_yes
abbrev aq:=List (List Int)
abbrev aa:=List Int
abbrev aF:=List Nat
abbrev aw:=List PySem.Str
abbrev ai:=List PySem.Value
abbrev au:=List PySem.Expr
abbrev aM:=List PySem.Addr
abbrev aJ:=List PySem.Stmt
abbrev aL:=List Rat
abbrev aQ:=Array PySem.Value
abbrev ao:=PySem.W.Frag
abbrev av:=PySem.Value->PySem.Shared->Prop
abbrev ak:=List (PySem.Addr×PySem.Obj)
abbrev ag:=PySem.Addr->Prop
abbrev aO:=PySem.Str->Option PySem.Value
abbrev ax:=PySem.Program
abbrev ay:=PySem.Around
namespace L2
open PySem PySem.Spec PyProof.Rows
noncomputable abbrev Key:=Sum Int Str
def EC:Key->Value->Bool
 |.inl k,v=>Value.isInt k v
 |.inr x,v=>Value.isStrOf x v
def QL(w:World):Key->Int
 |.inl k=>hashInt k
 |.inr x=>hashStr w x
theorem bQ:∀{k:Key} {v:Value},EC k v=true->(∃i t,k=Sum.inl i/\v=Value.int i t)\/(∃x t,k=Sum.inr x/\v=Value.str x t)
 |.inl i,v,h=>by
  obtain⟨t,e⟩:=aaD (k:=i) (v:=v) h;exact .inl ⟨i,t,rfl,e⟩
 |.inr x,v,h=>by
  obtain⟨t,e⟩:=Value.isStrOf_shape (x:=x) (v:=v) h;exact .inr ⟨x,t,rfl,e⟩
theorem Hk(a b:Int):decide ((Sum.inl a:Key)=Sum.inl b)=(a==b):=by
 by_cases e:a=b
 ·subst e;simp
 ·have h:¬ (Sum.inl a:Key)=Sum.inl b:=λq=>e (Sum.inl.inj q);rw[decide_eq_false h];exact(beq_eq_false_iff_ne.mpr e).symm
theorem Hh(a b:Str):decide ((Sum.inr a:Key)=Sum.inr b)=decide (a=b):=by
 by_cases e:a=b
 ·subst e;simp
 ·have h:¬ (Sum.inr a:Key)=Sum.inr b:=λq=>e (Sum.inr.inj q);rw[decide_eq_false h,decide_eq_false e]
theorem Hj(a:Int)(b:Str):decide ((Sum.inl a:Key)=Sum.inr b)=false:=Zg (λq=>nomatch q)
theorem Hi(a:Str)(b:Int):decide ((Sum.inr a:Key)=Sum.inl b)=false:=Zg (λq=>nomatch q)
def uP(prog:ax)(w:World):PySem.KeyKind prog w Key where
 is:=EC
 hash:=QL w
 inj:=λv a b ha hb=>by
  rcases bQ ha with ⟨i,t,rfl,rfl⟩|⟨x,t,rfl,rfl⟩
  ·rcases bQ hb with ⟨j,u,rfl,e⟩|⟨y,u,rfl,e⟩
   ·injection e with e1 _;rw[e1]
   ·exact nomatch e
  ·rcases bQ hb with ⟨j,u,rfl,e⟩|⟨y,u,rfl,e⟩
   ·exact nomatch e
   ·injection e with e1 _;rw[e1]
 byValue:=λk v h=>by
  rcases bQ h with ⟨i,t,rfl,rfl⟩|⟨x,t,rfl,rfl⟩<;>rfl
 pyHash:=λhv h=>by
  rcases bQ hv with ⟨i,t,rfl,rfl⟩|⟨x,t,rfl,rfl⟩
  ·exact wpAny_pyHash_int h
  ·exact wpAny_pyHash_str h
 eqBool:=λhu hv h=>by
  rcases bQ hu with ⟨i,t,rfl,rfl⟩|⟨x,t,rfl,rfl⟩
  ·rcases bQ hv with ⟨j,u,rfl,rfl⟩|⟨y,u,rfl,rfl⟩
   ·rw[Hk]at h;exact Z7 h
   ·rw[Hj]at h;exact SeqAt.EqAt.int_str i t y u _ _ _ _ h
  ·rcases bQ hv with ⟨j,u,rfl,rfl⟩|⟨y,u,rfl,rfl⟩
   ·rw[Hi]at h;exact SeqAt.EqAt.str_int x t j u _ _ _ _ h
   ·rw[Hh]at h;exact wpAny_eqBool_str h
 «strs»:=λk x t v h=>by
  rcases bQ h with ⟨i,u,rfl,e⟩|⟨y,u,rfl,e⟩
  ·exact nomatch e
  ·injection e with e1 _
   subst e1;cases v<;>rfl
end L2
namespace L2
open PySem PySem.Spec PyProof.Rows
inductive V where
 |bD|bl (b:Bool)|int (i:Int)|str (x:Str)|Sy (b:Array UInt8)|Nf (b:UInt64)|ref (a:Addr)|ty (n:String)
 deriving DecidableEq
abbrev af:=List V
noncomputable def RelV:V->Value->Prop
 |.bD,u=>u=Value.none
 |.bl b,u=>u=Value.bool b
 |.int i,u=>∃t,u=Value.int i t
 |.str x,u=>∃t,u=Value.str x t
 |.Sy b,u=>∃t,u=Value.bytes b t
 |.Nf b,u=>∃t,u=Value.float b t
 |.ref a,u=>u=Value.ref a
 |.ty n,u=>u=Value.type n
abbrev Vals:af->ai->Prop:=Paired RelV
theorem Vals.length{xs:af}{us:ai}(r:Vals xs us):xs.length=us.length:=Paired.length r
theorem Vals.get:∀{xs:af} {us:ai} {i:Nat} {x:V},Vals xs us->xs[i]?=some x->∃u,us[i]?=some u/\RelV x u
 |_,_,_,_,.nil,e=>by simp at e
 |_,_,0,_,.cons r _,e=>by simp at e;subst e;exact⟨_,rfl,r⟩
 |_,_,i+1,x,.cons _ t,e=>by
  obtain⟨u,h1,h2⟩:=Vals.get (i:=i) (x:=x) t (by simpa using e);exact⟨u,by simpa using h1,h2⟩
theorem Vals.set{x:V}{u:Value}(r:RelV x u):∀{xs:af} {us:ai} (i:Nat),Vals xs us->Vals (xs.set i x) (us.set i u)
 |_,_,_,.nil=>.nil
 |_,_,0,.cons _ t=>.cons r t
 |_,_,i+1,.cons q t=>.cons q (Vals.set r i t)
theorem Vals.append:∀{xs ys:af} {us ws:ai},Vals xs us->Vals ys ws->Vals (xs++ys) (us++ws)
 |_,_,_,_,.nil,s=>s
 |_,_,_,_,.cons r t,s=>.cons r (Vals.append t s)
theorem Vals.take:∀{xs:af} {us:ai} (n:Nat),Vals xs us->Vals (xs.take n) (us.take n)
 |_,_,0,_=>.nil
 |_,_,_+1,.nil=>.nil
 |_,_,n+1,.cons r t=>.cons r (Vals.take n t)
theorem Vals.drop:∀{xs:af} {us:ai} (n:Nat),Vals xs us->Vals (xs.drop n) (us.drop n)
 |_,_,0,r=>r
 |_,_,_+1,.nil=>.nil
 |_,_,n+1,.cons _ t=>Vals.drop n t
def l_:Option V->Option Value->Prop
 |some v,some u=>RelV v u
 |none,none=>True
 |_,_=>False
def KV{κ:Type}:List (κ×V)->List (κ×Value)->Prop:=Paired λ(p:κ×V) (q:κ×Value)=>p.1=q.1/\RelV p.2 q.2
def kV:Key->V
 |.inl i=>.int i
 |.inr x=>.str x
inductive HO where
 |lst (xs:af)
 |tup (xs:af)
 |dK (lx:List (Key×V))|dT (lx:List (List Key×V))
 |set (S:Int->Bool) (n:Nat)
 |ins (C dx:Addr) (fs:List (Str×V))
 |own (x:Addr)
 |xd (fs:List (Str×V))
 |met (f x:Addr)
 |jr (lo hi:Int)
 |fM (o:Obj) (u:HO)
 |D9 (ps:aQ)
 |ext (φ:Heap->Prop)
noncomputable abbrev Hp:=Addr->Option HO
noncomputable def upd(H:Hp)(a:Addr)(o:HO):Hp:=λb=>if b=a then some o else H b
variable {H:Hp}
theorem aW{a:Addr}{o:HO}:upd H a o a=some o:=by unfold upd;rw[if_pos rfl]
theorem aS{a b:Addr}{o:HO}(h:b≠a):upd H a o b=H b:=by unfold upd;rw[if_neg h]
theorem bU{a b:Addr}{o:HO}(h:H a=some o)(h':H b=none):a≠b:=by
 intro e;subst e;rw[h]at h';cases h'
section
variable (P:ax)(w:World)
def cv(H:Hp)(h:Heap)(a:Addr):HO->Prop
 |.lst xs=>xs.length<=sizeLine/\∃(aC:ai) (n:Nat),Vals xs aC/\h.get? a=some { cls:=.type "list",data:=.seq aC.toArray n }
 |.tup xs=>xs.length<=sizeLine/\∃aC:ai,Vals xs aC/\IsTup h a aC.toArray
 |.dK lx=>lx.length<=sizeLine/\(a==sysModules)=false/\∃vs,KV lx vs/\h.DictOf (uP P w) a vs
 |.dT lx=>lx.length<=sizeLine/\(a==sysModules)=false/\∃xs:List (List Key×Addr×Value),
   Paired (λ(p:List Key×V) (q:List Key×Addr×Value)=>p.1=q.1/\H q.2.1=some (.tup (p.1.map kV))/\RelV p.2 q.2.2) lx xs /\
   ∃o es ep,h.get? a=some o/\o.ExactDict/\o.data=.dict es ep/\es.toList=xs.map (entryOfKey (tupleKind (uP P w)))/\(xs.map (·.1)).Nodup
 |.set S n=>h.SetOf (intKind P w) a S n
 |.ins C dx fs=>H dx=some (.own a)/\fs.length<=1000/\dx≠a/\h.get? a=some (PySem.W.instObj C dx) /\
   ∃mA,h.Ns1 dx mA/\(∀f,l_ (fs.lookup f) (mA f))/\PySem.Within mA (fs.map (·.1))
 |.own _=>∃o,h.get? a=some o
 |.xd fs=>∃mA,h.Ns1 a mA/\∀f,l_ (fs.lookup f) (mA f)
 |.jr lo hi=>∃t u v,h.get? a=some { cls:=.type "range",data:=.fields #[.int lo t,.int hi u,.int 1 v] }
 |.fM o u=>h.get? a=some o/\cv H h a u
 |.D9 ps=>h.get? a=some { cls:=.none,data:=.fields ps }
 |.met f x=>h.get? a=some (PySem.W.methodObj (.ref f) (.ref x))
 |.ext φ=>φ h/\(∃o,h.get? a=some o)/\∀h1 h2:Heap,φ h1->(∀o,h1.get? a=some o->h2.get? a=some o)->φ h2
def jD(H:Hp)(h:Heap):Prop:=∀a o,H a=some o->cv P w H h a o
end
section
variable {P:ax}{w:World}{H H':Hp}{h h':Heap}{a:Addr}{o:HO}
theorem cv.lt(x:cv P w H h a o):a<h.objs.size:=by
 cases o with
 |lst xs=>obtain⟨_,_,_,_,e⟩:=x;exact Yr e
 |tup xs=>obtain⟨_,_,_,p⟩:=x;exact p.lt
 |dK lx=>obtain⟨_,_,_,_,o,_,_,e,_⟩:=x;exact Yr e
 |dT lx=>obtain⟨_,_,_,_,o,_,_,e,_⟩:=x;exact Yr e
 |set S n=>obtain⟨o,_,_,_,e,_⟩:=x;exact Yr e
 |ins C dx fs=>obtain⟨_,_,_,e,_⟩:=x;exact Yr e
 |own y=>obtain⟨_,e⟩:=x;exact Yr e
 |xd fs=>obtain⟨_,⟨_,_,_,e,_⟩,_⟩:=x;exact Yr e
 |jr lo hi=>obtain⟨_,_,_,e⟩:=x;exact Yr e
 |fM ob u=>obtain⟨e,_⟩:=x;exact Yr e
 |D9 ps=>exact Yr (show h.get? a=some _ from x)
 |met f y=>exact Yr (show h.get? a=some _ from x)
 |ext φ=>obtain⟨_,⟨_,e⟩,_⟩:=x;exact Yr e
theorem Paired.LN{α β:Type}{F G:α->β->Prop}:∀{l₁:List α} {l₂:List β},Paired F l₁ l₂->(∀a b,F a b->G a b)->Paired G l₁ l₂
 |_,_,.nil,_=>.nil
 |_,_,.cons r t,f=>.cons (f _ _ r) (Paired.LN t f)
theorem cv.mq(x:cv P w H h a o)(k:∀b u,(b=a\/H b=some (.own a))->h.get? b=some u->h'.get? b=some u)
  (ho:∀b,H b=some (.own a)->H' b=some (.own a)) (ht:∀b xs,H b=some (.tup xs)->H' b=some (.tup xs)):cv P w H' h' a o:=by
 induction o with
 |lst xs=>obtain⟨z,aC,n,r,e⟩:=x;exact⟨z,aC,n,r,k _ _ (.inl rfl) e⟩
 |tup xs=>obtain⟨z,aC,r,ob,e,c⟩:=x;exact⟨z,aC,r,ob,k _ _ (.inl rfl) e,c⟩
 |dK lx=>obtain⟨z,y,vs,r,ob,es,ep,e,c⟩:=x;exact⟨z,y,vs,r,ob,es,ep,k _ _ (.inl rfl) e,c⟩
 |dT lx =>
  obtain⟨z,y,xs,r,ob,es,ep,e,c⟩:=x;exact⟨z,y,xs,Paired.LN r λp q z=>⟨z.1,ht _ _ z.2.1,z.2.2⟩,ob,es,ep,k _ _ (.inl rfl) e,c⟩
 |set S n=>obtain⟨ob,es,ep,t,e,c⟩:=x;exact⟨ob,es,ep,t,k _ _ (.inl rfl) e,c⟩
 |ins C dx fs =>
  obtain⟨d,z,ne,e,mA,⟨od,es,ep,e2,c⟩,r⟩:=x;exact⟨ho _ d,z,ne,k _ _ (.inl rfl) e,mA,⟨od,es,ep,k _ _ (.inr d) e2,c⟩,r⟩
 |own y=>obtain⟨ob,e⟩:=x;exact⟨ob,k _ _ (.inl rfl) e⟩
 |xd fs=>obtain⟨mA,⟨od,es,ep,e,c⟩,r⟩:=x;exact⟨mA,⟨od,es,ep,k _ _ (.inl rfl) e,c⟩,r⟩
 |jr lo hi=>obtain⟨t,u,v,e⟩:=x;exact⟨t,u,v,k _ _ (.inl rfl) e⟩
 |fM ob u ih=>obtain⟨e,q⟩:=x;exact⟨k _ _ (.inl rfl) e,ih q⟩
 |D9 ps =>
  have e:h.get? a=some { cls:=.none,data:=.fields ps }:=x;show h'.get? a=some { cls:=.none,data:=.fields ps };exact k a _ (.inl rfl) e
 |met f y =>
  have e:h.get? a=some (PySem.W.methodObj (.ref f) (.ref y)):=x;show h'.get? a=some (PySem.W.methodObj (.ref f) (.ref y));exact k a _ (.inl rfl) e
 |ext φ=>obtain⟨p,⟨o,e⟩,st⟩:=x;exact⟨st _ _ p λo q=>k _ _ (.inl rfl) q,⟨o,k _ _ (.inl rfl) e⟩,st⟩
theorem jD.lt(x:jD P w H h)(e:H a=some o):a<h.objs.size:=(x a o e).lt
theorem jD.fresh(x:jD P w H h)(e:h.objs.size<=a):H a=none:=by
 cases q:H a with
 |none=>rfl
 |some u=>exact absurd (Yu (x.lt q) e) (YG _)
theorem jD.kept(x:jD P w H h)(k:∀b u,h.get? b=some u->h'.get? b=some u):jD P w H h':=λa o e =>
 (x a o e).mq (λb u _ q=>k b u q) (λ_ q=>q) λ_ _ q=>q
theorem jD.laid(x:jD P w H h)(k:∀b u,h.get? b=some u->h'.get? b=some u)(hp:h.objs.size<=a)(new:cv P w (upd H a o) h' a o):jD P w (upd H a o) h':=λb u e=>by
 have hn:=x.fresh hp;by_cases hb:b=a
 ·subst hb;rw[aW]at e;cases e;exact new
 ·rw[aS hb]at e;exact(x b u e).mq (λc v _ q=>k c v q) (λc q=>by rw[aS (bU q hn)];exact q) λc xs q=>by rw[aS (bU q hn)];exact q
end
def Rd(H:Hp)(a:Addr)(u:HO):Prop:=H a=some u\/∃o,H a=some (.fM o u)
theorem Rd.ok{P:ax}{w:World}{h:Heap}{a:Addr}{u:HO}(r:Rd H a u)(x:jD P w H h):cv P w H h a u:=by
 rcases r with r|⟨o,r⟩
 ·exact x a u r
 ·obtain⟨_,q⟩:=x a _ r;exact q
noncomputable def Pf:Option HO->Prop
 |some (.lst _)=>True
 |some (.dK _)=>True
 |some (.dT _)=>True
 |some (.set _ _)=>True
 |some (.ins _ _ _)=>True
 |some (.ext _)=>True
 |_=>False
section
variable {P:ax}{w:World}{H:Hp}{h h':Heap}{x e:Addr}{o':HO}
theorem jD.write(ok:jD P w H h)(mu:Pf (H x))(he:e=x\/H e=some (.own x))(k:∀b u,b≠e->h.get? b=some u->h'.get? b=some u)(JM:∃u,h'.get? e=some u)
  (new:cv P w (upd H x o') h' x o'):jD P w (upd H x o') h':=λb u q=>by
 have LB:∀c y,H c=some (.own y)->c≠x:=λc y r z=>by subst z;rw[r]at mu;exact mu
 have Qz:∀c xs,H c=some (.tup xs)->c≠x:=λc xs r z=>by subst z;rw[r]at mu;exact mu
 by_cases hb:b=x
 ·subst hb;rw[aW]at q;cases q;exact new
 ·rw[aS hb]at q;by_cases HQ:b=e
  ·have q':H b=some (.own x):=by
    rcases he with z|z
    ·exact absurd (HQ.trans z) hb
    ·rw[HQ];exact z
   rw[q]at q';cases q';obtain⟨v,hv⟩:=JM;exact⟨v,by rw[HQ];exact hv⟩
  ·refine(ok b u q).mq (λc v hc r=>k c v ?_ r) (λc r=>by rw[aS (LB c b r)];exact r) λc xs r=>by rw[aS (Qz c xs r)];exact r
   rcases hc with rfl|hc
   ·exact HQ
   ·rintro rfl;rcases he with z|z
    ·exact LB c b hc z
    ·rw[hc]at z;cases z;exact hb rfl
end
structure Un(fs ex:aM)(H H':Hp)(h h':Heap):Prop where
 keep:∀b o,h.get? b=some o->H b=none->b∉fs->b∉ex->h'.get? b=some o
 slot:∀b o,h.get? b=some o->H b=none->b∈fs->b∉ex->∃sl,h'.get? b=some { o with slots:=sl }
 free:∀b o,h.get? b=some o->H b=none->b∉ex->H' b=none
 there:∀b o,h.get? b=some o->b∉ex->∃o',h'.get? b=some o'
 nY:∀b xs,H b=some (.tup xs)->H' b=some (.tup xs)
 mH:∀b o u,H b=some (.fM o u)->H' b=some (.fM o u)
 nZ:∀b ps,H b=some (.D9 ps)->∃more,H' b=some (.D9 (ps++more))
section
variable {fs W4 ex Nj:aM}{H H1 H2:Hp}{h h1 h2 h':Heap}{a x e:Addr}{o:HO}
theorem Un.any(u:Un fs ex H H1 h h1){b:Addr}{ob:Obj}(q:h.get? b=some ob)(n:H b=none)(hx:b∉ex):∃sl,h1.get? b=some { ob with slots:=sl }:=by
 by_cases hb:b∈fs
 ·exact u.slot b ob q n hb hx
 ·exact⟨ob.slots,u.keep b ob q n hb hx⟩
theorem Un.kept(k:∀b u,h.get? b=some u->h'.get? b=some u):Un fs ex H H h h' :=
 ⟨λb ob q _ _ _=>k b ob q,λb ob q _ _ _=>⟨ob.slots,k b ob q⟩,λ_ _ _ n _=>n,λb ob q _=>⟨ob,k b ob q⟩,λ_ _ q=>q,λ_ _ _ q=>q,λ_ ps q=>⟨#[],by rw[q];simp⟩⟩
theorem Un.refl:Un fs ex H H h h:=Un.kept λ_ _ q=>q
theorem Un.laid(k:∀b u,h.get? b=some u->h'.get? b=some u)(hp:h.objs.size<=a)(hn:H a=none):Un fs ex H (upd H a o) h h' where
 keep:=λb u q _ _ _=>k b u q
 slot:=λb u q _ _ _=>⟨u.slots,k b u q⟩
 free:=λb u q n _=>by rw[aS (Nat.ne_of_lt (Nat.lt_of_lt_of_le (Heap.lt_size q) hp))];exact n
 there:=λb u q _=>⟨u,k b u q⟩
 nY:=λb xs q=>by rw[aS (bU q hn)];exact q
 mH:=λb u xs q=>by rw[aS (bU q hn)];exact q
 nZ:=λb ps q=>⟨#[],by rw[aS (bU q hn),q];simp⟩
theorem Un.write(mu:Pf (H x))(he:e=x\/H e=some (.own x))(k:∀b u,b≠e->h.get? b=some u->h'.get? b=some u)(JM:∃u,h'.get? e=some u):Un fs ex H (upd H x o) h h':=by
 have hx:∀b,H b=none->b≠x:=λb n z=>by subst z;rw[n]at mu;exact mu
 have hb:∀b,H b=none->b≠e:=λb n z=>by
  subst z;rcases he with r|r
  ·exact hx b n r
  ·rw[n]at r;cases r
 have hm:∀b u,H b=some u->¬ Pf (some u)->b≠x:=λb u q nm z=>by subst z;rw[q]at mu;exact nm mu
 refine⟨λb u q n _ _=>k b u (hb b n) q,λb u q n _ _=>⟨u.slots,k b u (hb b n) q⟩,λb u q n _=>by rw[aS (hx b n)];exact n,λb u q _=>?_,
  λb xs q=>by rw[aS (hm b _ q λz=>z)];exact q,λb u xs q=>by rw[aS (hm b _ q λz=>z)];exact q,λb ps q=>⟨#[],by rw[aS (hm b _ q λz=>z),q];simp⟩⟩
 by_cases HQ:b=e
 ·subst HQ;exact JM
 ·exact⟨u,k b u HQ q⟩
end
noncomputable def NZ(h:Heap)(H:Hp):aM:=(List.range h.objs.size).filter λa=>(H a).isSome
def oW(h:Heap)(H:Hp):Heap:=PySem.W.hideAll h (NZ h H)
theorem wU(h:Heap)(H:Hp):(oW h H).objs.size=h.objs.size:=PySem.W.hideAll_size _ _
variable {o:Obj}
theorem z_{h:Heap}{b:Addr}(e:h.get? b=some o)(n:H b=none):(oW h H).get? b=some o :=
 PySem.W.hideAll_get _ e λhm=>by
  have q:(H b).isSome=true:=(List.mem_filter.mp hm).2;rw[n]at q;simp at q
theorem Cw{h:Heap}{b:Addr}(e:(oW h H).get? b=some o):h.get? b=some o/\H b=none:=by
 have e':h.get? b=some o:=PySem.W.of_hideAll (NZ h H) e;refine⟨e',?_⟩;cases q:H b with
 |none=>rfl
 |some x =>
  have hm:b∈NZ h H:=List.mem_filter.mpr ⟨List.mem_range.mpr (Yr e'),by simp[q]⟩;have z:(oW h H).get? b=none:=PySem.W.hideAll_none (NZ h H) hm;rw[z]at e;cases e
noncomputable def DU(g h:Heap)(L:Addr):ak:=(List.range h.objs.size).filterMap λa=>if a=L\/(g.get? a).isSome=true then none else(h.get? a).map λo=>(a,o)
def rest(g h:Heap)(L d:Addr):ak:=(DU g h L).filter λp=>decide (p.1≠d)
end L2
namespace L2
open PySem PySem.Spec PyProof.Rows
structure Mod(K:ao)(mg:aO)(base:Heap):Prop where
 QK:K.In base
 glob:base.Ns mainGlobals mg
 blt:∃mb,base.Ns builtinsNs mb/\∀x:Str,x ≠ "__name__" -> mb x=bootBuiltins x
 nolimit:base.NoLimit
structure Cx where
 prog:ax
 w:World
 K:ao
 mg:aO
 base:Heap
 A:ay
 N:aw
 s₀:Shared
 H₀:Hp
 env:Env
 outer:List Env
 stack:List Env
 ex:aM
 fn:Str->Bool
 calm:Bool
 pn:ak
 xe:av
noncomputable def xN(l:List Env):aM:=l.filterMap (·.frame)
abbrev Cx.fs(X:Cx):aM:=xN X.outer
def Jn(sc:Scope)(x:Str):Prop:=sc.names.lookup x=some .local\/sc.names.lookup x=some .cell\/sc.names.lookup x=some .free
def Loc(sc:Scope)(x:Str):Prop:=sc.names.lookup x=some .local\/sc.names.lookup x=some .cell
noncomputable def Look(env:Env)(h:Heap)(m:aO)(x:Str)(u:Value):Prop :=
 (env.kindOf x=some .local/\m x=some u)\/((env.kindOf x=some .cell\/env.kindOf x=some .free)/\∃c,env.cells.lookup x=some c/\h.IsCell c (some u))
structure Cx.Ok(X:Cx):Prop where
 mod:Mod X.K X.mg X.base
 kind:X.env.scope.kind=.function
 glob:X.env.globals=mainGlobals
 blt:X.env.builtins=builtinsNs
 above:X.s₀.heap.objs.size<=X.env.locals
 inj:∀x y c,X.env.cells.lookup x=some c->X.env.cells.lookup y=some c->x=y
 has:∀x,(X.env.kindOf x=some .cell\/X.env.kindOf x=some .free)->∃c,X.env.cells.lookup x=some c
 NC:∀x c,X.fn x=true->X.env.cells.lookup x=some c->X.s₀.heap.objs.size<=c
 hd:X.calm=true->X.A.handled=none
 frames:X.A.frames=some X.stack
 N5:X.stack=X.outer\/(X.stack=X.env::X.outer/\X.env.frame=some X.env.locals)
 UD:∀b∈X.ex,b≠X.env.locals/\∀x c,X.env.cells.lookup x=some c->c≠b
 bs:∀b o,X.base.get? b=some o->X.s₀.heap.get? b=some o/\X.H₀ b=none
 EY:X.base.objs.size<=X.s₀.heap.objs.size
 zb:∀b o,X.base.get? b=some o->b∉X.ex
 Dg:∀b∈X.ex,b∉X.fs
 jZ:X.s₀.heap.FunFrames X.base X.outer
 JP:∀b∈X.fs,X.H₀ b=none
structure Inv(X:Cx)(pins:ak)(σ:List (Option V))(H:Hp)(s:Shared):Prop where
 ok:X.Ok
 os:s.os=X.s₀.os
 bare:AllBare s.gens
 base:Un X.fs X.ex X.H₀ H X.s₀.heap s.heap
 loc:∃m,s.heap.Ns X.env.locals m/\∀(i:Nat) (x:Str) (v:V),X.N[i]?=some x->σ[i]?=some (some v)->Jn X.env.scope x->∃u,RelV v u/\Look X.env s.heap m x u
 cell:∀x c,X.env.cells.lookup x=some c->∃v,s.heap.IsCell c v
 free:H X.env.locals=none
 gd:∀x c,X.env.cells.lookup x=some c->H c=none
 pin:∀p∈X.pn++pins,s.heap.get? p.1=some p.2/\H p.1=none/\p.1≠X.env.locals/\p.1∉X.fs/\∀v,p.2.data≠.cell v
 cD:jD X.prog X.w H s.heap
 len:σ.length=X.N.length
variable {A:ay}{E:Value->Shared->Prop}{Q:Unit->Shared->Prop}{ch:aM}{t':Nat}
section
variable {X:Cx}{pins:ak}{σ:List (Option V)}{H H':Hp}{s:Shared}{h':Heap}
theorem Cx.Ok.QB(ok:X.Ok){b:Addr}{o:Obj}(e:X.base.get? b=some o):b∉X.fs:=λhb=>by
 have:=(ok.jZ.mem hb).1;rw[e]at this;cases this
theorem Inv.bs(I:Inv X pins σ H s):∀b o,X.base.get? b=some o->s.heap.get? b=some o/\H b=none:=λb o e =>
 ⟨I.base.keep b o (I.ok.bs b o e).1 (I.ok.bs b o e).2 (I.ok.QB e) (I.ok.zb b o e),I.base.free b o (I.ok.bs b o e).1 (I.ok.bs b o e).2 (I.ok.zb b o e)⟩
theorem Inv.bk(I:Inv X pins σ H s):∀b o,X.base.get? b=some o->s.heap.get? b=some o:=λb o e=>(I.bs b o e).1
theorem Inv.mod(I:Inv X pins σ H s):Mod X.K X.mg X.base:=I.ok.mod
theorem Inv.xF(I:Inv X pins σ H s):X.K.In s.heap:=I.ok.mod.QK.keeps I.bk
theorem Inv.lt(I:Inv X pins σ H s):X.env.locals<s.heap.objs.size:=let ⟨_,hn,_⟩:=I.loc;hn.lt
theorem Inv.sz(I:Inv X pins σ H s):X.s₀.heap.objs.size<=s.heap.objs.size:=YL I.ok.above (ZO I.lt)
theorem Inv.G3(I:Inv X pins σ H s){a:Addr}(h:s.heap.objs.size<=a):a∉X.fs:=λhb=>by
 obtain⟨_,o,ho,_⟩:=I.ok.jZ.mem hb;exact absurd (Yu (Yr ho) (YL I.sz h)) (YG _)
theorem Inv.Jb(I:Inv X pins σ H s):∀x c,X.env.cells.lookup x=some c->c≠X.env.locals:=λx c e z=>by
 obtain⟨v,o,ho,hd⟩:=I.cell x c e;obtain⟨m,⟨o',es,ep,eV,HM,_⟩,_⟩:=I.loc;rw[z,eV]at ho;cases ho;rw[HM]at hd;cases hd
theorem Inv.jZ(I:Inv X pins σ H s):s.heap.FunFrames X.base X.outer:=by
 have all:∀(l:List Env),(∀b∈xN l,b∈X.fs)->X.s₀.heap.FunFrames X.base l->s.heap.FunFrames X.base l:=by
  intro l;induction l with
  |nil=>intro _ _;trivial
  |cons env r ih =>
   intro hs hl;obtain⟨hk,⟨L,o,hf,hn,ho,hd⟩,hr⟩:=hl;have hL:L∈X.fs:=hs L (by unfold xN;rw[List.filterMap_cons,hf];exact Yo);obtain⟨sl,e⟩:=I.base.slot L o ho (I.ok.JP L hL) hL λz=>I.ok.Dg L z hL;exact⟨hk,⟨L,_,hf,hn,e,hd⟩,ih (λb hb=>hs b (by unfold xN;rw[List.filterMap_cons,hf];exact Yq _ hb)) hr⟩
 exact all X.outer (λ_ hb=>hb) I.ok.jZ
theorem Inv.stack(I:Inv X pins σ H s):s.heap.FunFrames X.base X.stack:=by
 rcases I.ok.N5 with e|⟨e,hf⟩
 ·rw[e];exact I.jZ
 ·rw[e];obtain⟨m,hn,_⟩:=I.loc;refine .cons (by rw[I.ok.kind];decide) hf hn ?_ I.jZ;exact Heap.get?_none_of_le (YL I.ok.EY I.ok.above)
theorem Inv.jk(I:Inv X pins σ H s):∀b∈xN X.stack,b∈X.env.locals::X.fs:=λb hb=>by
 rcases I.ok.N5 with e|⟨e,hf⟩
 ·rw[e]at hb;exact Yq _ hb
 ·rw[e]at hb;unfold xN at hb;rw[List.filterMap_cons,hf]at hb;exact hb
theorem Inv.uf(I:Inv X pins σ H s):∀b∈xN X.stack,H b=none:=λb hb=>by
 rcases List.mem_cons.mp (I.jk b hb)with e|hb
 ·rw[e];exact I.free
 ·obtain⟨_,o,ho,_⟩:=I.ok.jZ.mem hb;exact I.base.free b o ho (I.ok.JP b hb) λz=>I.ok.Dg b z hb
theorem Inv.step{g':Array GenState}{d':Drawn}(I:Inv X pins σ H s)
  (Bj:∀b∈ch,(b∈X.ex\/X.s₀.heap.objs.size<=b)/\b≠X.env.locals/\(∀x c,X.env.cells.lookup x=some c->c≠b)/\∀p∈X.pn++pins,p.1≠b)
  (keep:∀b o,b≠X.env.locals->b∉X.fs->b∉ch->s.heap.get? b=some o->H b=none->h'.get? b=some o)
  (slot:∀b o,b≠X.env.locals->b∈X.fs->b∉ch->s.heap.get? b=some o->H b=none->∃sl,h'.get? b=some { o with slots:=sl }) (free:∀b o,b∉ch->s.heap.get? b=some o->H b=none->H' b=none)
  (there:∀b o,b∉ch->s.heap.get? b=some o->∃o',h'.get? b=some o')
  (nY:∀b xs,H b=some (.tup xs)->H' b=some (.tup xs)) (mH:∀b o u,H b=some (.fM o u)->H' b=some (.fM o u)) (nZ:∀b ps,H b=some (.D9 ps)->∃more,H' b=some (.D9 (ps++more)))
  (ns:∀m,s.heap.Ns X.env.locals m->h'.Ns X.env.locals m) (cD:jD X.prog X.w H' h') (hg:AllBare g') :
  Inv X pins σ H' { s with heap:=h',gens:=g',drawn:=d',toks:=t' }:=by
 have To:∀b o,X.s₀.heap.get? b=some o->b≠X.env.locals:=λb o e=>Yv (Yu (Yr e) I.ok.above);have EA:∀b o,X.s₀.heap.get? b=some o->b∉X.ex->b∉ch:=λb o e hx hb=>by
  rcases(Bj b hb).1 with z|z
  ·exact hx z
  ·exact absurd (Yu (Yr e) z) (YG _)
 have cellK:∀x c,X.env.cells.lookup x=some c->∀v,s.heap.IsCell c v->h'.IsCell c v:=λx c e v bz=>by
  obtain⟨o,ho,hd⟩:=bz;have LG:c∉ch:=λz=>(Bj c z).2.2.1 x c e rfl;by_cases hc:c∈X.fs
  ·obtain⟨sl,q⟩:=slot c o (I.Jb x c e) hc LG ho (I.gd x c e);exact⟨_,q,hd⟩
  ·exact⟨o,keep c o (I.Jb x c e) hc LG ho (I.gd x c e),hd⟩
 refine⟨I.ok,I.os,hg,⟨λb o e n hb hx=>?_,λb o e n hb hx=>?_,λb o e n hx=>?_,λb o e hx=>?_,λb xs e=>nY b xs (I.base.nY b xs e),λb o xs e=>mH b o xs (I.base.mH b o xs e),λb ps e=>?_⟩,?_,λx c e=>?_,?_,λx c e=>?_,λp hp=>?_,cD,I.len⟩
 ·exact keep b o (To b o e) hb (EA b o e hx) (I.base.keep b o e n hb hx) (I.base.free b o e n hx)
 ·obtain⟨sl,e1⟩:=I.base.slot b o e n hb hx;obtain⟨Vr,e2⟩:=slot b _ (To b o e) hb (EA b o e hx) e1 (I.base.free b o e n hx);exact⟨Vr,e2⟩
 ·obtain⟨o',e1⟩:=I.base.there b o e hx;exact free b o' (EA b o e hx) e1 (I.base.free b o e n hx)
 ·obtain⟨o',e1⟩:=I.base.there b o e hx;exact there b o' (EA b o e hx) e1
 ·obtain⟨m1,e1⟩:=I.base.nZ b ps e;obtain⟨m2,e2⟩:=nZ b _ e1;exact⟨m1++m2,by rw[e2,Array.append_assoc]⟩
 ·obtain⟨m,hn,hl⟩:=I.loc;refine⟨m,ns m hn,λi x v e1 e2 e3=>?_⟩;obtain⟨u,r,l⟩:=hl i x v e1 e2 e3;refine⟨u,r,?_⟩;rcases l with l|⟨k,c,e,z⟩
  ·exact .inl l
  ·exact .inr ⟨k,c,e,cellK x c e _ z⟩
 ·obtain⟨v,z⟩:=I.cell x c e;exact⟨v,cellK x c e v z⟩
 ·obtain⟨m,⟨o,_,_,ho,_⟩,_⟩:=I.loc;exact free _ o (λz=>(Bj _ z).2.1 rfl) ho I.free
 ·obtain⟨v,o,ho,hd⟩:=I.cell x c e;exact free c o (λz=>(Bj c z).2.2.1 x c e rfl) ho (I.gd x c e)
 ·obtain⟨e,n,ne,nf,d⟩:=I.pin p hp;have LG:p.1∉ch:=λz=>(Bj p.1 z).2.2.2 p hp rfl;exact⟨keep p.1 p.2 ne nf LG e n,free p.1 p.2 LG e n,ne,nf,d⟩
theorem Inv.un(I:Inv X pins σ H s)(u:Un X.fs [] H H' s.heap h')(cD:jD X.prog X.w H' h'):Inv X pins σ H' { s with heap:=h',toks:=t' }:=by
 obtain⟨m,⟨o,es,ep,ho,r⟩,_⟩:=id I.loc;obtain⟨sl,hL⟩:=u.any ho I.free (by simp);exact I.step (g':=s.gens) (d':=s.drawn) (ch:=[]) (λ_ z=>nomatch z) (λb o _ hb _ e n=>u.keep b o e n hb (by simp)) (λb o _ hb _ e n=>u.slot b o e n hb (by simp)) (λb o _ e n=>u.free b o e n (by simp)) (λb o _ e=>u.there b o e (by simp)) u.nY u.mH u.nZ (λm' hm=>by
  obtain⟨o',w9,vx,eV,r'⟩:=hm;rw[ho]at eV;cases eV;exact⟨_,w9,vx,hL,r'⟩) cD I.bare
theorem Inv.call{g':Array GenState}{d':Drawn}(I:Inv X pins σ H s)(u:Un (xN X.stack) ch H H' s.heap h')(cD:jD X.prog X.w H' h')(hg:AllBare g')
  (Bj:∀b∈ch,(b∈X.ex\/X.s₀.heap.objs.size<=b)/\b≠X.env.locals/\(∀x c,X.env.cells.lookup x=some c->c≠b)/\∀p∈X.pn++pins,p.1≠b) :
  Inv X pins σ H' { s with heap:=h',gens:=g',drawn:=d',toks:=t' }:=by
 obtain⟨m,⟨o,es,ep,ho,r⟩,_⟩:=id I.loc;obtain⟨sl,hL⟩:=u.any ho I.free λz=>(Bj _ z).2.1 rfl;exact I.step (ch:=ch) Bj (λb o hL hb hc e n=>u.keep b o e n (λz=>(List.mem_cons.mp (I.jk b z)).elim hL hb) hc) (λb o _ _ hc e n=>u.any e n hc) (λb o hc e n=>u.free b o e n hc) (λb o hc e=>u.there b o e hc) u.nY u.mH u.nZ (λm' hm=>by
  obtain⟨o',w9,vx,eV,r'⟩:=hm;rw[ho]at eV;cases eV;exact⟨_,w9,vx,hL,r'⟩) cD hg
theorem Inv.turned{it:Addr}(I:Inv X pins σ H s)(k:∀b o,b≠it->s.heap.get? b=some o->h'.get? b=some o)(hn:H it=none)(hL:it≠X.env.locals)
  (h1:it∈X.ex\/X.s₀.heap.objs.size<=it) (h2:∀x c,X.env.cells.lookup x=some c->c≠it) (h3:∀p∈X.pn++pins,p.1≠it):Inv X pins σ H { s with heap:=h',toks:=t' }:=by
 have Ey:∀b u,H b=some u->b≠it:=λb u e z=>by rw[z,hn]at e;cases e
 refine I.step (g':=s.gens) (d':=s.drawn) (ch:=[it]) (λb hb=>?_) (λb o _ _ hc e _=>k b o (λz=>hc (by simp[z])) e) (λb o _ _ hc e _=>⟨o.slots,k b o (λz=>hc (by simp[z])) e⟩) (λ_ _ _ _ n=>n)
  (λb o hc e=>⟨o,k b o (λz=>hc (by simp[z])) e⟩) (λ_ _ e=>e) (λ_ _ _ e=>e) (λb ps e=>⟨#[],by rw[e];simp⟩) (λm hm=>?_) (λb u e=>?_) I.bare
 ·have e:b=it:=by simpa using hb
  subst e;exact⟨h1,hL,h2,h3⟩
 ·obtain⟨o,es,ep,ho,r⟩:=hm;exact⟨o,es,ep,k _ o (aat hL) ho,r⟩
 ·refine(I.cD b u e).mq (λc v hc q=>k c v ?_ q) (λ_ q=>q) λ_ _ q=>q;rcases hc with z|z
  ·rw[z];exact Ey b u e
  ·exact Ey c _ z
theorem Inv.tok(I:Inv X pins σ H s)(t:Nat):Inv X pins σ H { s with toks:=t }:=I.un (h':=s.heap) (t':=t) Un.refl I.cD
theorem Inv.kept{t':Nat}(I:Inv X pins σ H s)(k:∀b u,s.heap.get? b=some u->h'.get? b=some u):Inv X pins σ H { s with heap:=h',toks:=t' }:=I.un (Un.kept k) (I.cD.kept k)
theorem Inv.laid{a:Addr}{o:HO}{t':Nat}(I:Inv X pins σ H s)(k:∀b u,s.heap.get? b=some u->h'.get? b=some u)(hp:s.heap.objs.size<=a)(new:cv X.prog X.w (upd H a o) h' a o):
  Inv X pins σ (upd H a o) { s with heap:=h',toks:=t' }:=I.un (Un.laid k hp (I.cD.fresh hp)) (I.cD.laid k hp new)
theorem Inv.write{x e:Addr}{o:HO}{t':Nat}(I:Inv X pins σ H s)(mu:Pf (H x))(he:e=x\/H e=some (.own x))(k:∀b u,b≠e->s.heap.get? b=some u->h'.get? b=some u)(JM:∃u,h'.get? e=some u)
  (new:cv X.prog X.w (upd H x o) h' x o):Inv X pins σ (upd H x o) { s with heap:=h',toks:=t' }:=I.un (Un.write mu he k JM) (I.cD.write mu he k JM new)
theorem Inv.gG{Er:ak}(I:Inv X pins σ H s)(h:∀p∈Er,s.heap.get? p.1=some p.2/\H p.1=none/\p.1≠X.env.locals/\p.1∉X.fs/\∀v,p.2.data≠.cell v):Inv X Er σ H s :=
 ⟨I.ok,I.os,I.bare,I.base,I.loc,I.cell,I.free,I.gd,λp hp=>(List.mem_append.mp hp).elim (λz=>I.pin p (YN _ z)) (h p),I.cD,I.len⟩
theorem qH{N:aw}(hN:N.Nodup){i j:Nat}{x:Str}(a:N[i]?=some x)(b:N[j]?=some x):i=j:=by
 obtain⟨h1,e1⟩:=List.getElem?_eq_some_iff.mp a;obtain⟨h2,e2⟩:=List.getElem?_eq_some_iff.mp b;exact(Z8 hN).mp (e1.trans e2.symm)
theorem wk{M:Model}{i:Nat}{x:Str}{v:V}{u:Value}(I:Inv X pins σ H s)(hN:X.N.Nodup)(hi:X.N[i]?=some x)(hx:Loc X.env.scope x)(r:RelV v u)
  (h:∀s',Inv X pins (σ.set i (some v)) H s'->(∃a,Heap.SameBut a s.heap s'.heap/\(a=X.env.locals\/X.env.cells.lookup x=some a))->Q () s') (hf:X.fn x=true\/X.env.scope.names.lookup x=some .local:=by first|exact .inl rfl|exact .inr rfl|assumption):wpAny M A (storeName X.env x u) Q E s:=by
 obtain⟨m,hn,hl⟩:=id I.loc;have RA:(X.env.scope.kind==.class||(X.env.scope.kind==.module&&X.env.locals != X.env.globals))=false:=by rw[I.ok.kind];rfl
 have ME:i<σ.length:=by rw[I.len];exact(List.getElem?_eq_some_iff.mp hi).1
 have Jb:=I.Jb;have tracked:∀{a:Addr} {h':Heap},(∃o,s.heap.get? a=some o/\H a=none)->Heap.SameBut a s.heap h'->jD X.prog X.w H h':=λ{a h'} ha hs b ob e=>by
  obtain⟨_,_,EL⟩:=ha;refine(I.cD b ob e).mq (λc w' hc q=>(hs.2 c ?_).trans q) (λ_ q=>q) λ_ _ q=>q;rintro rfl;rcases hc with rfl|hc
  ·rw[EL]at e;cases e
  ·rw[EL]at hc;cases hc
 rcases hx with hk|hk
 ·refine wpAny_storeName_local hk hn (λh' Bi hs=>?_) RA;obtain⟨oL,_,_,Mw,_⟩:=id hn;refine h _ ⟨I.ok,I.os,I.bare,⟨λb o e n hb hx=>?_,λb o e n hb hx=>?_,I.base.free,λb o e hx=>?_,I.base.nY,I.base.mH,I.base.nZ⟩,⟨_,Bi,λj y v' e1 e2 e3=>?_⟩,λy c e=>?_,I.free,I.gd,λp hp=>?_,tracked ⟨oL,Mw,I.free⟩ hs,by simpa using I.len⟩ ⟨_,hs,.inl rfl⟩
  ·exact(hs.2 b (Yv (Yu (Yr e) I.ok.above))).trans (I.base.keep b o e n hb hx)
  ·obtain⟨sl,e1⟩:=I.base.slot b o e n hb hx;exact⟨sl,(hs.2 b (Yv (Yu (Yr e) I.ok.above))).trans e1⟩
  ·obtain⟨o',e1⟩:=I.base.there b o e hx;exact⟨o',(hs.2 b (Yv (Yu (Yr e) I.ok.above))).trans e1⟩
  ·by_cases hj:j=i
   ·subst hj;rw[hi]at e1;cases e1;rw[List.getElem?_set_self ME]at e2;cases e2;exact⟨u,r,.inl ⟨hk,by simp⟩⟩
   ·rw[List.getElem?_set_ne (Ne.symm hj)]at e2;obtain⟨u',r',q⟩:=hl j y v' e1 e2 e3;refine⟨u',r',?_⟩;rcases q with ⟨k,e⟩|⟨k,c,e,z⟩
    ·refine .inl ⟨k,?_⟩;have:y≠x:=λe=>hj (qH hN e1 (e▸hi));simp[this,e]
    ·exact .inr ⟨k,c,e,z.sameBut hs (Jb y c e)⟩
  ·obtain⟨w',z⟩:=I.cell y c e;exact⟨w',z.sameBut hs (Jb y c e)⟩
  ·obtain⟨e,n,ne,nf,d⟩:=I.pin p hp;exact⟨(hs.2 p.1 ne).trans e,n,ne,nf,d⟩
 ·have xK:X.fn x=true:=by
   rcases hf with z|z
   ·exact z
   ·rw[z]at hk;cases hk
  obtain⟨c,hc⟩:=I.ok.has x (.inl hk);obtain⟨w',z⟩:=I.cell x c hc;refine wpAny_storeName_cell I.ok.kind hk hc z (λh' xM hs=>?_);obtain⟨oc,Ua,Rm⟩:=id z;refine h { s with heap:=h' } ⟨I.ok,I.os,I.bare,⟨λb o e n hb hx=>?_,λb o e n hb hx=>?_,I.base.free,λb o e hx=>?_,I.base.nY,I.base.mH,I.base.nZ⟩,⟨m,hn.sameBut hs (aat (Jb x c hc)),λj y v' e1 e2 e3=>?_⟩,λy c' e=>?_,I.free,I.gd,λp hp=>?_,tracked ⟨oc,Ua,I.gd x c hc⟩ hs,by simpa using I.len⟩ ⟨c,hs,.inr hc⟩
  ·exact(hs.2 b (Yv (Yu (Yr e) (I.ok.NC x c xK hc)))).trans (I.base.keep b o e n hb hx)
  ·obtain⟨sl,e1⟩:=I.base.slot b o e n hb hx;exact⟨sl,(hs.2 b (Yv (Yu (Yr e) (I.ok.NC x c xK hc)))).trans e1⟩
  ·obtain⟨o',e1⟩:=I.base.there b o e hx;exact⟨o',(hs.2 b (Yv (Yu (Yr e) (I.ok.NC x c xK hc)))).trans e1⟩
  ·by_cases hj:j=i
   ·subst hj;rw[hi]at e1;cases e1;rw[List.getElem?_set_self ME]at e2;cases e2;exact⟨u,r,.inr ⟨.inl hk,c,hc,xM⟩⟩
   ·rw[List.getElem?_set_ne (Ne.symm hj)]at e2;obtain⟨u',r',q⟩:=hl j y v' e1 e2 e3;refine⟨u',r',?_⟩;rcases q with q|⟨k,c',e,z'⟩
    ·exact .inl q
    ·refine .inr ⟨k,c',e,z'.sameBut hs ?_⟩;rintro rfl;exact hj (qH hN e1 (I.ok.inj _ _ _ e hc▸hi))
  ·by_cases Ul:c'=c
   ·subst Ul;exact⟨_,xM⟩
   ·obtain⟨w2,z2⟩:=I.cell y c' e;exact⟨w2,z2.sameBut hs Ul⟩
  ·obtain⟨e,n,ne,nf,d⟩:=I.pin p hp;refine⟨(hs.2 p.1 ?_).trans e,n,ne,nf,d⟩;intro q;rw[q,Ua]at e;have q':oc=p.2:=YB e;exact d w' (by rw[<- q'];exact Rm)
theorem iQ{M:Model}{i:Nat}{x:Str}{v:V}{u:Value}(I:Inv X pins σ H s)(hN:X.N.Nodup)(hi:X.N[i]?=some x)(hx:Loc X.env.scope x)(r:RelV v u)
  (h:∀s',Inv X pins (σ.set i (some v)) H s'->Q () s') (hf:X.fn x=true\/X.env.scope.names.lookup x=some .local:=by first|exact .inl rfl|exact .inr rfl|assumption):wpAny M A (storeName X.env x u) Q E s :=
 wk I hN hi hx r (λs' I' _=>h s' I') hf
theorem Inv.NB{s':Shared}(I:Inv X pins σ H s)(ho:s'.os=s.os)(u:Un (xN X.stack) ch H H' s.heap s'.heap)(cD:jD X.prog X.w H' s'.heap)(hg:AllBare s'.gens)
  (Bj:∀b∈ch,(b∈X.ex\/X.s₀.heap.objs.size<=b)/\b≠X.env.locals/\(∀x c,X.env.cells.lookup x=some c->c≠b)/\∀p∈X.pn++pins,p.1≠b):Inv X pins σ H' s':=by
 obtain⟨h',g',d',t',o'⟩:=s';have e:o'=s.os:=ho;subst e;exact I.call (g':=g') (t':=t') (d':=d') u cD hg Bj
end
noncomputable abbrev XK:=Value->Option Addr->Hp->Prop
noncomputable abbrev St:=List (Option V)
noncomputable abbrev VK:=V->Hp->Prop
noncomputable abbrev TE:=St->Hp->VK->Prop
noncomputable abbrev TT:=St->Hp->(Bool->Hp->Prop)->Prop
noncomputable abbrev TA:=St->Hp->(af->Hp->Prop)->Prop
structure Ends where
 nx:St->Hp->Prop
 rt:VK
 bk:St->Hp->Prop:=λ_ _=>False
 ct:St->Hp->Prop:=λ_ _=>False
noncomputable abbrev TS:=Ends->St->Hp->Prop
def EP(X:Cx)(pins:ak)(σ:St)(Q:VK)(u:Value)(s':Shared):Prop:=∃v H',Inv X pins σ H' s'/\RelV v u/\Q v H'
def TP(X:Cx)(pins:ak)(σ:St)(Q:Bool->Hp->Prop)(b:Bool)(s':Shared):Prop:=∃H',Inv X pins σ H' s'/\Q b H'
def AP(X:Cx)(pins:ak)(σ:St)(Q:af->Hp->Prop)(us:ai)(s':Shared):Prop:=∃vs H',Inv X pins σ H' s'/\Vals vs us/\Q vs H'
def SP(X:Cx)(pins:ak)(D:Ends)(f:Flow)(s':Shared):Prop :=
 match f with
 |.next=>∃σ' H',Inv X pins σ' H' s'/\D.nx σ' H'
 |.brk=>∃σ' H',Inv X pins σ' H' s'/\D.bk σ' H'
 |.cont=>∃σ' H',Inv X pins σ' H' s'/\D.ct σ' H'
 |.ret u=>∃v σ' H',Inv X pins σ' H' s'/\RelV v u/\D.rt v H'
noncomputable def PE(X:Cx)(e:Expr)(t:TE):Prop :=
 ∀(pins:ak) (s:Shared) (σ:St) (H:Hp) (Q:VK),Inv X pins σ H s->t σ H Q->wpAny (model X.prog X.w) X.A (eval e X.env) (EP X pins σ Q) X.xe s
noncomputable def PT(X:Cx)(e:Expr)(t:TT):Prop :=
 ∀(pins:ak) (s:Shared) (σ:St) (H:Hp) (Q:Bool->Hp->Prop),Inv X pins σ H s->t σ H Q->wpAny (model X.prog X.w) X.A (isTrue e X.env (eval e X.env)) (TP X pins σ Q) X.xe s
noncomputable def PW(X:Cx)(e:Expr)(t:TT):Prop :=
 ∀(whole:Sem Value) (pins:ak) (s:Shared) (σ:St) (H:Hp) (Q:Bool->Hp->Prop),Inv X pins σ H s->t σ H Q->wpAny (model X.prog X.w) X.A (isTrue e X.env whole) (TP X pins σ Q) X.xe s
theorem PW.pt{X:Cx}{e:Expr}{t:TT}(h:PW X e t):PT X e t:=h _
noncomputable def PA(X:Cx)(es:au)(t:TA):Prop :=
 ∀(pos:Pos) (pins:ak) (s:Shared) (σ:St) (H:Hp) (Q:af->Hp->Prop),Inv X pins σ H s->t σ H Q->wpAny (model X.prog X.w) X.A (spliced (backTo pos (starEach es X.env))) (AP X pins σ Q) X.xe s
noncomputable def PS(X:Cx)(st:Stmt)(t:TS):Prop :=
 ∀(pins:ak) (s:Shared) (σ:St) (H:Hp) (D:Ends),Inv X pins σ H s->t D σ H->wpAny (model X.prog X.w) X.A (exec st X.env) (SP X pins D) X.xe s
noncomputable def kN(X:Cx)(st:aJ)(t:TS):Prop :=
 ∀(pins:ak) (s:Shared) (σ:St) (H:Hp) (D:Ends),Inv X pins σ H s->t D σ H->wpAny (model X.prog X.w) X.A (execs st X.env) (SP X pins D) X.xe s
theorem cA{α:Type}{t:Sem α}{Q Q':α->Shared->Prop}{M:Model}{s:Shared}(h:wpAny M A t Q E s)(hQ:∀a s,Q a s->Q' a s):wpAny M A t Q' E s:=YC h hQ λ_ _ x=>x
end L2
namespace L2
open PySem PySem.Spec PyProof.Rows
variable {E Q:Value->Shared->Prop}{H:Hp}{pos:Pos}{σ:L2.St}
section
variable {X:Cx}
theorem bin{a b:Expr}{ta tb:TE}(ha:PE X a ta)(hb:PE X b tb){pins:ak}{s:Shared}{R:V->V->Hp->Prop}(I:Inv X pins σ H s)(h:ta σ H λx H1=>tb σ H1 λy H2=>R x y H2)
  {α:Type} {Q:α->Shared->Prop} {f:Value->Value->Sem α}
  (hf:∀v u s2 x y H2,Inv X pins σ H2 s2->RelV x v->RelV y u->R x y H2->wpAny (model X.prog X.w) X.A (f v u) Q X.xe s2) :
  wpAny (model X.prog X.w) X.A (eval a X.env) (λv s₁=>wpAny (model X.prog X.w) X.A (eval b X.env) (λu s₂=>wpAny (model X.prog X.w) X.A (f v u) Q X.xe s₂) X.xe s₁) X.xe s:=by
 refine cA (ha pins s σ H _ I h) λv s1 bz=>?_;obtain⟨x,H1,I1,r1,q1⟩:=bz;refine cA (hb pins s1 σ H1 _ I1 q1) λu s2 bz=>?_;obtain⟨y,H2,I2,r2,q2⟩:=bz;exact hf v u s2 x y H2 I2 r1 r2 q2
noncomputable def yr(i:Nat):TE:=λσ H Q=>∃v,σ[i]?=some (some v)/\Q v H
noncomputable def tC(v:V):TE:=λ_ H Q=>Q v H
theorem sA{i:Nat}{x:Str}(hN:X.N[i]?=some x)(hv:Jn X.env.scope x)(hd:(x==("__debug__" : Str))=false:=by decide)(Ab:(x==("__classdict__" : Str))=false:=by decide):PE X (.Name x pos) (yr i):=by
 intro pins s σ H Q I h;obtain⟨v,e,h⟩:=h;obtain⟨m,hn,hl⟩:=I.loc;obtain⟨u,r,l⟩:=hl i x v hN e hv;have fin:EP X pins σ Q u s:=⟨v,H,I,r,h⟩
 rcases l with ⟨hk,hm⟩|⟨hk,c,hc,hcell⟩
 ·exact wpAny_Name (wpAny_loadName_local I.ok.kind hk hn hm fin) hd
 ·rcases hk with hk|hk
  ·exact wpAny_Name (wpAny_loadName_cell I.ok.kind hk hc hcell fin) hd
  ·exact wpAny_Name (wpAny_loadName_free I.ok.kind hk hc hcell fin Ab) hd
theorem GJ{i j pos}:PE X (.Constant (.int i) j pos) (tC (.int i)):=λ_ _ _ H _ I h=>wpAny_Constant_int ⟨.int i,H,I.tok _,⟨_,rfl⟩,h⟩
theorem Ll{b j pos}:PE X (.Constant (.bool b) j pos) (tC (.bl b)):=λ_ _ _ H _ I h=>Constant_bool ⟨.bl b,H,I,rfl,h⟩
theorem GH{j pos}:PE X (.Constant .none j pos) (tC .bD):=λ_ _ _ H _ I h=>Constant_none ⟨.bD,H,I,rfl,h⟩
theorem Qp{x j pos}:PE X (.Constant (.str x) j pos) (tC (.str x)):=λ_ _ _ H _ I h=>Calls.Constant_str ⟨.str x,H,I.tok _,⟨_,rfl⟩,h⟩
def Gl(X:Cx)(x:Str):Prop:=X.env.kindOf x=some .globalImplicit
theorem uX{pins:ak}{s:Shared}{x:Str}{u:Value}(I:Inv X pins σ H s)(hg:Gl X x)(hm:X.mg x=some u)(h:Q u s)
  (hd:(x==("__debug__" : Str))=false:=by decide):wpAny (model X.prog X.w) X.A (eval (.Name x pos) X.env) Q E s :=
 Calls.Name_function_global I.ok.kind hg (Calls.loadGlobal_global (by rw[I.ok.glob];exact I.mod.glob.keeps I.bk) hm h) hd
theorem cZ{pins:ak}{s:Shared}{x:Str}{u:Value}(I:Inv X pins σ H s)(hg:Gl X x)(hm:X.mg x=none)(hv:bootBuiltins x=some u)(h:Q u s)
  (hn:x ≠ "__name__":=by decide) (hd:(x==("__debug__" : Str))=false:=by decide):wpAny (model X.prog X.w) X.A (eval (.Name x pos) X.env) Q E s:=by
 obtain⟨mb,h1,h2⟩:=I.mod.blt;exact Calls.Name_function_global I.ok.kind hg (Calls.loadGlobal_builtin (by rw[I.ok.glob];exact I.mod.glob.keeps I.bk) hm (by rw[I.ok.blt];exact h1.keeps I.bk) ((h2 x hn).trans hv) h) hd
theorem Ci{x:Str}{v:V}{u:Value}(hg:Gl X x)(hm:X.mg x=some u)(r:RelV v u)(hd:(x==("__debug__" : Str))=false:=by decide):PE X (.Name x pos) (tC v) :=
 λ_ _ _ H _ I h=>uX I hg hm ⟨v,H,I,r,h⟩ hd
theorem Cn{x:Str}{v:V}{u:Value}(hg:Gl X x)(hm:X.mg x=none)(hv:bootBuiltins x=some u)(r:RelV v u)(hn:x ≠ "__name__":=by decide)(hd:(x==("__debug__" : Str))=false:=by decide):PE X (.Name x pos) (tC v) :=
 λ_ _ _ H _ I h=>cZ I hg hm hv ⟨v,H,I,r,h⟩ hn hd
variable {a b:Expr}{ta tb:TE}{pos:Pos}
noncomputable def tB(t:TE):TT:=λσ H Q=>t σ H λx H1=>∃c,x=.bl c/\Q c H1
theorem Gu{e:Expr}{t:TE}(h:PE X e t)(he:∀whole,isTrue e X.env whole=(do let v <- whole;standAt e.pos;holding [v] (truthy v)):=by intro _;rfl):PT X e (tB t):=by
 intro pins s σ H Q I hw;refine isTrue_plain (cA (h pins s σ H _ I hw) λv s1 bz=>?_) (he _);obtain⟨x,H1,I1,r1,q1⟩:=bz;obtain⟨d,rfl,q⟩:=q1;cases r1;exact Y0 ⟨H1,I1,q⟩
variable {tA N4:TT}{rest:au}
noncomputable def Kt(t u:TT):TT:=λσ H Q=>t σ H λc H1=>if c=true then u σ H1 Q else Q false H1
noncomputable def S_(t u:TT):TT:=λσ H Q=>t σ H λc H1=>if c=true then Q true H1 else u σ H1 Q
noncomputable def PC(t:TT):TT:=λσ H Q=>t σ H λc H1=>Q (!c) H1
theorem Cd(ha:PT X a tA):PW X (.BoolOp .And [a] pos) tA:=by
 intro wh pins s σ H Q I h;refine isTrue_and (cA (ha pins s σ H Q I h) λc s1 e=>?_);cases c with
 |true=>exact isTrue_and_nil e
 |false=>exact e
theorem Gp(ha:PT X a tA):PW X (.BoolOp .Or [a] pos) tA:=by
 intro wh pins s σ H Q I h;refine isTrue_or (cA (ha pins s σ H Q I h) λc s1 e=>?_);cases c with
 |false=>exact isTrue_or_nil e
 |true=>exact e
theorem Gq(ha:PT X a tA)(hb:PW X (.BoolOp .And (b::rest) pos) N4):PW X (.BoolOp .And (a::b::rest) pos) (Kt tA N4):=by
 intro wh pins s σ H Q I h;refine isTrue_and (cA (ha pins s σ H _ I h) λc s1 ⟨H1,I1,q1⟩=>?_);cases c with
 |true=>exact hb wh pins s1 σ H1 Q I1 q1
 |false=>exact⟨H1,I1,q1⟩
theorem La(ha:PT X a tA)(hb:PW X (.BoolOp .Or (b::rest) pos) N4):PW X (.BoolOp .Or (a::b::rest) pos) (S_ tA N4):=by
 intro wh pins s σ H Q I h;refine isTrue_or (cA (ha pins s σ H _ I h) λc s1 ⟨H1,I1,q1⟩=>?_);cases c with
 |true=>exact⟨H1,I1,q1⟩
 |false=>exact hb wh pins s1 σ H1 Q I1 q1
theorem Gv(ha:PT X a tA):PT X (.UnaryOp .Not a pos) (PC tA):=by
 intro pins s σ H Q I h;exact isTrue_not (ha pins s σ H (λc H1=>Q (!c) H1) I h)
noncomputable def Ee(ta tb:TE):TE:=λσ H Q=>ta σ H λx H1=>∃c,x=.bl c/\if c=true then tb σ H1 Q else Q (.bl false) H1
noncomputable def Km(ta tb:TE):TE:=λσ H Q=>ta σ H λx H1=>∃c,x=.bl c/\if c=true then Q (.bl true) H1 else tb σ H1 Q
noncomputable def Kn(ta:TE):TE:=λσ H Q=>ta σ H λx H1=>∃c,x=.bl c/\Q (.bl (!c)) H1
theorem yY{op}{t:TE}(h:PE X a t):PE X (.BoolOp op [a] pos) t:=λpins s σ H Q I hw=>BoolOp_one (h pins s σ H Q I hw)
theorem GN(ha:PE X a ta)(hb:PE X (.BoolOp .And (b::rest) pos) tb):PE X (.BoolOp .And (a::b::rest) pos) (Ee ta tb):=by
 intro pins s σ H Q I h;refine BoolOp_and (cA (ha pins s σ H _ I h) λv s1 bz=>?_);obtain⟨x,H1,I1,r1,q1⟩:=bz;obtain⟨c,rfl,q1⟩:=q1;cases r1;refine Y0 ?_;cases c with
 |true=>exact hb pins s1 σ H1 Q I1 q1
 |false=>exact⟨.bl false,H1,I1,rfl,q1⟩
theorem Li(ha:PE X a ta)(hb:PE X (.BoolOp .Or (b::rest) pos) tb):PE X (.BoolOp .Or (a::b::rest) pos) (Km ta tb):=by
 intro pins s σ H Q I h;refine BoolOp_or (cA (ha pins s σ H _ I h) λv s1 bz=>?_);obtain⟨x,H1,I1,r1,q1⟩:=bz;obtain⟨c,rfl,q1⟩:=q1;cases r1;refine Y0 ?_;cases c with
 |false=>exact hb pins s1 σ H1 Q I1 q1
 |true=>exact⟨.bl true,H1,I1,rfl,q1⟩
theorem GG(ha:PE X a ta):PE X (.UnaryOp .Not a pos) (Kn ta):=by
 intro pins s σ H Q I h;refine UnaryOp_ (cA (ha pins s σ H _ I h) λv s1 bz=>?_);obtain⟨x,H1,I1,r1,q1⟩:=bz;obtain⟨c,rfl,q1⟩:=q1;cases r1;exact not_of (Y0 ⟨.bl (!c),H1,I1,rfl,q1⟩)
noncomputable def Vh(t:TT)(ta tb:TE):TE:=λσ H Q=>t σ H λc H1=>if c=true then ta σ H1 Q else tb σ H1 Q
theorem y2{c:Expr}(hc:PT X c tA)(ha:PE X a ta)(hb:PE X b tb):PE X (.IfExp c a b pos) (Vh tA ta tb):=by
 intro pins s σ H Q I h;refine wpAny_IfExp (cA (hc pins s σ H _ I h) λd s1 ⟨H1,I1,q1⟩=>?_);cases d with
 |true=>exact ha pins s1 σ H1 Q I1 q1
 |false=>exact hb pins s1 σ H1 Q I1 q1
end
end L2
namespace L2
open PySem PySem.Spec PyProof.Rows
def cH(K:ao)(H:Hp)(a:Addr)(xs:af):Prop :=
 Rd H a (.lst xs) \/
  ∃(o:Obj) (aC:aQ) (n:Nat),K.lookup a=some o/\o.cls=.type "list" /\ o.dict=none/\o.data=.seq aC n/\aC.size<=sizeLine/\Vals xs aC.toList
def aN(K:ao)(H:Hp)(a:Addr)(xs:af):Prop :=
 Rd H a (.tup xs) \/
  ∃(o:Obj) (aC:aQ) (n:Nat),K.lookup a=some o/\o.cls=.type "tuple" /\ o.data=.seq aC n/\aC.size<=sizeLine/\Vals xs aC.toList
noncomputable def SG:Value->Option V
 |.none=>some .bD
 |.bool b=>some (.bl b)
 |.int i _=>some (.int i)
 |.str x _=>some (.str x)
 |.bytes b _=>some (.Sy b)
 |.float b _=>some (.Nf b)
 |.ref a=>some (.ref a)
 |.type n=>some (.ty n)
 |_=>none
theorem RelV.abs{x:V}{u:Value}(r:RelV x u):SG u=some x:=by
 cases x with
 |bD=>cases r;rfl
 |bl _=>cases r;rfl
 |int _=>obtain⟨t,rfl⟩:=r;rfl
 |str _=>obtain⟨t,rfl⟩:=r;rfl
 |Sy _=>obtain⟨t,rfl⟩:=r;rfl
 |Nf _=>obtain⟨t,rfl⟩:=r;rfl
 |ref _=>cases r;rfl
 |ty _=>cases r;rfl
theorem RelV.inj{x y:V}{u:Value}(r:RelV x u)(q:RelV y u):x=y:=YB (r.abs.symm.trans q.abs)
theorem Vals.inj:∀{xs ys:af} {us:ai},Vals xs us->Vals ys us->xs=ys
 |_,_,_,.nil,.nil=>rfl
 |_,_,_,.cons r t,.cons r' t'=>by rw[r.inj r',Vals.inj t t']
variable {K:ao}
section
variable {X:Cx}{pins:ak}{σ:St}{H:Hp}{s:Shared}{a:Addr}{xs ys:af}
theorem cH.of(h:H a=some (.lst xs)):cH K H a xs:=.inl (.inl h)
theorem aN.of(h:H a=some (.tup xs)):aN K H a xs:=.inl (.inl h)
theorem Inv.list(I:Inv X pins σ H s)(h:cH X.K H a xs):∃aC:ai,Vals xs aC/\PlainL s.heap a aC.toArray/\xs.length<=sizeLine:=by
 rcases h with h|⟨o,aC,n,hk,hc,hd,hs,hz,r⟩
 ·obtain⟨z,aC,n,r,e⟩:=h.ok I.cD;exact⟨aC,r,⟨_,n,e,rfl,rfl,rfl⟩,z⟩
 ·refine⟨aC.toList,r,⟨o,n,I.xF a o hk,hc,hd,by simpa using hs⟩,?_⟩;have e:=r.length;simp only[Array.length_toList]at e;left
theorem Inv.tuple(I:Inv X pins σ H s)(h:aN X.K H a xs):∃aC:ai,Vals xs aC/\IsTup s.heap a aC.toArray/\xs.length<=sizeLine:=by
 rcases h with h|⟨o,aC,n,hk,hc,hs,hz,r⟩
 ·obtain⟨z,aC,r,p⟩:=h.ok I.cD;exact⟨aC,r,p,z⟩
 ·refine⟨aC.toList,r,⟨o,I.xF a o hk,hc,n,by simpa using hs⟩,?_⟩;have e:=r.length;simp only[Array.length_toList]at e;left
theorem Inv.fZ(I:Inv X pins σ H s)(h:cH X.K H a xs)(h':cH X.K H a ys):xs=ys:=by
 obtain⟨aC,r,⟨o,n,e,_,_,d⟩,_⟩:=I.list h;obtain⟨its',r',⟨o',n',e',_,_,d'⟩,_⟩:=I.list h';rw[e]at e';cases e';rw[d]at d';injection d' with d1 _;have:aC=its':=by simpa using congrArg Array.toList d1
 subst this;exact r.inj r'
theorem Inv.mT(I:Inv X pins σ H s)(h:aN X.K H a xs)(h':aN X.K H a ys):xs=ys:=by
 obtain⟨aC,r,⟨o,e,_,n,d⟩,_⟩:=I.tuple h;obtain⟨its',r',⟨o',e',_,n',d'⟩,_⟩:=I.tuple h';rw[e]at e';cases e';rw[d]at d';injection d' with d1 _;have:aC=its':=by simpa using congrArg Array.toList d1
 subst this;exact r.inj r'
end
noncomputable abbrev Cx.mj(X:Cx)(E:av):Cx:={ X with xe:=E }
abbrev Cx.LA(X:Cx):Cx:=X.mj λ_ _=>False
theorem Cx.Ok.mj{X:Cx}(ok:X.Ok)(E:av):(X.mj E).Ok :=
 ⟨ok.mod,ok.kind,ok.glob,ok.blt,ok.above,ok.inj,ok.has,ok.NC,ok.hd,ok.frames,ok.N5,ok.UD,ok.bs,ok.EY,ok.zb,ok.Dg,ok.jZ,ok.JP⟩
variable {E:Value->Shared->Prop}{X:Cx}
theorem Cx.Ok.fN(ok:(X.mj E).Ok):X.Ok :=
 ⟨ok.mod,ok.kind,ok.glob,ok.blt,ok.above,ok.inj,ok.has,ok.NC,ok.hd,ok.frames,ok.N5,ok.UD,ok.bs,ok.EY,ok.zb,ok.Dg,ok.jZ,ok.JP⟩
section
variable {X:Cx}{pins:ak}{σ:St}{H:Hp}{s:Shared}{E:av}
theorem Inv.mj(I:Inv X pins σ H s)(E:av):Inv (X.mj E) pins σ H s:=⟨I.ok.mj E,I.os,I.bare,I.base,I.loc,I.cell,I.free,I.gd,I.pin,I.cD,I.len⟩
theorem Inv.fN(I:Inv (X.mj E) pins σ H s):Inv X pins σ H s:=⟨I.ok.fN,I.os,I.bare,I.base,I.loc,I.cell,I.free,I.gd,I.pin,I.cD,I.len⟩
theorem SP.fN{D:Ends}{f:Flow}{s':Shared}(h:SP (X.mj E) pins D f s'):SP X pins D f s':=by
 cases f with
 |next=>obtain⟨σ',H',I,q⟩:=h;exact⟨σ',H',I.fN,q⟩
 |brk=>obtain⟨σ',H',I,q⟩:=h;exact⟨σ',H',I.fN,q⟩
 |cont=>obtain⟨σ',H',I,q⟩:=h;exact⟨σ',H',I.fN,q⟩
 |ret u=>obtain⟨v,σ',H',I,r,q⟩:=h;exact⟨v,σ',H',I.fN,r,q⟩
theorem kN.LA{st:aJ}{t:TS}(h:kN X.LA st t):kN X st t:=λpins s σ H D I hw =>
 YC (h pins s σ H D (I.mj _) hw) (λ_ _ q=>q.fN) λ_ _ z=>False.elim z
end
variable {H:Hp}{σ:L2.St}
section
variable {X:Cx}{st:Stmt}{rest:aJ}{t u:TS}{e:Expr}{te:TE}{pos:Pos}
noncomputable def Ec:TS:=λD σ H=>D.nx σ H
noncomputable def Py(t u:TS):TS:=λD σ H=>t { D with nx:=u D } σ H
theorem Cf:kN X [] Ec:=λ_ _ σ H _ I h=>wpAny_execs_nil ⟨σ,H,I,h⟩
theorem yN(h1:PS X st t)(h2:kN X rest u):kN X (st::rest) (Py t u):=by
 intro pins s σ H D I h;refine wpAny_execs_cons (cA (h1 pins s σ H { D with nx:=u D } I h) λf s1 q=>?_);cases f with
 |next =>
  obtain⟨σ',H',I',q⟩:=q;exact h2 pins s1 σ' H' D I' q
 |ret v=>exact q
 |brk=>exact q
 |cont=>exact q
noncomputable def FJ:TS:=λD σ H=>D.bk σ H
noncomputable def Kr:TS:=λD σ H=>D.ct σ H
theorem Oh:PS X (.Pass pos) Ec:=λ_ _ σ H _ I h=>wpAny_Pass ⟨σ,H,I,h⟩
theorem Le:PS X (.Break pos) FJ:=λ_ _ σ H _ I h=>wpAny_Break ⟨σ,H,I,h⟩
theorem Eo:PS X (.Continue pos) Kr:=λ_ _ σ H _ I h=>wpAny_Continue ⟨σ,H,I,h⟩
theorem Inv.quiet{pins:ak}{s:Shared}(I:Inv X pins σ H s):interactive X.env=false:=by simp[interactive,I.ok.kind]
noncomputable def Kq(te:TE):TS:=λD σ H=>te σ H λ_ H1=>D.nx σ H1
theorem oy(he:PE X e te)(hs:swapsWith e none pos.line X.env=pure false:=by rfl):PS X (.Expr e pos) (Kq te):=by
 intro pins s σ H D I h;exact wpAny_Expr_any (cA (he pins s σ H _ I h) λv s1 ⟨x,H1,I1,r1,q1⟩=>⟨σ,H1,I1,q1⟩) I.quiet hs
noncomputable def Pz(te:TE):TS:=λD σ H=>te σ H D.rt
theorem Gw(he:PE X e te):PS X (.Return (some e) pos) (Pz te):=by
 intro pins s σ H D I h;exact wpAny_Return_some (cA (he pins s σ H _ I h) λv s1 ⟨x,H1,I1,r1,q1⟩=>⟨x,σ,H1,I1,r1,q1⟩)
noncomputable def Kk:TS:=λD _ H=>D.rt .bD H
theorem Og:PS X (.Return none pos) Kk:=λ_ _ σ H _ I h=>wpAny_Return_none ⟨.bD,σ,H,I,rfl,h⟩
noncomputable def PF(c:TT)(t u:TS):TS:=λD σ H=>c σ H λb H1=>if b=true then t D σ H1 else u D σ H1
theorem Ld{c:Expr}{a b:aJ}{tc:TT}(hc:PT X c tc)(ha:kN X a t)(hb:kN X b u):PS X (.If c a b pos) (PF tc t u):=by
 intro pins s σ H D I h;refine wpAny_If (cA (hc pins s σ H _ I h) λd s1 ⟨H1,I1,q1⟩=>?_);cases d with
 |true=>exact ha pins s1 σ H1 D I1 q1
 |false=>exact hb pins s1 σ H1 D I1 q1
end
noncomputable abbrev TG:=V->St->Hp->(St->Hp->Prop)->Prop
noncomputable abbrev DX:=af->St->Hp->(St->Hp->Prop)->Prop
def PG(X:Cx)(target:Expr)(t:TG):Prop :=
 ∀(pins:ak) (s:Shared) (σ:St) (H:Hp) (v:V) (u:Value) (Q:St->Hp->Prop),Inv X pins σ H s->RelV v u->t v σ H Q ->
  wpAny (model X.prog X.w) X.A (assign target X.env u) (λ_ s'=>∃σ' H',Inv X pins σ' H' s'/\Q σ' H') X.xe s
def JV(X:Cx)(ts:au)(t:DX):Prop :=
 ∀(pins:ak) (s:Shared) (σ:St) (H:Hp) (vs:af) (us:ai) (Q:St->Hp->Prop),Inv X pins σ H s->Vals vs us->t vs σ H Q ->
  wpAny (model X.prog X.w) X.A (assignInOrder ((assignEach ts X.env).map (·.2)) us) (λ_ s'=>∃σ' H',Inv X pins σ' H' s'/\Q σ' H') X.xe s
noncomputable abbrev Jo:=V->V->V->Hp->(Hp->Prop)->Prop
def NU(X:Cx)(t:Jo):Prop :=
 ∀(pins:ak) (s:Shared) (σ:St) (H:Hp) (o i v:V) (ov iv u:Value) (Q:Hp->Prop),Inv X pins σ H s->RelV o ov->RelV i iv->RelV v u->t o i v H Q ->
  wpAny (model X.prog X.w) X.A (setItem ov iv u) (λ_ s'=>∃H',Inv X pins σ H' s'/\Q H') X.xe s
noncomputable abbrev Pd:=V->V->Hp->VK->Prop
def Pe(X:Cx)(op:Operator)(t:Pd):Prop :=
 ∀(pins:ak) (s:Shared) (σ:St) (H:Hp) (x y:V) (v u:Value) (Q:VK),Inv X pins σ H s->RelV x v->RelV y u->t x y H Q ->
  wpAny (model X.prog X.w) X.A (inplaceOp op v u) (EP X pins σ Q) X.xe s
variable {es:au}{te:TE}{tg:Expr}
section
variable {X:Cx}{pos:Pos}
noncomputable def nB(i:Nat):TG:=λv σ H Q=>Q (σ.set i (some v)) H
theorem oA{i:Nat}{x:Str}(hN:X.N.Nodup)(hi:X.N[i]?=some x)(hx:Loc X.env.scope x)(hf:X.fn x=true\/X.env.scope.names.lookup x=some .local:=by first|exact .inl rfl|exact .inr rfl|assumption):PG X (.Name x pos) (nB i):=by
 intro pins s σ H v u Q I r h;exact wpAny_assign_Name (iQ I hN hi hx r (λs' I'=>⟨_,H,I',h⟩) hf)
noncomputable def Ih:DX:=λvs σ H Q=>vs=[]/\Q σ H
noncomputable def Ao(t:TG)(u:DX):DX:=λvs σ H Q=>∃v r,vs=v::r/\t v σ H λσ' H'=>u r σ' H' Q
theorem uI:JV X [] Ih:=by
 intro pins s σ H vs us Q I r h;obtain⟨e,h⟩:=h;subst e;cases r;exact assignInOrder_nil ⟨σ,H,I,h⟩
theorem qE{e:Expr}{t:TG}{u:DX}(h1:PG X e t)(h2:JV X es u)
  (hs:(assignEach (e::es) X.env).map (·.2)=assign e X.env::(assignEach es X.env).map (·.2):=by rfl):JV X (e::es) (Ao t u):=by
 intro pins s σ H vs us Q I r h;obtain⟨v,vr,e1,h⟩:=h;subst e1;cases r with
 |cons r rr =>
  rw[hs];refine assignInOrder_cons (cA (h1 pins s σ H _ _ _ I r h) λ_ s1 bz=>?_);obtain⟨σ1,H1,I1,q1⟩:=bz;exact h2 pins s1 σ1 H1 _ _ Q I1 rr q1
def RU(K:ao)(n:Nat)(t:DX):TG:=λv σ H Q=>∃a xs,v=.ref a/\aN K H a xs/\xs.length=n/\t xs σ H Q
theorem yU{k:Nat}{t:DX}{n:Nat}(hc:X.calm=true)(h:JV X es t)
  (hn:(assignEach es X.env).length=n:=by rfl) (mE:(assignEach es X.env).findIdx? (·.1)=none:=by rfl):PG X (.Tuple es k pos) (RU X.K n t):=by
 intro pins s σ H v u Q I r hw;obtain⟨a,xs,e1,hq,hl,hw⟩:=hw;subst e1;cases r;obtain⟨aC,rv,ht,hz⟩:=I.tuple hq;refine assign_Tuple_tuple (I.ok.hd hc) ht (by simp[hn,<- hl,rv.length]) mE λh' hx=>?_;have I1:Inv X pins σ H { s with heap:=h' }:=I.kept (t':=s.toks) λb o e=>hx b o (Yv (Yr e)) e;exact h pins _ σ H xs _ Q I1 (by simpa using rv) hw
noncomputable def RV(to ti:TE)(t:Jo):TG:=λv σ H Q=>to σ H λo H1=>ti σ H1 λi H2=>t o i v H2 λH3=>Q σ H3
theorem GB{o i:Expr}{to ti:TE}{t:Jo}(ho:PE X o to)(hi:PE X i ti)(hs:NU X t)
  (ha:∀v,assign (.Subscript o i pos) X.env v=(do
   let ov <- holding [v] (eval o X.env)
   let iv <- holding [v,ov] (eval i X.env)
   standAt pos
   holding [v,ov,iv] (setItem ov iv v)
   release [v,ov,iv] []):=by intro _;rfl):PG X (.Subscript o i pos) (RV to ti t):=by
 intro pins s σ H v u Q I r h;rw[ha];refine Yj (YD (cA (ho pins s σ H _ I h) λov s1 bz=>?_));obtain⟨x,H1,I1,r1,q1⟩:=bz;refine Yj (YD (cA (hi pins s1 σ H1 _ I1 q1) λiv s2 bz=>?_));obtain⟨y,H2,I2,r2,q2⟩:=bz;refine Yj (aaC (Yj (YD (cA (hs pins s2 σ H2 x y v ov iv u _ I2 r1 r2 r q2) λ_ s3 bz=>?_))));obtain⟨H3,I3,q3⟩:=bz;exact wpAny_release ⟨σ,H3,I3,q3⟩
noncomputable def PL(te:TE)(g:TG):TS:=λD σ H=>te σ H λx H1=>g x σ H1 D.nx
theorem yQ{e:Expr}{g:TG}(he:PE X e te)(hg:PG X tg g)(hs:swapsWithSole [tg] e pos.line X.env=pure false:=by rfl)(hw:swappedStores [tg] e X.env=pure none:=by rfl)
  (h1:(assignEach [tg] X.env).map (·.2)=[assign tg X.env]:=by rfl):PS X (.Assign [tg] e pos) (PL te g):=by
 intro pins s σ H D I h;refine wpAny_Assign_stores (cA (he pins s σ H _ I h) λv s1 bz=>?_) hs hw;obtain⟨x,H1,I1,r1,q1⟩:=bz;rw[h1];exact cA (hg pins s1 σ H1 x v _ I1 r1 q1) λ_ s2 q=>q
noncomputable def PB(i j:Nat)(ta:TA):TS:=λD σ H=>ta σ H λvs H1=>∃v w,vs=[v,w]/\D.nx ((σ.set i (some v)).set j (some w)) H1
theorem Gx{i j:Nat}{x y:Str}{a b:Expr}{ta:TA}{px py pt:Pos}{kt k2 Jv}(hc:X.calm=true)(hN:X.N.Nodup)(hi:X.N[i]?=some x)(hj:X.N[j]?=some y)(gU:i≠j)
  (hx:X.env.scope.names.lookup x=some .local) (hy:X.env.scope.names.lookup y=some .local) (ha:PA X [a,b] ta)
  (hw:swappedStores [.Tuple [.Name x px,.Name y py] kt pt] (.Tuple [a,b] k2 Jv) X.env=pure (some [x,y]))
  (hs:swapsWithSole [.Tuple [.Name x px,.Name y py] kt pt] (.Tuple [a,b] k2 Jv) pos.line X.env=pure false:=by rfl) :
  PS X (.Assign [.Tuple [.Name x px,.Name y py] kt pt] (.Tuple [a,b] k2 Jv) pos) (PB i j ta):=by
 intro pins s σ H D I h;rw[exec_Assign_arm];refine Yj (aaC ?_);rw[hs];refine Yj (Yk ?_);rw[if_neg (by decide)];refine Yj (Tuple_ (cA (ha _ pins s σ H _ I h) λus s1 bz=>?_));obtain⟨vs,H1,I1,r1,q1⟩:=bz;obtain⟨v,w,e1,q1⟩:=q1;subst e1;obtain⟨u1,u2,rfl,rv,iT⟩:∃u1 u2,us=[u1,u2]/\RelV v u1/\RelV w u2:=by
  cases r1 with
  |cons p q =>
   cases q with
   |cons p' q' =>
    cases q';exact⟨_,_,rfl,p,p'⟩
 refine YO ?_ (by show 2<=sizeLine;decide);have I2:Inv X pins σ H1 { s1 with heap:=s1.heap.push { cls:=.type "tuple",data:=.seq [u1,u2].toArray } }:=I1.kept (t':=s1.toks) λb o e=>Ym _ e;rw[hw];refine Yj (Yk ?_);show wpAny (model X.prog X.w) X.A (do rule "assign.swapped-stores";let items <- unpackItems (.ref s1.heap.objs.size) 2 none;assignInOrder [λv=>bindName X.env y v,λv=>bindName X.env x v] items.reverse;pure Flow.next) _ _ _;refine Yj (ZF (Yj (unpackItems_tuple (items:=#[u1,u2]) (I.ok.hd hc) (IsTup.new s1.heap _) λh' EI=>?_)));have I3:=I2.kept (h':=h') (t':=s1.toks) λb o e=>EI b o (Yv (Yr e)) e;show wpAny _ _ (assignInOrder [λv=>bindName X.env y v,λv=>bindName X.env x v] [u2,u1] >>= λ_=>pure Flow.next) _ _ _;refine Yj (assignInOrder_cons (wpAny_bindName (iQ I3 hN hj (.inl hy) iT (λs2 I4=>?_) (.inr hy))));refine assignInOrder_cons (wpAny_bindName (iQ I4 hN hi (.inl hx) rv (λs3 I5=>assignInOrder_nil (Yk ?_)) (.inr hx)));rw[List.set_comm _ _ (Ne.symm gU)]at I5;exact⟨_,H1,I5,q1⟩
noncomputable def PK(i:Nat)(te:TE)(ti:Pd):TS:=λD σ H=>∃x,σ[i]?=some (some x)/\te σ H λy H1=>ti x y H1 λz H2=>D.nx (σ.set i (some z)) H2
theorem Gy{i:Nat}{x:Str}{e:Expr}{op:Operator}{ti:Pd}{pos':Pos}(hN:X.N.Nodup)(hi:X.N[i]?=some x)(hx:Loc X.env.scope x)(he:PE X e te)(ho:Pe X op ti)(hf:X.fn x=true\/X.env.scope.names.lookup x=some .local:=by first|exact .inl rfl|exact .inr rfl|assumption):
  PS X (.AugAssign (.Name x pos') op e pos) (PK i te ti):=by
 intro pins s σ H D I h;obtain⟨v,e1,h⟩:=h;obtain⟨m,hn,hl⟩:=I.loc;have NW:Jn X.env.scope x:=by rcases hx with k|k;exact .inl k;exact .inr (.inl k)
 obtain⟨u,r,l⟩:=hl i x v hi e1 NW;refine wpAny_AugAssign_Name ?_;have go:wpAny (model X.prog X.w) X.A (eval e X.env) (λw s₂=>wpAny (model X.prog X.w) X.A (inplaceOp op u w) (λr s₃=>wpAny (model X.prog X.w) X.A (storeName X.env x r) (λ_=>SP X pins D .next) X.xe s₃) X.xe s₂) X.xe s:=by
  refine cA (he pins s σ H _ I h) λw s1 bz=>?_;obtain⟨y,H1,I1,r1,q1⟩:=bz;refine cA (ho pins s1 σ H1 v y u w _ I1 r r1 q1) λz s2 bz=>?_;obtain⟨zv,H2,I2,r2,q2⟩:=bz;exact iQ I2 hN hi hx r2 (λs3 I3=>⟨_,H2,I3,q2⟩) hf
 rcases l with ⟨hk,hm⟩|⟨hk,c,hc,hcell⟩
 ·exact wpAny_loadName_local I.ok.kind hk hn hm go
 ·rcases hk with hk|hk
  ·exact wpAny_loadName_cell I.ok.kind hk hc hcell go
  ·rcases hx with k|k
   ·have:X.env.scope.names.lookup x=some .free:=hk;rw[k]at this;cases this
   ·have:X.env.scope.names.lookup x=some .free:=hk;rw[k]at this;cases this
noncomputable def QZ(f:Int->Int->Int):Pd:=λx y H Q=>∃i j,x=.int i/\y=.int j/\Q (.int (f i j)) H
theorem Hy:Pe X .Add (QZ λi j=>i+j):=by
 intro pins s σ H x y v u Q I r1 r2 h;obtain⟨i,j,e1,e2,q⟩:=h;subst e1;subst e2;obtain⟨t,rfl⟩:=r1;obtain⟨t',rfl⟩:=r2;exact iadd_int ⟨.int _,H,I.tok _,⟨_,rfl⟩,q⟩
theorem Hx:Pe X .Sub (QZ λi j=>i - j):=by
 intro pins s σ H x y v u Q I r1 r2 h;obtain⟨i,j,e1,e2,q⟩:=h;subst e1;subst e2;obtain⟨t,rfl⟩:=r1;obtain⟨t',rfl⟩:=r2;exact isub_int ⟨.int _,H,I.tok _,⟨_,rfl⟩,q⟩
end
section
variable {X:Cx}{pos:Pos}
noncomputable def FG(c:TT)(tb:TS):TS:=λD σ H=>∃W:Nat->St->Hp->Prop,(∃m,W m σ H)/\∀m σ H,W m σ H ->
 c σ H λb H1=>if b=true then ∃N:St->Hp->Prop,(∀σ' H',N σ' H'->∃m',m'<m/\W m' σ' H')/\tb { D with nx:=N,ct:=N,bk:=D.nx } σ H1 else D.nx σ H1
theorem yO{c:Expr}{body:aJ}{tc:TT}{tb:TS}(hp:PassesOwn (model X.prog X.w) X.A X.env X.xe)(hc:PT X c tc)(hb:kN X body tb):PS X (.While c body [] pos) (FG tc tb):=by
 intro pins s σ H D I h;obtain⟨W,⟨m0,w0⟩,turn⟩:=h;refine wpAny_While (codeAny_whileLoop (λn s'=>∃σ' H',Inv X pins σ' H' s'/\W n σ' H') ?_ m0 ⟨σ,H,I,w0⟩);rintro n s1 ⟨σ1,H1,I1,w1⟩;refine Zh hp (cA (hc pins s1 σ1 H1 _ I1 (turn n σ1 H1 w1)) λb s2 ⟨H2,I2,q2⟩=>?_);cases b with
 |true =>
  obtain⟨N,hN,q2⟩:=q2;rw[if_pos rfl];refine Zh hp (cA (hb pins s2 σ1 H2 _ I2 q2) λf s3 q3=>?_);cases f with
  |next =>
   obtain⟨σ3,H3,I3,n3⟩:=q3;obtain⟨m',hm,w3⟩:=hN σ3 H3 n3;exact⟨m',hm,σ3,H3,I3,w3⟩
  |cont =>
   obtain⟨σ3,H3,I3,n3⟩:=q3;obtain⟨m',hm,w3⟩:=hN σ3 H3 n3;exact⟨m',hm,σ3,H3,I3,w3⟩
  |brk=>exact q3
  |ret v=>exact q3
 |false =>
  rw[if_neg Bool.false_ne_true];exact wpAny_execs_nil ⟨σ1,H2,I2,q2⟩
end
structure It where
 go:Nat->Hp->Prop
 rQ:Nat->Hp->V->Hp->Prop
 stop:Nat->Hp->Prop
noncomputable def me(X:Cx)(pins:ak)(H:Hp)(b:Addr):Prop :=
 H b=none/\b≠X.env.locals/\b∉X.fs/\(b∈X.ex\/X.s₀.heap.objs.size<=b)/\(∀x c,X.env.cells.lookup x=some c->c≠b)/\∀p∈X.pn++pins,p.1≠b
theorem Inv.Aq{pins:ak}{H':Hp}{s:Shared}{b:Addr}(I:Inv X pins σ H s)(hb:s.heap.objs.size<=b)(hn:H' b=none):me X pins H' b:=by
 refine⟨hn,Y3 (Yu I.lt hb),I.G3 hb,.inr (YL I.sz hb),λx c e z=>?_,λp hp z=>?_⟩
 ·obtain⟨v,q⟩:=I.cell x c e;exact absurd (Yu q.lt (by rw[z];exact hb)) (YG _)
 ·exact absurd (Yu (Yr (I.pin p hp).1) (by rw[z];exact hb)) (YG _)
structure Turn(P:ax)(w:World)(K:ao)(tg:Expr)(J:It)(fp:aM)(it:Addr)(tn:Nat->Heap->Prop):Prop where
 mem:it∈fp
 obj:∀i h,tn i h->∀b∈fp,∃o,h.get? b=some o/\∀v,o.data≠.cell v
 keep:∀i h h',tn i h->(∀b∈fp,∀o,h.get? b=some o->h'.get? b=some o)->tn i h'
 item:∀(X:Cx),X.prog=P->X.w=w->X.K=K->X.calm=true->∀(i:Nat) (pins:ak) (s:Shared) (σ:St) (H:Hp) (E:av),Inv X pins σ H s->(∀b∈fp,me X pins H b)->tn i s.heap->J.go i H ->
  wpAny (model P w) X.A (pyNext (.ref it)) (λr s1=>∃u,r=some u /\
   wpAny (model P w) X.A (letOwnedTupleGo tg (.ref it) u) (λ_ s2=>∃x H',Inv X pins σ H' s2/\RelV x u/\J.rQ i H x H'/\tn (i+1) s2.heap/\∀b∈fp,H' b=none) E s1) E s
 done:∀(X:Cx),X.prog=P->X.w=w->X.K=K->X.calm=true->∀(i:Nat) (pins:ak) (s:Shared) (σ:St) (H:Hp) (E:av),Inv X pins σ H s->(∀b∈fp,me X pins H b)->tn i s.heap->J.stop i H ->
  wpAny (model P w) X.A (pyNext (.ref it)) (λr s1=>r=none/\Inv X pins σ H s1) E s
 self:∀(A:ay) (i:Nat) (s:Shared) (Q:av) (E:av),tn i s.heap->Q (.ref it) s->wpAny (model P w) A (pyIter (.ref it)) Q E s
noncomputable abbrev TI:=St->Hp->(It->Hp->Prop)->Prop
def A_(X:Cx)(pins:ak)(σ:St)(tg:Expr)(R:It->Hp->Prop)(QR:Value)(s2:Shared):Prop :=
 ∃(it:Addr) (fp:aM) (tn:Nat->Heap->Prop) (J:It) (H':Hp),QR=.ref it/\Inv X pins σ H' s2/\Turn X.prog X.w X.K tg J fp it tn/\tn 0 s2.heap/\(∀b∈fp,me X pins H' b)/\R J H'
def PI(X:Cx)(tg iter:Expr)(wi:TI):Prop :=
 ∀(pins:ak) (s:Shared) (σ:St) (H:Hp) (R:It->Hp->Prop),Inv X pins σ H s->wi σ H R ->
  wpAny (model X.prog X.w) X.A (eval iter X.env) (λv s1=>wpAny (model X.prog X.w) X.A (pyIter v) (A_ X pins σ tg R) X.xe s1) X.xe s
theorem Ak{M:Model}{A:ay}{s:Shared}{it:Addr}{u:Value}{o:Obj}{n:String}{vs:aQ}{Q:Unit->Shared->Prop}(ho:s.heap.get? it=some o)(hc:o.cls=.type n)(hd:o.data=.fields vs)
    (hn:["enumerate","zip","dict_itemiterator","dict_reverseitemiterator","odict_iterator","itertools.zip_longest","itertools.pairwise"].contains n=false) (hQ:Q () s):wpAny M A (letOwnedTupleGo tg (.ref it) u) Q E s:=by
  unfold letOwnedTupleGo;cases tg<;>first
    |exact Yk hQ
    | (cases u<;>first
        |exact Yk hQ
        | (refine Yj (wpAny_load ho ?_)
           rw[hc,hd];show wpAny M A (if (["enumerate","zip","dict_itemiterator","dict_reverseitemiterator","odict_iterator","itertools.zip_longest","itertools.pairwise"].contains n&&vs[0]?==some (rawInt _))=true then _ else _) Q E s;rw[if_neg (by intro h;rw[hn,Bool.false_and]at h;cases h)];exact Yk hQ))
def JX(K:ao)(a:Addr):It :=
 ⟨λi H=>∃xs x,cH K H a xs/\xs[i]?=some x,λi H x H'=>H'=H/\∀xs,cH K H a xs->xs[i]?=some x,λi H=>∃xs,cH K H a xs/\xs.length<=i⟩
def JW(K:ao)(a:Addr):It :=
 ⟨λi H=>∃xs x,aN K H a xs/\xs[i]?=some x,λi H x H'=>H'=H/\∀xs,aN K H a xs->xs[i]?=some x,λi H=>∃xs,aN K H a xs/\xs.length<=i⟩
noncomputable def xB(lo:Int)(n:Nat):It:=⟨λi _=>i<n,λi H x H'=>H'=H/\x=.int (lo+i),λi _=>n<=i⟩
variable {P:ax}{w:World}
theorem wb(a it:Addr):Turn P w K tg (JX K a) [it] it (λi h=>h.IsListIter it a i) where
 mem:=by simp
 obj:=λi h st b hb=>by
  have e:b=it:=by simpa using hb
  subst e;obtain⟨o,e,c,d⟩:=st;exact⟨o,e,λv z=>by rw[d]at z;cases z⟩
 keep:=λi h h' st k=>st.at λo e=>k it (by simp) o e
 item:=by
  intro X hP hw hK hc i pins s σ H E I hf st hg;subst hP hw hK;obtain⟨xs,x,hq,hx⟩:=hg;obtain⟨aC,rv,p,hz⟩:=I.list hq;obtain⟨u,hu,ru⟩:=rv.get hx;obtain⟨f0,f1,f2,f3,f4,f5⟩:=hf it (by simp);refine wpAny_pyNext_list_item st p.isList (x:=u) (by simpa using hu) λh' kY sb=>?_;have I1:Inv X pins σ H { s with heap:=h' }:=I.turned (t':=s.toks) (λb o hb e=>(sb.2 b hb).trans e) f0 f1 f3 f4 f5;obtain⟨o,e,c,d⟩:=id kY;exact⟨u,rfl,Ak (s:={ s with heap:=h' }) e c d (by decide) ⟨x,H,I1,ru,⟨rfl,λys hy=>by rw[I.fZ hy hq];exact hx⟩,kY,λb hb=>(hf b hb).1⟩⟩
 done:=by
  intro X hP hw hK hc i pins s σ H E I hf st hg;subst hP hw hK;obtain⟨xs,hq,hx⟩:=hg;obtain⟨aC,rv,p,hz⟩:=I.list hq;obtain⟨f0,f1,f2,f3,f4,f5⟩:=hf it (by simp);have hl:=rv.length;exact wpAny_pyNext_list_end (I.ok.hd hc) st p.isList (by simp;left) λh' eb=>⟨rfl,I.turned (t':=s.toks) (λb o hb e=>eb b o hb e) f0 f1 f3 f4 f5⟩
 self:=λ_ _ _ _ _ st h=>wpAny_pyIter_listiter st h
theorem r6(a it:Addr):Turn P w K tg (JW K a) [it] it (λi h=>h.IsTupleIter it a i) where
 mem:=by simp
 obj:=λi h st b hb=>by
  have e:b=it:=by simpa using hb
  subst e;obtain⟨o,e,c,d⟩:=st;exact⟨o,e,λv z=>by rw[d]at z;cases z⟩
 keep:=λi h h' st k=>st.at λo e=>k it (by simp) o e
 item:=by
  intro X hP hw hK hc i pins s σ H E I hf st hg;subst hP hw hK;obtain⟨xs,x,hq,hx⟩:=hg;obtain⟨aC,rv,p,hz⟩:=I.tuple hq;obtain⟨u,hu,ru⟩:=rv.get hx;obtain⟨f0,f1,f2,f3,f4,f5⟩:=hf it (by simp);refine wpAny_pyNext_tuple_item st (show s.heap.IsTuple a aC.toArray from p) (x:=u) (by simpa using hu) λh' kY sb=>?_;have I1:Inv X pins σ H { s with heap:=h' }:=I.turned (t':=s.toks) (λb o hb e=>(sb.2 b hb).trans e) f0 f1 f3 f4 f5;obtain⟨o,e,c,d⟩:=id kY;exact⟨u,rfl,Ak (s:={ s with heap:=h' }) e c d (by decide) ⟨x,H,I1,ru,⟨rfl,λys hy=>by rw[I.mT hy hq];exact hx⟩,kY,λb hb=>(hf b hb).1⟩⟩
 done:=by
  intro X hP hw hK hc i pins s σ H E I hf st hg;subst hP hw hK;obtain⟨xs,hq,hx⟩:=hg;obtain⟨aC,rv,p,hz⟩:=I.tuple hq;obtain⟨f0,f1,f2,f3,f4,f5⟩:=hf it (by simp);have hl:=rv.length;exact wpAny_pyNext_tuple_end (I.ok.hd hc) st (show s.heap.IsTuple a aC.toArray from p) (by simp;left) λh' eb=>⟨rfl,I.turned (t':=s.toks) (λb o hb e=>eb b o hb e) f0 f1 f3 f4 f5⟩
 self:=λ_ _ _ _ _ st h=>wpAny_pyIter_tupleiter st h
theorem r9(it:Addr)(lo:Int)(n:Nat):Turn P w K tg (xB lo n) [it] it (λi h=>IsRangeIter h it (lo+(i:Nat)*1) ((n:Int) - (i:Nat)) 1) where
 mem:=by simp
 obj:=λi h st b hb=>by
  have e:b=it:=by simpa using hb
  subst e;exact⟨_,st,λv z=>by
   have z':Data.fields _=Data.cell v:=z;cases z'⟩
 keep:=λi h h' st k=>k it (by simp) _ st
 item:=by
  intro X hP hw hK hc i pins s σ H E I hf st hg;subst hP hw hK;obtain⟨f0,f1,f2,f3,f4,f5⟩:=hf it (by simp);have W:=Walks.range (prog:=X.prog) (w:=X.w) (I.ok.hd hc) it lo 1 n;refine W.item i s _ _ hg st λv h' tk hv kY kk=>?_;obtain⟨t,rfl⟩:=hv;have I1:Inv X pins σ H { s with heap:=h',toks:=tk }:=I.turned (λb o hb e=>kk b o (by simpa using hb) e) f0 f1 f3 f4 f5;refine⟨_,rfl,Ak (s:={ s with heap:=h',toks:=tk }) (n:="range_iterator") kY rfl rfl (by decide) ⟨.int (lo+i),H,I1,⟨t,?_⟩,⟨rfl,rfl⟩,kY,λb hb=>(hf b hb).1⟩⟩;rw[Int.mul_one]
 done:=by
  intro X hP hw hK hc i pins s σ H E I hf st hg;subst hP hw hK;obtain⟨f0,f1,f2,f3,f4,f5⟩:=hf it (by simp);exact wpAny_pyNext_range_end (I.ok.hd hc) st (by have:n<=i:=hg;left) λh' eb=>⟨rfl,I.turned (t':=s.toks) (λb o hb e=>eb b o hb e) f0 f1 f3 f4 f5⟩
 self:=λ_ _ _ _ _ st h=>wpAny_pyIter_rangeiter st h
end L2
namespace L2
open PySem PySem.Spec PyProof.Rows
variable {H:Hp}{fp:aM}{lo:Int}{pos:Pos}{ta:TA}{tl:TE}{σ:L2.St}
section
variable {X:Cx}{tg:Expr}
def Mf(K:ao)(tl:TE):TI:=λσ H R=>tl σ H λx H1=>∃a,x=.ref a/\(∃xs,cH K H1 a xs)/\R (JX K a) H1
def Q1(K:ao)(tl:TE):TI:=λσ H R=>tl σ H λx H1=>∃a,x=.ref a/\(∃xs,aN K H1 a xs)/\R (JW K a) H1
theorem uH{l:Expr}(hl:PE X l tl):PI X tg l (Mf X.K tl):=by
 intro pins s σ H R I h;refine cA (hl pins s σ H _ I h) λv s1 bz=>?_;obtain⟨x,H1,I1,r1,q1⟩:=bz;obtain⟨a,e,⟨xs,hq⟩,q⟩:=q1;subst e;cases r1;obtain⟨aC,rv,p,hz⟩:=I1.list hq;refine aaE p.isList ?_;refine⟨s1.heap.objs.size,[s1.heap.objs.size],_,_,H1,rfl,I1.kept (t':=s1.toks) λb o e=>Ym _ e,wb a _,⟨_,Yt _ rfl,rfl,rfl⟩,λb hb=>?_,q⟩;have e:b=s1.heap.objs.size:=by simpa using hb
 subst e;exact I1.Aq (Ys _) (I1.cD.fresh (Ys _))
theorem yS{l:Expr}(hl:PE X l tl):PI X tg l (Q1 X.K tl):=by
 intro pins s σ H R I h;refine cA (hl pins s σ H _ I h) λv s1 bz=>?_;obtain⟨x,H1,I1,r1,q1⟩:=bz;obtain⟨a,e,⟨xs,hq⟩,q⟩:=q1;subst e;cases r1;obtain⟨aC,rv,p,hz⟩:=I1.tuple hq;refine wpAny_pyIter_tuple (show s1.heap.IsTuple a aC.toArray from p) ?_;refine⟨s1.heap.objs.size,[s1.heap.objs.size],_,_,H1,rfl,I1.kept (t':=s1.toks) λb o e=>Ym _ e,r6 a _,⟨_,Yt _ rfl,rfl,rfl⟩,λb hb=>?_,q⟩;have e:b=s1.heap.objs.size:=by simpa using hb
 subst e;exact I1.Aq (Ys _) (I1.cD.fresh (Ys _))
theorem qy{pins:ak}{s:Shared}{R:It->Hp->Prop}{E:av}{hi:Int}{t u v:Tok}{tk:Nat}(I:Inv X pins σ H s)(h1:-(2 ^ 62)<=lo)(h2:lo<2 ^ 62)(h3:-(2 ^ 62)<=hi)(h4:hi<2 ^ 62)
  (q:R (xB lo (hi - lo).toNat) H):wpAny (model X.prog X.w) X.A (pyIter (.ref s.heap.objs.size)) (A_ X pins σ tg R) E { s with heap:=s.heap.push { cls:=.type "range",data:=.fields #[.int lo t,.int hi u,.int 1 v] },toks:=tk }:=by
 refine wpAny_pyIter_range (IsRange.new ..) (small_one h1 h2 h3 h4) ?_;have I1:Inv X pins σ H { s with heap:=s.heap.push { cls:=.type "range",data:=.fields #[.int lo t,.int hi u,.int 1 v] },toks:=tk }:=I.kept λb o e=>Ym _ e;refine⟨(s.heap.push { cls:=.type "range",data:=.fields #[.int lo t,.int hi u,.int 1 v] }).objs.size,[(s.heap.push { cls:=.type "range",data:=.fields #[.int lo t,.int hi u,.int 1 v] }).objs.size],_,_,H,rfl,
  I1.kept (t':=tk) λb o e=>Ym _ e,r9 _ lo (hi - lo).toNat,?_,λb hb=>?_,q⟩
 ·have e1:lo+((0:Nat):Int)*1=lo:=by simp
  have e2:(((hi - lo).toNat:Nat):Int) - ((0:Nat):Int)=Builtin.Range.rangeSize lo hi 1:=by rw[rangeSize_one];split<;>left
  show IsRangeIter _ _ (lo+((0:Nat):Int)*1) ((((hi - lo).toNat:Nat):Int) - ((0:Nat):Int)) 1;rw[e1,e2];exact Yt _ rfl
 ·have e:b=(s.heap.push { cls:=.type "range",data:=.fields #[.int lo t,.int hi u,.int 1 v] }).objs.size:=by simpa using hb
  subst e;exact I1.Aq (Ys _) (I1.cD.fresh (Ys _))
def Me(ta:TA):TI:=λσ H R=>ta σ H λvs H1=>∃j:Int,vs=[.int j] /\ -(2 ^ 62)<=j/\j<2 ^ 62/\R (xB 0 j.toNat) H1
def Md(ta:TA):TI:=λσ H R=>ta σ H λvs H1=>∃i j:Int,vs=[.int i,.int j]/\(-(2 ^ 62)<=i/\i<2 ^ 62 /\ -(2 ^ 62)<=j/\j<2 ^ 62)/\R (xB i (j - i).toNat) H1
theorem m8{a:Expr}{p:Pos}(hg:Gl X "range")(hm:X.mg "range" = none)(ha:PA X [a] ta)(hs:starEach [a] X.env=[(false,eval a X.env)]:=by rfl):PI X tg (.Call (.Name "range" p) [a] [] pos) (Me ta):=by
 intro pins s σ H R I h;refine Call_ (cZ I hg hm boot_range (YK (cA (ha pos pins s σ H _ I h) λus s1 bz=>?_) hs rfl));obtain⟨vs,H1,I1,r1,q1⟩:=bz;obtain⟨j,e,q1,q2,q⟩:=q1;subst e;cases r1 with
 |cons r rr =>
  cases rr;obtain⟨t,rfl⟩:=r;exact call_range_1 (qy I1 (by left) (by left) q1 q2 (by simpa using q))
theorem Jw{a b:Expr}{p:Pos}(hg:Gl X "range")(hm:X.mg "range" = none)(ha:PA X [a,b] ta)(hs:starEach [a,b] X.env=[(false,eval a X.env),(false,eval b X.env)]:=by rfl)(OH:starEach [b] X.env=[(false,eval b X.env)]:=by rfl):
  PI X tg (.Call (.Name "range" p) [a,b] [] pos) (Md ta):=by
 intro pins s σ H R I h;refine Call_ (cZ I hg hm boot_range (YK (cA (ha pos pins s σ H _ I h) λus s1 bz=>?_) (by rw[hs,OH]) (by rw[OH];rfl)));obtain⟨vs,H1,I1,r1,q1⟩:=bz;obtain⟨i,j,e,⟨q1,q2,q3,q4⟩,q⟩:=q1;subst e;cases r1 with
 |cons r rr =>
  cases rr with
  |cons r' rr =>
   cases rr;obtain⟨t,rfl⟩:=r;obtain⟨t',rfl⟩:=r';exact call_range_2 (qy I1 q1 q2 q3 q4 q)
noncomputable def PH(wi:TI)(g:TG)(tb:TS):TS:=λD σ H=>wi σ H λJ H1=>∃W:Nat->Nat->St->Hp->Prop,(∃m,W 0 m σ H1)/\∀i m σ H,W i m σ H ->
 (J.stop i H/\D.nx σ H)\/(J.go i H/\∃N:St->Hp->Prop,(∀σ' H',N σ' H'->∃m',m'<m/\W (i+1) m' σ' H')/\∀x H',J.rQ i H x H'->g x σ H' λσ2 H2=>tb { D with nx:=N,ct:=N,bk:=D.nx } σ2 H2)
noncomputable def fW(fp:aM)(h:Heap):ak:=fp.filterMap λb=>(h.get? b).map λo=>(b,o)
theorem fg{h:Heap}{b:Addr}{o:Obj}(hb:b∈fp)(e:h.get? b=some o):(b,o)∈fW fp h:=List.mem_filterMap.mpr ⟨b,hb,by rw[e];rfl⟩
theorem ng{h:Heap}{p:Addr×Obj}(hp:p∈fW fp h):p.1∈fp/\h.get? p.1=some p.2:=by
 obtain⟨b,hb,e⟩:=List.mem_filterMap.mp hp;cases q:h.get? b with
 |none=>rw[q]at e;cases e
 |some o =>
  rw[q]at e;have e':(b,o)=p:=YB e;subst e';exact⟨hb,q⟩
theorem Inv.pinned{pins:ak}{s:Shared}(I:Inv X pins σ H s)(hf:∀b∈fp,me X pins H b)(ho:∀b∈fp,∃o,s.heap.get? b=some o/\∀v,o.data≠.cell v):Inv X (pins++fW fp s.heap) σ H s :=
 I.gG λp hp=>(List.mem_append.mp hp).elim (λz=>I.pin p (Yx _ z)) λz=>by
  obtain⟨hb,e⟩:=ng z;obtain⟨f0,f1,f2,_⟩:=hf p.1 hb;obtain⟨o,e',d⟩:=ho p.1 hb;rw[e]at e';cases e';exact⟨e,f0,f1,f2,d⟩
theorem Inv.iO{pins pl:ak}{s:Shared}(I:Inv X (pins++pl) σ H s):Inv X pins σ H s:=I.gG λp hp=>I.pin p (Yx _ (YN _ hp))
theorem ox{iter:Expr}{body:aJ}{wi:TI}{g:TG}{tb:TS}(hp:PassesOwn (model X.prog X.w) X.A X.env X.xe)(hc:X.calm=true)(hi:PI X tg iter wi)(hg:PG X tg g)(hb:kN X body tb)
  (hs:∀x,foldedSetIterable iter X.env x=pure x:=by intro _;rfl):PS X (.For tg iter body [] pos) (PH wi g tb):=by
 intro pins s σ H D I h;refine wpAny_For (cA (hi pins s σ H _ I h) λv s1 h1=>cA h1 λQR s2 h2=>?_) hs;obtain⟨it,fp,tn,J,H2,e,I2,T,Kw,f2,W,⟨m0,w0⟩,turn⟩:=h2;subst e;have FN:∀{H':Hp},(∀b∈fp,H' b=none)->∀b∈fp,me X pins H' b:=λhn b hb=>⟨hn b hb,(f2 b hb).2⟩
 refine codeAny_forLoop_any (λn s'=>∃i σ' H',Inv X pins σ' H' s'/\tn i s'.heap/\(∀b∈fp,H' b=none)/\W i n σ' H') ?_ m0 ⟨0,σ,H2,I2,Kw,λb hb=>(f2 b hb).1,w0⟩;rintro n s3 ⟨i,σ3,H3,I3,st3,fr3,w3⟩;rcases turn i n σ3 H3 w3 with ⟨stop,qn⟩|⟨go,N,hN,step⟩
 ·refine Zh hp (cA (T.done X rfl rfl rfl hc i pins s3 σ3 H3 X.xe I3 (FN fr3) st3 stop) λr s4 bz=>?_);obtain⟨hr,I4⟩:=bz;subst hr;exact wpAny_execs_nil ⟨σ3,H3,I4,qn⟩
 ·refine Zh hp (cA (T.item X rfl rfl rfl hc i pins s3 σ3 H3 X.xe I3 (FN fr3) st3 go) λr s4 bz=>?_);obtain⟨u,hr,h4⟩:=bz;subst hr;refine Zh hp (cA h4 λ_ s5 bz=>?_);obtain⟨x,H5,I5,r5,y5,FQ,RZ⟩:=bz;have SR:=I5.pinned (FN RZ) (T.obj _ _ FQ);refine Zh hp (cA (hg _ s5 σ3 H5 x u _ SR r5 (step x H5 y5)) λ_ s6 bz=>?_);obtain⟨σ6,H6,I6,q6⟩:=bz;refine Zh hp (cA (hb _ s6 σ6 H6 _ I6 q6) λf s7 q7=>?_);have again:∀{σ7:St} {H7:Hp},Inv X (pins++fW fp s5.heap) σ7 H7 s7->N σ7 H7->∃m,m<n/\∃i σ' H',Inv X pins σ' H' s7/\tn i s7.heap/\(∀b∈fp,H' b=none)/\W i m σ' H':=λ{σ7 H7} I7 n7=>by
   obtain⟨m',hm,w7⟩:=hN σ7 H7 n7;refine⟨m',hm,i+1,σ7,H7,I7.iO,T.keep _ _ _ FQ λb hb o e=>(I7.pin (b,o) (Yx _ (Yx _ (fg hb e)))).1,λb hb=>?_,w7⟩;obtain⟨o,e,d⟩:=T.obj _ _ FQ b hb;exact(I7.pin (b,o) (Yx _ (Yx _ (fg hb e)))).2.1
  cases f with
  |next=>obtain⟨σ7,H7,I7,n7⟩:=q7;exact again I7 n7
  |cont=>obtain⟨σ7,H7,I7,n7⟩:=q7;exact again I7 n7
  |brk=>obtain⟨σ7,H7,I7,q7⟩:=q7;exact⟨σ7,H7,I7.iO,q7⟩
  |ret v=>obtain⟨x7,σ7,H7,I7,r7,q7⟩:=q7;exact⟨x7,σ7,H7,I7.iO,r7,q7⟩
end
variable {K:ao}{xs:af}
theorem Ar{a:Addr}{g:TG}{tb:TS}{D:Ends}(Pv:Nat->St->Hp->Prop)(h0:Pv 0 σ H)(hl:∀i σ H,i<=xs.length->Pv i σ H->cH K H a xs)
  (hs:∀i x σ H,xs[i]?=some x->Pv i σ H->g x σ H λσ2 H2=>tb { D with nx:=Pv (i+1),ct:=Pv (i+1),bk:=D.nx } σ2 H2) (hd:∀σ H,Pv xs.length σ H->D.nx σ H) :
  ∃W:Nat->Nat->St->Hp->Prop,(∃m,W 0 m σ H)/\∀i m σ H,W i m σ H ->
   ((JX K a).stop i H/\D.nx σ H)\/((JX K a).go i H/\∃N:St->Hp->Prop,(∀σ' H',N σ' H'->∃m',m'<m/\W (i+1) m' σ' H')/\∀x H',(JX K a).rQ i H x H'->g x σ H' λσ2 H2=>tb { D with nx:=N,ct:=N,bk:=D.nx } σ2 H2):=by
 refine⟨λi m σ H=>m=xs.length - i/\i<=xs.length/\Pv i σ H,⟨xs.length,by simp,YQ _,h0⟩,?_⟩;rintro i m σ H ⟨rfl,hi,p⟩;have q:=hl i σ H hi p;by_cases fL:i<xs.length
 ·refine .inr ⟨⟨xs,xs[i],q,by simp[fL]⟩,Pv (i+1),λσ' H' p'=>⟨xs.length - (i+1),by left,rfl,fL,p'⟩,λx H' y=>?_⟩;obtain⟨e,y⟩:=y;subst e;exact hs i x σ _ (y xs q) p
 ·have e:i=xs.length:=by left
  subst e;exact .inl ⟨⟨xs,q,Ys _⟩,hd σ H p⟩
theorem De{a:Addr}{g:TG}{tb:TS}{D:Ends}(Pv:Nat->St->Hp->Prop)(h0:Pv 0 σ H)(hl:∀i σ H,i<=xs.length->Pv i σ H->aN K H a xs)
  (hs:∀i x σ H,xs[i]?=some x->Pv i σ H->g x σ H λσ2 H2=>tb { D with nx:=Pv (i+1),ct:=Pv (i+1),bk:=D.nx } σ2 H2) (hd:∀σ H,Pv xs.length σ H->D.nx σ H) :
  ∃W:Nat->Nat->St->Hp->Prop,(∃m,W 0 m σ H)/\∀i m σ H,W i m σ H ->
   ((JW K a).stop i H/\D.nx σ H)\/((JW K a).go i H/\∃N:St->Hp->Prop,(∀σ' H',N σ' H'->∃m',m'<m/\W (i+1) m' σ' H')/\∀x H',(JW K a).rQ i H x H'->g x σ H' λσ2 H2=>tb { D with nx:=N,ct:=N,bk:=D.nx } σ2 H2):=by
 refine⟨λi m σ H=>m=xs.length - i/\i<=xs.length/\Pv i σ H,⟨xs.length,by simp,YQ _,h0⟩,?_⟩;rintro i m σ H ⟨rfl,hi,p⟩;have q:=hl i σ H hi p;by_cases fL:i<xs.length
 ·refine .inr ⟨⟨xs,xs[i],q,by simp[fL]⟩,Pv (i+1),λσ' H' p'=>⟨xs.length - (i+1),by left,rfl,fL,p'⟩,λx H' y=>?_⟩;obtain⟨e,y⟩:=y;subst e;exact hs i x σ _ (y xs q) p
 ·have e:i=xs.length:=by left
  subst e;exact .inl ⟨⟨xs,q,Ys _⟩,hd σ H p⟩
theorem w6{n:Nat}{g:TG}{tb:TS}{D:Ends}(Pv:Nat->St->Hp->Prop)(h0:Pv 0 σ H)
  (hs:∀i σ H,i<n->Pv i σ H->g (.int (lo+i)) σ H λσ2 H2=>tb { D with nx:=Pv (i+1),ct:=Pv (i+1),bk:=D.nx } σ2 H2) (hd:∀σ H,Pv n σ H->D.nx σ H) :
  ∃W:Nat->Nat->St->Hp->Prop,(∃m,W 0 m σ H)/\∀i m σ H,W i m σ H ->
   ((xB lo n).stop i H/\D.nx σ H)\/((xB lo n).go i H/\∃N:St->Hp->Prop,(∀σ' H',N σ' H'->∃m',m'<m/\W (i+1) m' σ' H')/\∀x H',(xB lo n).rQ i H x H'->g x σ H' λσ2 H2=>tb { D with nx:=N,ct:=N,bk:=D.nx } σ2 H2):=by
 refine⟨λi m σ H=>m=n - i/\i<=n/\Pv i σ H,⟨n,by simp,YQ _,h0⟩,?_⟩;rintro i m σ H ⟨rfl,hi,p⟩;by_cases fL:i<n
 ·refine .inr ⟨fL,Pv (i+1),λσ' H' p'=>⟨n - (i+1),by left,rfl,fL,p'⟩,λx H' y=>?_⟩;obtain⟨e,y⟩:=y;subst e y;exact hs i σ _ fL p
 ·have e:i=n:=by left
  subst e;exact .inl ⟨Ys _,hd σ H p⟩
end L2
namespace L2
open PySem PySem.Spec PyProof.Rows
noncomputable abbrev R2:=V->V->Hp->VK->Prop
def iI(X:Cx)(f:Value->Value->Sem Value)(r:R2):Prop :=
 ∀(pins:ak) (s:Shared) (σ:St) (H:Hp) (x y:V) (v u:Value) (Q:VK),Inv X pins σ H s->RelV x v->RelV y u->r x y H Q ->
  wpAny (model X.prog X.w) X.A (f v u) (EP X pins σ Q) X.xe s
def SJ(X:Cx)(f:Value->Sem Value)(r:V->Hp->VK->Prop):Prop :=
 ∀(pins:ak) (s:Shared) (σ:St) (H:Hp) (x:V) (v:Value) (Q:VK),Inv X pins σ H s->RelV x v->r x H Q ->
  wpAny (model X.prog X.w) X.A (f v) (EP X pins σ Q) X.xe s
def eE(X:Cx)(f:Value)(r:af->Hp->VK->Prop):Prop :=
 ∀(pins:ak) (s:Shared) (σ:St) (H:Hp) (xs:af) (us:ai) (Q:VK),Inv X pins σ H s->Vals xs us->r xs H Q ->
  wpAny (model X.prog X.w) X.A (call f us) (EP X pins σ Q) X.xe s
noncomputable def FH(r:R2)(ta tb:TE):TE:=λσ H Q=>ta σ H λx H1=>tb σ H1 λy H2=>r x y H2 Q
noncomputable def Vf(r:V->Hp->VK->Prop)(ta:TE):TE:=λσ H Q=>ta σ H λx H1=>r x H1 Q
noncomputable def rI(C:Int->Int->Prop)(g:Int->Int->V):R2:=λx y H Q=>∃i j,x=.int i/\y=.int j/\C i j/\Q (g i j) H
noncomputable def yL(g:Int->Int->V):R2:=λx y H Q=>∃i j,x=.int i/\y=.int j/\Q (g i j) H
noncomputable def rU(g:Int->V):V->Hp->VK->Prop:=λx H Q=>∃i,x=.int i/\Q (g i) H
variable {H:Hp}{σ:L2.St}
section
variable {X:Cx}{a b c:Expr}{ta tb tc:TE}{pos:Pos}
theorem Jg(ha:PE X a ta)(hb:PE X b tb){pins:ak}{s:Shared}{R:V->V->Hp->Prop}(I:Inv X pins σ H s)
  (h:ta σ H λx H1=>tb σ H1 λy H2=>R x y H2) {Q:av} {f:Value->Value->Sem Value}
  (hf:∀v u s2 x y H2,Inv X pins σ H2 s2->RelV x v->RelV y u->R x y H2->wpAny (model X.prog X.w) X.A (f v u) Q X.xe s2) :
  wpAny (model X.prog X.w) X.A (eval a X.env) (λv s₁=>wpAny (model X.prog X.w) X.A (eval b X.env) (λu s₂=>wpAny (model X.prog X.w) X.A (f v u) Q X.xe s₂) X.xe s₁) X.xe s:=by
 refine cA (ha pins s σ H _ I h) λv s1 bz=>?_;obtain⟨x,H1,I1,r1,q1⟩:=bz;refine cA (hb pins s1 σ H1 _ I1 q1) λu s2 bz=>?_;obtain⟨y,H2,I2,r2,q2⟩:=bz;exact hf v u s2 x y H2 I2 r1 r2 q2
theorem Es{op:Operator}{r:R2}(ho:iI X (binaryOp op) r)(ha:PE X a ta)(hb:PE X b tb):PE X (.BinOp a op b pos) (FH r ta tb):=by
 intro pins s σ H Q I h;exact wpAny_BinOp (Jg ha hb I h λv u s2 x y H2 I2 rx ry q=>ho pins s2 σ H2 x y v u Q I2 rx ry q)
theorem Lg{op:UnaryOp}{r:V->Hp->VK->Prop}(ho:SJ X (unaryOp op) r)(ha:PE X a ta):PE X (.UnaryOp op a pos) (Vf r ta):=by
 intro pins s σ H Q I h;exact UnaryOp_ (cA (ha pins s σ H _ I h) λv s1 ⟨x,H1,I1,r1,q1⟩=>ho pins s1 σ H1 x v Q I1 r1 q1)
theorem Jx{f:Value->Value->Sem Value}{C:Int->Int->Prop}{g:Int->Int->Int}
  (rule:∀(i j:Int) (t u:Tok) (s:Shared) (Q:av) (E:av),C i j->Q (.int (g i j) s.toks) { s with toks:=s.toks+1 }->wpAny (model X.prog X.w) X.A (f (.int i t) (.int j u)) Q E s) :
  iI X f (rI C λi j=>.int (g i j)):=by
 intro pins s σ H x y v u Q I rx ry h;obtain⟨i,j,rfl,rfl,hc,q⟩:=h;obtain⟨t,rfl⟩:=rx;obtain⟨t',rfl⟩:=ry;exact rule i j t t' s _ _ hc ⟨.int (g i j),H,I.tok _,⟨_,rfl⟩,q⟩
theorem Qu{f:Value->Value->Sem Value}{g:Int->Int->Int}
  (rule:∀(i j:Int) (t u:Tok) (s:Shared) (Q:av) (E:av),Q (.int (g i j) s.toks) { s with toks:=s.toks+1 }->wpAny (model X.prog X.w) X.A (f (.int i t) (.int j u)) Q E s) :
  iI X f (yL λi j=>.int (g i j)):=by
 intro pins s σ H x y v u Q I rx ry h;obtain⟨i,j,rfl,rfl,q⟩:=h;obtain⟨t,rfl⟩:=rx;obtain⟨t',rfl⟩:=ry;exact rule i j t t' s _ _ ⟨.int (g i j),H,I.tok _,⟨_,rfl⟩,q⟩
theorem Cu{f:Value->Value->Sem Value}{g:Int->Int->Bool}
  (rule:∀(i j:Int) (t u:Tok) (s:Shared) (Q:av) (E:av),Q (.bool (g i j)) s->wpAny (model X.prog X.w) X.A (f (.int i t) (.int j u)) Q E s) :
  iI X f (yL λi j=>.bl (g i j)):=by
 intro pins s σ H x y v u Q I rx ry h;obtain⟨i,j,rfl,rfl,q⟩:=h;obtain⟨t,rfl⟩:=rx;obtain⟨t',rfl⟩:=ry;exact rule i j t t' s _ _ ⟨.bl (g i j),H,I,rfl,q⟩
theorem rZ(k:Nat):(0:Int)<=2 ^ k:=by
 rw[two_pow_cast];exact Int.natCast_nonneg _
theorem GX:iI X (binaryOp .Add) (yL λi j=>.int (i+j)):=Qu λ_ _ _ _ _ _ _ q=>add_int q
theorem Cr:iI X (binaryOp .Mod) (rI (λ_ j=>j≠0) λi j=>.int (i.fmod j)):=Jx λ_ _ _ _ _ _ _ hc q=>mod_int' hc q
theorem Qs:iI X (binaryOp .RShift) (rI (λ_ j=>0<=j) λi j=>.int (i / 2 ^ j.toNat)):=Jx λi j _ _ _ _ _ hc q =>
 rshift_int hc (by rw[Int.fdiv_eq_ediv_of_nonneg i (rZ _)];exact q)
theorem Vc{f:Value->Sem Value}{g:Int->Int}
  (rule:∀(i:Int) (t:Tok) (s:Shared) (Q:av) (E:av),Q (.int (g i) s.toks) { s with toks:=s.toks+1 }->wpAny (model X.prog X.w) X.A (f (.int i t)) Q E s) :
  SJ X f (rU λi=>.int (g i)):=by
 intro pins s σ H x v Q I rx h;obtain⟨i,rfl,q⟩:=h;obtain⟨t,rfl⟩:=rx;exact rule i t s _ _ ⟨.int (g i),H,I.tok _,⟨_,rfl⟩,q⟩
theorem FD:SJ X (unaryOp .USub) (rU λi=>.int (-i)):=Vc λ_ _ _ _ _ q=>neg_int q
end
variable {us:ai}
section
variable {X:Cx}{a b c:Expr}{ta tb tc:TE}{pos:Pos}
theorem Au{pins:ak}{s:Shared}{Q:VK}{k k':Bool}(I:Inv X pins σ H s)(q:Q (.bl k) H)(e:k=k'):EP X pins σ Q (.bool k') s:=by
 subst e;exact⟨.bl k,H,I,rfl,q⟩
theorem Lq:iI X (compareOp .Lt) (yL λi j=>.bl (decide (i<j))):=Cu λ_ _ _ _ _ _ _ q=>lt_int q
theorem Lr:iI X (compareOp .LtE) (yL λi j=>.bl (decide (i<=j))):=Cu λ_ _ _ _ _ _ _ q=>le_int q
theorem Ls:iI X (compareOp .Gt) (yL λi j=>.bl (decide (j<i))):=Cu λ_ _ _ _ _ _ _ q=>gt_int q
theorem Lu:iI X (compareOp .GtE) (yL λi j=>.bl (decide (j<=i))):=Cu λ_ _ _ _ _ _ _ q=>ge_int q
theorem GU:iI X (compareOp .Is) (λx y H Q=>y=.bD/\Q (.bl (decide (x=.bD))) H):=by
 intro pins s σ H x y v u Q I rx ry h;obtain⟨rfl,q⟩:=h;cases ry;refine is_none_gen (Au I q ?_);cases x<;>first
  | (cases rx;rfl)
  | (obtain⟨t,rfl⟩:=rx;rfl)
theorem Cq:iI X (compareOp .IsNot) (λx y H Q=>y=.bD/\Q (.bl (!decide (x=.bD))) H):=by
 intro pins s σ H x y v u Q I rx ry h;obtain⟨rfl,q⟩:=h;cases ry;refine isnot_none_gen (Au I q ?_);cases x<;>first
  | (cases rx;rfl)
  | (obtain⟨t,rfl⟩:=rx;rfl)
theorem iI.or{f:Value->Value->Sem Value}{r r':R2}(h:iI X f r)(h':iI X f r'):iI X f (λx y H Q=>r x y H Q\/r' x y H Q):=by
 intro pins s σ H x y v u Q I rx ry q;rcases q with q|q
 ·exact h pins s σ H x y v u Q I rx ry q
 ·exact h' pins s σ H x y v u Q I rx ry q
theorem QA(b:Expr){op:CmpOp}(h:op≠.In:=by decide)(h2:op≠.NotIn:=by decide):behindInMarks op b=false:=by
 have e1:(op==CmpOp.In)=false:=by cases op<;>first|rfl|exact absurd rfl h
 have e2:(op==CmpOp.NotIn)=false:=by cases op<;>first|rfl|exact absurd rfl h2
 cases b<;>simp[behindInMarks,e1,e2]
theorem Ck{op:CmpOp}{r:R2}(ho:iI X (compareOp op) r)(ha:PE X a ta)(hb:PE X b tb)(hm:behindInMarks op b=false):PE X (.Compare a [op] [b] pos) (FH r ta tb):=by
 intro pins s σ H Q I h;exact wpAny_Compare1 (Jg ha hb I h λv u s2 x y H2 I2 rx ry q=>ho pins s2 σ H2 x y v u Q I2 rx ry q) hm
noncomputable def Eb(t:TE):TT:=λσ H Q=>t σ H λx H'=>∃k,x=.bl k/\Q k H'
theorem Ce{op:CmpOp}{r:R2}(ho:iI X (compareOp op) r)(ha:PE X a ta)(hb:PE X b tb)(hm:behindInMarks op b=false):PT X (.Compare a [op] [b] pos) (Eb (FH r ta tb)):=by
 intro pins s σ H Q I h;refine wpAny_isTrue_Compare1 (cA (ha pins s σ H _ I h) λv s1 ⟨x,H1,I1,r1,q1⟩=>cA (hb pins s1 σ H1 _ I1 q1) λu s2 ⟨y,H2,I2,r2,q2⟩ =>
  cA (ho pins s2 σ H2 x y v u _ I2 r1 r2 q2) λc s3 ⟨z,H3,I3,r3,k,e,q3⟩=>?_) hm
 subst e;cases r3;exact Y0 ⟨H3,I3,q3⟩
theorem oR:(sizeLine:Nat)<2 ^ 63:=by rw[sizeLine_eq];decide
theorem vals1{x:V}(r:Vals [x] us):∃u,us=[u]/\RelV x u:=by
 cases r with
 |cons r1 r2=>cases r2;exact⟨_,rfl,r1⟩
theorem vals2{x y:V}(r:Vals [x,y] us):∃u w',us=[u,w']/\RelV x u/\RelV y w':=by
 cases r with
 |cons r1 r2 =>
  cases r2 with
  |cons r3 r4=>cases r4;exact⟨_,_,rfl,r1,r3⟩
theorem AQ:eE X (.builtin "abs") (λxs H Q=>∃i,xs=[.int i]/\Q (.int (if i<0 then -i else i)) H):=by
 intro pins s σ H xs us Q I r h;obtain⟨i,rfl,q⟩:=h;obtain⟨u,rfl,t,rfl⟩:=vals1 r;exact call_abs_int λu tk=>⟨.int (if i<0 then -i else i),H,I.tok _,⟨_,rfl⟩,q⟩
theorem JS(hc:X.calm=true):eE X (.builtin "max") (λxs H Q=>∃i j,xs=[.int i,.int j]/\Q (.int (if j>i then j else i)) H):=by
 intro pins s σ H xs us Q I r h;obtain⟨i,j,rfl,q⟩:=h;obtain⟨u,w',rfl,⟨t,rfl⟩,⟨t',rfl⟩⟩:=vals2 r;refine max_two_ints (I.ok.hd hc) λh' tk k=>⟨_,H,I.kept k,?_,q⟩
 by_cases hj:j>i
 ·rw[if_pos hj,if_pos hj];exact⟨_,rfl⟩
 ·rw[if_neg hj,if_neg hj];exact⟨_,rfl⟩
theorem xl(hc:X.calm=true):eE X (.builtin "min") (λxs H Q=>∃i j,xs=[.int i,.int j]/\Q (.int (if j<i then j else i)) H):=by
 intro pins s σ H xs us Q I r h;obtain⟨i,j,rfl,q⟩:=h;obtain⟨u,w',rfl,⟨t,rfl⟩,⟨t',rfl⟩⟩:=vals2 r;refine min_two_ints (I.ok.hd hc) λh' tk k=>⟨_,H,I.kept k,?_,q⟩
 by_cases hj:j<i
 ·rw[if_pos hj,if_pos hj];exact⟨_,rfl⟩
 ·rw[if_neg hj,if_neg hj];exact⟨_,rfl⟩
theorem JT:eE X (.type "int") (λxs H Q=>(∃i,xs=[.int i]/\Q (.int i) H)\/∃k,xs=[.bl k]/\Q (.int (if k then 1 else 0)) H):=by
 intro pins s σ H xs us Q I r h;rcases h with ⟨i,rfl,q⟩|⟨k,rfl,q⟩
 ·obtain⟨u,rfl,t,rfl⟩:=vals1 r;exact call_int_int ⟨.int i,H,I,⟨_,rfl⟩,q⟩
 ·obtain⟨u,rfl,r1⟩:=vals1 r;cases r1;exact call_int_bool ⟨.int (if k then 1 else 0),H,I.tok _,⟨_,rfl⟩,q⟩
end
end L2
namespace L2
open PySem PySem.Spec PyProof.Rows
structure XG(h:Heap)(x dx C:Addr)(mA:aO):Prop where
 obj:h.get? x=some (PySem.W.instObj C dx)
 ns:h.Ns1 dx mA
 ne:dx≠x
section
variable {prog:ax}{w:World}{A:ay}{E:av}{s:Shared}{K:ao}{x dx C f:Addr}{mA:aO}{name:Str}{v:Value}
end
theorem l_.some_of{v:V}{o:Option Value}(r:l_ (some v) o):∃u,o=some u/\RelV v u:=by
 cases o with
 |none=>exact(show False from r).elim
 |some u=>exact⟨u,rfl,r⟩
theorem l_.none_of{o:Option Value}(r:l_ none o):o=none:=by
 cases o with
 |none=>rfl
 |some u=>exact(show False from r).elim
section
variable {P:ax}{w:World}{H H':Hp}{h h':Heap}{a C dx:Addr}{fs W4:List (Str×V)}
end
structure XX(K:ao)(C:Addr):Prop where
 pg:PySem.W.plainGet K C Str.empty=true
 hd:PySem.W.hasDictIn K C=true
 po:PySem.W.plainOver K C=true
 sa:PySem.W.findIn K (.ref C) "__setattr__" = some (some (.builtin "object.__setattr__"))
structure Yi(K:ao)(C:Addr)(f:Str)(v:V)(u:Value):Prop where
 at_:PySem.W.findIn K (.ref C) f=some (some u)
 rel:RelV v u
 get:PySem.W.specialIn K u "__get__" = some none
 cp:PySem.W.copiedNames.contains f=false
structure Meth(K:ao)(C:Addr)(m:Str)(f:Addr):Prop where
 at_:PySem.W.findIn K (.ref C) m=some (some (.ref f))
 fn:PySem.W.isFn K (.ref f)=true
 kp:PySem.W.keepIn K (.ref f)=true
section
variable {X:Cx}{pins:ak}{σ:St}{H:Hp}{s:Shared}{a C dx:Addr}{fs:List (Str×V)}{f:Str}{v:V}{A:ay}{E:av}
end
section
variable {X:Cx}{o e value:Expr}{f:Str}{pos pos' Vd:Pos}{ta tv:TE}
end
section
variable {X:Cx}{pins:ak}{σ:St}{H:Hp}{s:Shared}{A:ay}{E:av}{Q:av}{c:Value}{b:Bool}
inductive l9(K:ao)(H:Hp):V->Value->Prop where
 |bD:l9 K H .bD (.type "NoneType")
 |bl (x:Bool):l9 K H (.bl x) (.type "bool")
 |int (i:Int):l9 K H (.int i) (.type "int")
 |str (x:Str):l9 K H (.str x) (.type "str")
 |Nf (x:UInt64):l9 K H (.Nf x) (.type "float")
 |lst {a:Addr} {xs:af} (e:H a=some (.lst xs)):l9 K H (.ref a) (.type "list")
 |fM {a:Addr} {o:Obj} {xs:af} (e:H a=some (.fM o (.lst xs))):l9 K H (.ref a) (.type "list")
 |tup {a:Addr} {xs:af} (e:H a=some (.tup xs)):l9 K H (.ref a) (.type "tuple")
 |dK {a:Addr} {lx:List (Key×V)} (e:H a=some (.dK lx)):l9 K H (.ref a) (.type "dict")
 |dT {a:Addr} {lx:List (List Key×V)} (e:H a=some (.dT lx)):l9 K H (.ref a) (.type "dict")
 |ins {a C dx:Addr} {fs:List (Str×V)} (e:H a=some (.ins C dx fs)) (cl:XX K C) (ha:PySem.W.findIn K (.ref C) "__class__" = some (some (.builtin "object.__class__")))
   (hn:PySem.W.specialIn K (.builtin "object.__class__") "__get__" = some (some (.builtin "getset_descriptor.__get__"))) (Q8:PySem.W.takesIn K (.builtin "object.__class__")=some true)
   (hm:PySem.W.mroIn K C (.type "object")=some true):l9 K H (.ref a) (.ref C)
end
end L2
namespace L2
open PySem PySem.Spec PyProof.Rows
structure e_(k:Nat)(A:ay):Prop where
 hd:A.handled=none
 dp:A.depth+3*k+5<recursionLimit
 un:A.units+16*k+200<cLine
variable {A:ay}
theorem e_.mono{j k:Nat}(r:e_ k A)(h:j<=k):e_ j A:=⟨r.hd,by have:=r.dp;left,by have:=r.un;left⟩
theorem e_.deeper{k:Nat}{A:ay}(r:e_ (k+1) A)(env:Env):e_ k (A.deeper env) :=
 ⟨r.hd,by have:=r.dp;show A.depth+1+3*k+5<_;left,by have:=r.un;show A.units+3+16*k+200<_;left⟩
theorem e_.depth{k:Nat}{A:ay}(r:e_ k A):A.depth<recursionLimit:=by have:=r.dp;left
theorem e_.units{k:Nat}{A:ay}(r:e_ k A):A.units+64<cLine:=by have:=r.un;left
noncomputable def Ko:TA:=λ_ H Q=>Q [] H
noncomputable def Ed(ta:TE)(tr:TA):TA:=λσ H Q=>ta σ H λx H1=>tr σ H1 λxs H2=>Q (x::xs) H2
section
variable {X:Cx}{e:Expr}{es:au}{te:TE}{t:TA}{pos:Pos}
theorem ib:PA X [] Ko:=λ_ _ _ _ H Q I h=>ZV ⟨[],H,I,.nil,h⟩
theorem dC(ha:PE X e te)(hr:PA X es t)(hs:starEach (e::es) X.env=(false,eval e X.env)::starEach es X.env:=by rfl):PA X (e::es) (Ed te t):=by
 intro pos pins s σ H Q I h;rw[hs];show wpAny _ _ (spliced ((false,eval e X.env)::backTo pos (starEach es X.env))) _ _ s;refine ZP (cA (ha pins s σ H _ I h) λu s1 bz=>?_);obtain⟨x,H1,I1,r1,q1⟩:=bz;exact cA (hr pos pins s1 σ H1 _ I1 q1) λus s2 ⟨xs,H2,I2,r2,q2⟩=>⟨x::xs,H2,I2,.cons r1 r2,q2⟩
def Pw(t:TA):TE:=λσ H Q=>t σ H λxs H1=>xs.length<=sizeLine/\∀p,H1 p=none->Q (.ref p) (upd H1 p (.tup xs))
def PD(t:TA):TE:=λσ H Q=>t σ H λxs H1=>xs.length<=sizeLine/\∀p,H1 p=none->Q (.ref p) (upd H1 p (.lst xs))
theorem GD{x1}(h:PA X es t):PE X (.Tuple es x1 pos) (Pw t):=by
 intro pins s σ H Q I hq;refine wpAny_Tuple_spliced (cA (h pos pins s σ H _ I hq) λus s1 ⟨xs,H1,I1,r,z,q⟩=>⟨by rw[<- r.length];exact z,?_⟩);have hf:H1 s1.heap.objs.size=none:=I1.cD.fresh (Ys _);refine⟨.ref s1.heap.objs.size,upd H1 s1.heap.objs.size (.tup xs),I1.laid (t':=s1.toks) (λb u e=>Ym _ e) (Ys _) ?_,rfl,q _ hf⟩;exact⟨z,us,r,⟨_,Yt _ rfl,rfl,_,rfl⟩⟩
theorem GI(h:PA X es t):PE X (.List es pos) (PD t):=by
 intro pins s σ H Q I hq;refine wpAny_List_spliced (cA (h pos pins s σ H _ I hq) λus s1 ⟨xs,H1,I1,r,z,q⟩=>⟨by rw[<- r.length];exact z,?_⟩);have hf:H1 s1.heap.objs.size=none:=I1.cD.fresh (Ys _);refine⟨.ref s1.heap.objs.size,upd H1 s1.heap.objs.size (.lst xs),I1.laid (t':=s1.toks) (λb u e=>Ym _ e) (Ys _) ?_,rfl,q _ hf⟩;exact⟨z,us,0,r,Yt _ rfl⟩
end
noncomputable abbrev Sp:=af->Hp->VK->XK->Prop
noncomputable abbrev xP:=List Env->Hp->Shared->XK->av
structure D2(P:ax)(w:World)(K:ao)(mg:aO)(base:Heap)(A:ay)(outer:List Env)(s:Shared)(H:Hp):Prop where
 frames:A.frames=some outer
 mod:Mod K mg base
 bs:∀b o,base.get? b=some o->s.heap.get? b=some o/\H b=none
 EY:base.objs.size<=s.heap.objs.size
 jZ:s.heap.FunFrames base outer
 JP:∀b∈xN outer,H b=none
 cD:jD P w H s.heap
 bare:AllBare s.gens
def CE(outer:List Env)(P:ax)(w:World)(H:Hp)(s:Shared)(Q:VK)(u:Value)(s':Shared):Prop :=
 ∃v H',s'.os=s.os/\AllBare s'.gens/\Un (xN outer) [] H H' s.heap s'.heap/\jD P w H' s'.heap/\RelV v u/\Q v H'
noncomputable def CR(CX:xP)(outer:List Env)(P:ax)(w:World)(H:Hp)(s:Shared)(Q:VK)(E:XK)(r:Result)(s':Shared):Prop :=
 match r with
 |.ok (.ret u)=>CE outer P w H s Q u s'
 |.ok _=>False
 |.error e=>CX outer H s E e s'
structure gO(P:ax)(w:World)(K:ao)(mg:aO)(base:Heap)(CX:xP)(k:Nat)(f:Addr)(fd:FuncData)(ps:aw)(sp:Sp):Prop where
 len:∀vs H Q E,sp vs H Q E->vs.length=ps.length
 run:∀(A:ay) (outer:List Env) (s:Shared) (H:Hp) (args:Args) (us:ai) (vs:af) (Q:VK) (E:XK),e_ k A->D2 P w K mg base A outer s H->BindsTo s fd args (ps.zip us)->Vals vs us->sp vs H Q E ->
  codeAny (model P w) A (.call (.ref f) args) (CR CX outer P w H s Q E) s
theorem gO.mono{P:ax}{w:World}{K:ao}{mg:aO}{base:Heap}{CX:xP}{j k:Nat}{f:Addr}{fd:FuncData}{ps:aw}{sp:Sp}(F:gO P w K mg base CX j f fd ps sp)(h:j<=k):
  gO P w K mg base CX k f fd ps sp:=⟨F.len,λA outer s H args us vs Q E hr=>F.run A outer s H args us vs Q E (hr.mono h)⟩
variable {Q:VK}
section
variable {X:Cx}{pins:ak}{σ:St}{H:Hp}{s s':Shared}
theorem Inv.Sd(I:Inv X pins σ H s):D2 X.prog X.w X.K X.mg X.base X.A X.stack s H :=
 ⟨I.ok.frames,I.ok.mod,I.bs,YL I.ok.EY I.sz,I.stack,I.uf,I.cD,I.bare⟩
theorem Inv.after{u:Value}(I:Inv X pins σ H s)(h:CE X.stack X.prog X.w H s Q u s'):EP X pins σ Q u s':=by
 obtain⟨v,H',os,bare,un,cD,r,q⟩:=h;obtain⟨hh,g,d,t,Lp⟩:=s';obtain rfl:Lp=s.os:=os;exact⟨v,H',I.call (h':=hh) (g':=g) (d':=d) (t':=t) (ch:=[]) un cD bare (λb z=>absurd z (by simp)),r,q⟩
end
noncomputable def Ks(sp:Sp)(dY:af)(E:XK)(t:TA):TE:=λσ H Q=>t σ H λvs H1=>sp (vs++dY) H1 Q E
noncomputable def Binds(K:ao)(fd:FuncData)(ps:aw)(ds:ai):Prop :=
 ∀(s:Shared) (us:ai),K.In s.heap->(us++ds).length=ps.length->BindsTo s fd ⟨us,[]⟩ (ps.zip (us++ds))
variable {K:ao}{N ps:aw}
theorem Binds.all{fd:FuncData}(h:∀us:ai,us.length=ps.length->bindArgs fd ⟨us,[]⟩=pure (ps.zip us)):Binds K fd ps []:=λs us _ hl=>by
 rw[List.append_nil]at hl ⊢;exact .of_eq (h us hl)
def Passes(CX:xP)(X:Cx)(E:XK):Prop:=∀(pins:ak) (σ:St) (H:Hp) (s:Shared) (e:Value) (s':Shared),Inv X pins σ H s->CX X.stack H s E e s'->X.xe e s'
variable {H:Hp}{us:ai}{vs:af}
section
variable {X:Cx}{CX:xP}{k:Nat}{f C:Addr}{fd:FuncData}{ps:aw}{sp:Sp}{dY:af}{ds:ai}{E:XK}{x m:Str}{p pos apos:Pos}{e o:Expr}{es:au}{ta:TE}{t:TA}
theorem Gd{pins:ak}{σ:St}{s:Shared}(F:gO X.prog X.w X.K X.mg X.base CX k f fd ps sp)(hr:e_ k X.A)(hb:Binds X.K fd ps ds)(hd:Vals dY ds)(hx:Passes CX X E)
  (I:Inv X pins σ H s) (r:Vals vs us) (h:sp (vs++dY) H Q E):wpAny (model X.prog X.w) X.A (call (.ref f) us) (EP X pins σ Q) X.xe s:=by
 have r2:Vals (vs++dY) (us++ds):=r.append hd;have hl:(us++ds).length=ps.length:=by rw[<- r2.length];exact F.len _ _ _ _ h
 refine wpAny_call (ZA (F.run X.A X.stack s H ⟨us,[]⟩ (us++ds) (vs++dY) Q E hr I.Sd (hb s us I.xF hl) r2 h) λr s' hq=>?_);cases r with
 |error e=>exact hx pins σ H s e s' I hq
 |ok fl =>
  cases fl with
  |ret u=>exact I.after hq
  |next=>exact False.elim hq
  |brk=>exact False.elim hq
  |cont=>exact False.elim hq
theorem Cm(F:gO X.prog X.w X.K X.mg X.base CX k f fd ps sp)(hr:e_ k X.A)(hg:Gl X x)(hm:X.mg x=some (.ref f))(hk:PySem.W.keepIn X.K (.ref f)=true)(hb:Binds X.K fd ps ds)(hd:Vals dY ds)(hx:Passes CX X E)
  (ha:PA X (e::es) t) (HL:(x==("__debug__" : Str))=false:=by decide) (he:starEach (e::es) X.env=(false,eval e X.env)::starEach es X.env:=by rfl) (hpl:(backTo pos (starEach es X.env)).any (·.1)=false:=by rfl) :
  PE X (.Call (.Name x p) (e::es) [] pos) (Ks sp dY E t):=by
 intro pins s σ H Q I h;refine YR (uX I hg hm ?_ HL);refine PySem.W.callWith_K (h₀:=X.base) I.ok.mod.QK hk (cA (ha pos pins s σ H _ I h) λus s1 ⟨vs,H1,I1,r,q⟩=>⟨I1.xF,?_⟩) he hpl;exact Gd F hr hb hd hx I1 r q
structure Mk(K:ao)(C f:Addr):Prop where
 makes:PySem.W.makesIn K C=true
 init:PySem.W.findIn K (.ref C) "__init__" = some (some (.ref f))
 fn:PySem.W.isFn K (.ref f)=true
 kp:PySem.W.keepIn K (.ref C)=true
end
section
variable {X:Cx}{CX:xP}{k:Nat}{f C:Addr}{fd:FuncData}{ps ks:aw}{sp:Sp}{E:XK}{x m:Str}{p pos apos VR:Pos}{e o:Expr}{es:au}{X6:List Keyword}{te ta:TE}{t tk:TA}{nm:Option Str}
structure SN(K:ao)(fd:FuncData)(ps ks:aw)(g:ai->ai->ai)(gV:af->af->af):Prop where
 to:∀(s:Shared) (us ws:ai),K.In s.heap->(g us ws).length=ps.length->BindsTo s fd ⟨us,ks.zip ws⟩ (ps.zip (g us ws))
 rel:∀{vs:af} {us:ai} {zs:af} {ws:ai},Vals vs us->Vals zs ws->Vals (gV vs zs) (g us ws)
variable {g:ai->ai->ai}{gV:af->af->af}
end
structure gM(N P:aw)(sc:Scope):Prop where
 kind:sc.kind=.function
 co:sc.isCoroutine=false
 gen:sc.isGenerator=false
 nd:N.Nodup
 pre:N.take P.length=P
 par:∀x∈P,sc.names.lookup x=some .local\/sc.names.lookup x=some .cell
 G4:∀y∈sc.names,y.2≠.free
theorem nN{kindOf:Str->Option NameKind}{x:Str}:∀{binds:List (Str×Value)} {m:aO},(∀v,(x,v)∉binds)->bindL kindOf binds m x=m x
 |[],_,_=>rfl
 | (n,v)::r,m,h=>by
  unfold bindL;rw[nN λw hw=>h w (List.mem_cons_of_mem _ hw)];split
  ·have:x≠n:=by rintro rfl;exact h v Yo
   simp[this]
  ·rfl
theorem nQ{kindOf:Str->Option NameKind}{x:Str}:∀{binds:List (Str×Value)} {m:aO},(∀v,(x,v)∉binds)->bindC kindOf binds m x=m x
 |[],_,_=>rfl
 | (n,v)::r,m,h=>by
  unfold bindC;rw[nQ λw hw=>h w (List.mem_cons_of_mem _ hw)];split
  ·rfl
  ·have:x≠n:=by rintro rfl;exact h v Yo
   simp[this]
theorem nP{kindOf:Str->Option NameKind}{x:Str}{v:Value}:∀{P:aw} {vs:ai} {i:Nat} {m:aO},P.Nodup->P[i]?=some x->vs[i]?=some v->kindOf x=some .local ->
  bindL kindOf (P.zip vs) m x=some v
 |[],_,_,_,_,h,_,_=>by simp at h
 |_::_,[],_,_,_,_,h,_=>by simp at h
 |p::P,w::vs,0,m,nd,h1,h2,hk=>by
  simp at h1 h2;subst h1;subst h2;show bindL kindOf ((p,w)::P.zip vs) m p=_;unfold bindL;rw[nN λv hv=>(List.nodup_cons.mp nd).1 (List.of_mem_zip hv).1,if_pos hk];simp
 |p::P,w::vs,i+1,m,nd,h1,h2,hk=>by
  show bindL kindOf ((p,w)::P.zip vs) m x=_;unfold bindL;exact nP (i:=i) (List.nodup_cons.mp nd).2 (by simpa using h1) (by simpa using h2) hk
theorem nS{kindOf:Str->Option NameKind}{x:Str}{v:Value}:∀{P:aw} {vs:ai} {i:Nat} {m:aO},P.Nodup->P[i]?=some x->vs[i]?=some v->kindOf x≠some .local ->
  bindC kindOf (P.zip vs) m x=some v
 |[],_,_,_,_,h,_,_=>by simp at h
 |_::_,[],_,_,_,_,h,_=>by simp at h
 |p::P,w::vs,0,m,nd,h1,h2,hk=>by
  simp at h1 h2;subst h1;subst h2;show bindC kindOf ((p,w)::P.zip vs) m p=_;unfold bindC;rw[nQ λv hv=>(List.nodup_cons.mp nd).1 (List.of_mem_zip hv).1,if_neg hk];simp
 |p::P,w::vs,i+1,m,nd,h1,h2,hk=>by
  show bindC kindOf ((p,w)::P.zip vs) m x=_;unfold bindC;exact nS (i:=i) (List.nodup_cons.mp nd).2 (by simpa using h1) (by simpa using h2) hk
noncomputable def start(N:aw)(vs:af):St:=vs.map some++List.replicate (N.length - vs.length) none
noncomputable def tI(CX:xP)(P:ax)(w:World)(K:ao)(mg:aO)(base:Heap)(N:aw)(qual:Str)(scope:Scope)(f:Addr)(cd:Value)(A:ay)(outer:List Env)(s:Shared)(H:Hp)(E:XK):Cx where
 prog:=P
 w:=w
 K:=K
 mg:=mg
 base:=base
 A:=A.deeper (envOfC qual scope s.heap.objs.size f cd)
 N:=N
 s₀:=s
 H₀:=H
 env:=envOfC qual scope s.heap.objs.size f cd
 outer:=outer
 stack:=envOfC qual scope s.heap.objs.size f cd::outer
 ex:=[]
 calm:=true
 fn:=λ_=>true
 pn:=[]
 xe:=λe s'=>wpAny (model P w) (A.deeper (envOfC qual scope s.heap.objs.size f cd)) (leaving (envOfC qual scope s.heap.objs.size f cd) e) (λ_ P_=>CX outer H s E e P_) (λe' P_=>CX outer H s E e' P_) s'
theorem rG{sc:Scope}{n:Nat}{x:Str}(h:sc.names.lookup x=some .cell):∃c,(cellsFrom n sc.names []).lookup x=some c:=by
 have q:=PySem.W.cellsFrom_some sc.names n [] (.inl h);exact Option.isSome_iff_exists.mp q
variable {P:ax}{base:Heap}{mg:Str->Option Value}{qual:Str}{scope:Scope}{w:World}
theorem wO{CX:xP}{f:Addr}{cd:Value}{outer:List Env}{s s1:Shared}{E:XK}  
  (S:gM N ps scope) (hd:A.handled=none) (e0:D2 P w K mg base A outer s H) (hl:vs.length=ps.length) (r:Vals vs us)
  (x:InCallC s s.heap.objs.size (bindL (envOfC qual scope s.heap.objs.size f cd).kindOf (ps.zip us) λ_=>none) (cellsFrom (s.heap.objs.size+1) scope.names []) (bindC (envOfC qual scope s.heap.objs.size f cd).kindOf (ps.zip us) λ_=>none) s1) :
  Inv (tI CX P w K mg base N qual scope f cd A outer s H E) [] (start N vs) H s1:=by
 have hpl:ps.length<=N.length:=by have:=Zw List.length S.pre;rw[List.length_take]at this;left
 obtain⟨h1,tk,rfl,hk⟩:=x.done;have LD:∀b:Addr,b∉(tI CX P w K mg base N qual scope f cd A outer s H E).ex:=λb z=>absurd (show b∈([]:aM) from z) (by simp);refine⟨⟨e0.mod,S.kind,rfl,rfl,Ys _,λy z c h1 h2=>?_,λy hy=>?_,λy c _ h=>?_,λ_=>hd,Around.frames_deeper e0.frames,.inr ⟨rfl,rfl⟩,λb z=>absurd z (LD b),e0.bs,e0.EY,λb _ _=>LD b,λb z=>absurd z (LD b),e0.jZ,e0.JP⟩,
  rfl,e0.bare,Un.kept hk,⟨_,x.toInCall.ns,λi y v h1 h2 h3=>?_⟩,λy c h=>⟨_,x.cell y c h⟩,e0.cD.fresh (Ys _),λy c h=>?_,λp hp=>absurd (show p∈([]:ak) from hp) (by simp),e0.cD.kept hk,?_⟩
 ·exact name_of_addr x.apart (Zb h1) (Zb h2)
 ·have hy:scope.names.lookup y=some .cell\/scope.names.lookup y=some .free:=hy;rcases hy with hy|hy
  ·exact rG hy
  ·exact absurd rfl (S.G4 _ (Zb hy))
 ·exact ZO (x.above y c (Zb h))
 ·have hi:i<vs.length:=by
   unfold start at h2;by_cases hi:i<vs.length
   ·exact hi
   ·rw[List.getElem?_append_right (by simpa using hi)]at h2;rw[List.getElem?_replicate]at h2;split at h2<;>cases h2
  have ha:vs[i]?=some v:=by
   unfold start at h2;rw[List.getElem?_append_left (by simpa using hi),List.getElem?_map]at h2;cases e:vs[i]? with
   |none=>rw[e]at h2;cases h2
   |some a=>rw[e]at h2;cases h2;rfl
  obtain⟨u,hu,rv⟩:=r.get ha;have hp:ps[i]?=some y:=by
   rw[<- S.pre,List.getElem?_take_of_lt (by left)];exact h1
  have Tq:ps.Nodup:=by rw[<- S.pre];exact S.nd.sublist (List.take_sublist _ _)
  refine⟨u,rv,?_⟩;rcases S.par y (Yz hp)with k|k
  ·exact .inl ⟨k,nP Tq hp hu k⟩
  ·obtain⟨c,e⟩:=rG (n:=s.heap.objs.size+1) k;refine .inr ⟨.inl k,c,e,?_⟩;have q:=x.cell y c e;rw[nS Tq hp hu (by show scope.names.lookup y≠_;rw[k];decide)]at q;exact q
 ·exact e0.cD.fresh (ZO (x.above y c (Zb h)))
 ·unfold start;show _=N.length;rw[List.length_append,List.length_map,List.length_replicate];left
theorem Nc{CX:xP}{k:Nat}{f:Addr}{name:Str}{params:Arguments}{body:aJ}{dV kV doc pm gW ct oc:Value}{an od:Option Addr}
  {xD:Array (Option Value)} {sp:Sp} (lk:K.lookup f=some ⟨oc,od,.func (PySem.W.fnOf name qual params body scope dV kV doc pm an gW ct),xD⟩) (Ab:PySem.W.codeIn K gW qual=true) (S:gM N ps scope)
  (len:∀vs H Q E,sp vs H Q E->vs.length=ps.length)
  (Ac:∀(A:ay) (outer:List Env) (s:Shared) (H:Hp) (vs:af) (Q:VK) (E:XK),e_ k (A.deeper (envOfC qual scope s.heap.objs.size f gW))->sp vs H Q E ->
   ∃t,kN (tI CX P w K mg base N qual scope f gW A outer s H E) body t/\t { nx:=λ_ H'=>Q .bD H',rt:=Q } (start N vs) H) :
  gO P w K mg base CX (k+1) f (PySem.W.fnOf name qual params body scope dV kV doc pm an gW ct) ps sp:=by
 refine⟨len,λA outer s H args us vs Q E hr e0 hb r Bh=>?_⟩;have hl:=len _ _ _ _ Bh;have KX:K.In s.heap:=e0.mod.QK.keeps λb o e=>(e0.bs b o e).1;have lim:s.heap.NoLimit:=e0.mod.nolimit.keeps λb o e=>(e0.bs b o e).1;have MD:∀y∈ps.zip us,scope.names.lookup y.1=some .local\/(scope.names.lookup y.1=some .cell/\((cellsFrom (s.heap.objs.size+1) scope.names []).lookup y.1).isSome=true):=λ⟨n,v⟩ hy=>by
  rcases S.par n (List.of_mem_zip hy).1 with q|q
  ·exact .inl q
  ·exact .inr ⟨q,PySem.W.cellsFrom_some _ _ _ (.inl q)⟩
 refine codeAny_call_function hr.depth (KX _ _ lk) rfl S.co S.gen rfl (PySem.W.codeRec_of KX Ab) (hb _ _ _ _ ?_);refine wpAny_newFunctionEnv_cells S.kind MD λenv he s1 x=>?_;subst he;refine⟨lim.keeps x.toInCall.keep,codeAny_func ?_⟩;obtain⟨t,ht,hq⟩:=Ac A outer s H vs Q E (hr.deeper _) Bh;have I:Inv (tI CX P w K mg base N qual scope f gW A outer s H E) [] (start N vs) H s1:=wO S hr.hd e0 hl r x;refine YC (ht [] s1 (start N vs) H _ I hq) (λfl s' hs=>?_) λe s' hs=>hs;have fin:∀{σ':St} {H':Hp} {v:V} {u:Value},Inv (tI CX P w K mg base N qual scope f gW A outer s H E) [] σ' H' s'->RelV v u->Q v H'->CE outer P w H s Q u s' :=
  λ{σ' H' v u} J rv q=>⟨v,H',J.os,J.bare,J.base,J.cD,rv,q⟩
 cases fl with
 |ret u =>
  obtain⟨v,σ',H',J,rv,q⟩:=hs;exact fin J rv q
 |next =>
  obtain⟨σ',H',J,q⟩:=hs;exact fin (v:=V.bD) (u:=Value.none) J rfl q
 |brk =>
  obtain⟨_,_,_,q⟩:=hs;exact False.elim q
 |cont =>
  obtain⟨_,_,_,q⟩:=hs;exact False.elim q
end L2
namespace L2
open PySem PySem.Spec PyProof.Rows
section
variable {X:Cx}{x:Str}{p pos:Pos}{e:Expr}{es:au}{t:TA}{id T:String}{r:af->Hp->VK->Prop}
noncomputable def FI(r:af->Hp->VK->Prop)(t:TA):TE:=λσ H Q=>t σ H λvs H1=>r vs H1 Q
theorem dh(hc:eE X (.builtin id) r)(hg:Gl X x)(hm:X.mg x=none)(hv:bootBuiltins x=some (.builtin id))(ha:PA X (e::es) t)(hn:x ≠ "__name__":=by decide)(HL:(x==("__debug__" : Str))=false:=by decide)
  (he:starEach (e::es) X.env=(false,eval e X.env)::starEach es X.env:=by rfl) (hpl:(backTo pos (starEach es X.env)).any (·.1)=false:=by rfl):PE X (.Call (.Name x p) (e::es) [] pos) (FI r t):=by
 intro pins s σ H Q I h;refine YR (cZ I hg hm hv ?_ hn HL);exact Y9 (cA (ha pos pins s σ H _ I h) λus s1 ⟨vs,H1,I1,r1,q1⟩=>hc pins s1 σ H1 vs us Q I1 r1 q1) he hpl
theorem m9(hc:eE X (.type T) r)(hg:Gl X x)(hm:X.mg x=none)(hv:bootBuiltins x=some (.type T))(ha:PA X (e::es) t)(hn:x ≠ "__name__":=by decide)(HL:(x==("__debug__" : Str))=false:=by decide)
  (he:starEach (e::es) X.env=(false,eval e X.env)::starEach es X.env:=by rfl) (hpl:(backTo pos (starEach es X.env)).any (·.1)=false:=by rfl):PE X (.Call (.Name x p) (e::es) [] pos) (FI r t):=by
 intro pins s σ H Q I h;refine YR (cZ I hg hm hv ?_ hn HL);exact YK (cA (ha pos pins s σ H _ I h) λus s1 ⟨vs,H1,I1,r1,q1⟩=>hc pins s1 σ H1 vs us Q I1 r1 q1) he hpl
end
end L2
namespace HT
open PySem PyProof.Rows
noncomputable def lexLt:aa->aa->Bool
 |[],[]=>false
 |[],_::_=>true
 |_::_,[]=>false
 |x::xs,y::ys=>if x=y then lexLt xs ys else decide (x<y)
theorem cm(x y:Int)(xs ys:aa):lexLt (x::xs) (y::ys)=if x=y then lexLt xs ys else decide (x<y):=rfl
theorem gS:lexLt [] []=false:=rfl
theorem lu(y:Int)(ys:aa):lexLt [] (y::ys)=true:=rfl
theorem ck(x:Int)(xs:aa):lexLt (x::xs) []=false:=rfl
theorem Az(A:ay)(s:Shared)(a:Int)(t:Tok)(c:Int)(u:Tok):∃e,SeqAt.EqAt A s (.int a t) (.int c u) e/\(e=true ↔ a=c) :=
 ⟨(a==c),ZQ a t c u,by simp⟩
theorem yK(A:ay)(s:Shared)(a:Int)(t:Tok)(c:Int)(u:Tok)(prog:ax)(w:World)(E:av)(Q:av)(h:Q (.bool (decide (a<c))) s):
  wpAny (model prog w) A (richCompare .Lt (.int a t) (.int c u)) Q E s :=
 (PyProof.Rows.lt_int h:wpAny (model prog w) A (compareOp .Lt (.int a t) (.int c u)) Q E s)
section
open PySem.SeqAt
open PySem.AutoSeq1 (wpAny_loadPart')
open PySem.MeetsSeq PySem.MeetsSeq2 PySem.MeetsSeq3
theorem gR(l b:Addr)(items eH:aQ)(n n2:Nat)(dd Bm:Option Addr)(sl Bc:Array (Option Value))(ns ms:aa)(hi:IntsAre items.toList ns)(hj:IntsAre eH.toList ms):
  Meets (Builtin.«tuple.__lt__» ⟨[.ref l,.ref b],[]⟩)
   (λ_ R s=>s.heap.get? l=some { cls:=.type "tuple",dict:=dd,data:=.seq items n,slots:=sl }/\s.heap.get? b=some { cls:=.type "tuple",dict:=Bm,data:=.seq eH n2,slots:=Bc } /\
    R (.ok (.ret (.bool (lexLt ns ms)))) s) :=
 .of_wp λprog w A R s h=>by
  obtain⟨hp,g,d,tk,os⟩:=s;obtain⟨hl,hb,h⟩:=h;have f2:=AutoSeq1.sub_tuple_tuple;have z1:items.size=ns.length:=by rw[<- hi.length];simp
  have z2:eH.size=ms.length:=by rw[<- hj.length];simp
  wp_walk using wpAny_loadPart' hl,wpAny_loadPart' hb,wpAny_forIn_list _ (λrest b s'=>b.1=none/\s'=⟨hp,g,d,tk,os⟩/\∃(vs ws:ai) (jM Jz:aa),rest=vs.zip ws /\
   IntsAre vs jM/\IntsAre ws Jz/\jM.length+eH.size=Jz.length+items.size/\R (.ok (.ret (.bool (lexLt jM Jz)))) ⟨hp,g,d,tk,os⟩) _
  case turn =>
   rintro ⟨y,x⟩ rest b s' ⟨sX,rfl,vs,ws,jM,Jz,hz,Q5,OD,hlen,hR⟩;cases Q5 with
   |nil=>rw[List.zip_nil_left]at hz;cases hz
   |cons a t hvi' =>
    cases OD with
    |nil=>rw[List.zip_nil_right]at hz;cases hz
    |cons c u hwi' =>
     rw[List.zip_cons_cons]at hz;injection hz with V1 Mp
     injection V1 with hy hx
     subst hy hx;rw[cm]at hR;simp only[List.length_cons]at hlen;obtain⟨e,he,MG⟩:=Az A.in1 ⟨hp,g,d,tk,os⟩ a t c u;refine Yj (he prog w _ _ ?_);cases e with
     |true =>
      rw[if_pos (MG.mp rfl)]at hR
      wp_walk
      exact⟨rfl,rfl,_,_,_,_,Mp,hvi',hwi',by left,hR⟩
     |false =>
      rw[if_neg (λq=>absurd (MG.mpr q) Bool.false_ne_true)]at hR;have V9:=yK A.in1 ⟨hp,g,d,tk,os⟩ a t c u prog w
      wp_walk using V9
      exact⟨_,rfl,by simpa using hR⟩
  case fin =>
   rintro ⟨b1,b2⟩ s' ⟨sX,rfl,vs,ws,jM,Jz,hz,Q5,OD,hlen,hR⟩;simp only at sX;subst sX;have hv:lexLt jM Jz=decide (items.size<eH.size):=by
    cases Q5 with
    |nil =>
     cases OD with
     |nil =>
      simp only[List.length_nil]at hlen;rw[gS];exact(Zg (by left)).symm
     |cons c u hw =>
      simp only[List.length_nil,List.length_cons]at hlen;rw[lu];exact(Zm (by left)).symm
    |cons a t hv =>
     cases OD with
     |nil =>
      simp only[List.length_nil,List.length_cons]at hlen;rw[ck];exact(Zg (by left)).symm
     |cons c u hw =>
      rw[List.zip_cons_cons]at hz;cases hz
   rw[hv]at hR
   wp_walk
   exact⟨_,rfl,by simpa [Builtin.Tuple.tupleCompareSizes]using hR⟩
  case h =>
   exact⟨rfl,rfl,items.toList,eH.toList,ns,ms,rfl,hi,hj,by left,h⟩
end
variable {Q:Value->Shared->Prop}
section
variable {prog:ax}{w:World}{A:ay}{E:av}{s:Shared}
theorem sJ{l b:Addr}{items eH:aQ}{ns ms:aa}(hl:IsTup s.heap l items)(hb:IsTup s.heap b eH)(hi:IntsAre items.toList ns)(hj:IntsAre eH.toList ms)
  (hu:A.units<cLine) (h:Q (.bool (lexLt ns ms)) s):wpAny (model prog w) A (compareOp .Lt (.ref l) (.ref b)) Q E s:=by
 obtain⟨⟨cls,dd,data,sl⟩,ho,hc,n,hd⟩:=id hl;obtain⟨⟨Jc,Bm,data2,Bc⟩,rR,hc2,n2,hd2⟩:=id hb;simp only at hc hd hc2 hd2;subst hc hd hc2 hd2;exact richCompare_meets_room (op:=.Lt) ⟨_,ho,rfl⟩ ⟨_,rR,rfl⟩ aaa PySem.F.entry_tuple_lt (PySem.F.args_tuple_lt_2 _ _) (gR l b items eH n n2 dd Bm sl Bc ns ms hi hj)
  ⟨ho,rR,show Value.bool (lexLt ns ms)≠Value.notImplemented/\Q (.bool (lexLt ns ms)) s from⟨(λx=>nomatch x),h⟩⟩ hu
theorem DK{t b:Addr}{vs ws:ai}(ht:IsTup s.heap t vs.toArray)(hb:IsTup s.heap b ws.toArray)(hv:vs≠[])
  (h1:ws=[]->Q (.ref t) s) (h2:ws≠[]->Q (.ref s.heap.objs.size) { s with heap:=s.heap.push { cls:=.type "tuple",data:=.seq (vs++ws).toArray } })
  (hsz:vs.length+ws.length<=sizeLine):wpAny (model prog w) A (binaryOp .Add (.ref t) (.ref b)) Q E s:=by
 obtain⟨⟨cls,dd,data,sl⟩,ho,hc,n,hd⟩:=id ht;obtain⟨⟨Jc,Bm,data2,Bc⟩,rR,hc2,n2,hd2⟩:=id hb;simp only at hc hd hc2 hd2;subst hc hd hc2 hd2;have e:vs.toArray++ws.toArray=(vs++ws).toArray:=by simp
 by_cases hw:ws=[]
 ·exact concat_meets ⟨_,ho,rfl⟩ ⟨_,rR,rfl⟩ noFill_tuple_add seq_tuple_add ZY ZU (ZR _ _)
   (tuple_addW1 t b vs.toArray ws.toArray n n2 dd Bm sl Bc (by simpa using hv) (by simp[hw])) ⟨ho,rR,h1 hw⟩
 ·refine concat_meets ⟨_,ho,rfl⟩ ⟨_,rR,rfl⟩ noFill_tuple_add seq_tuple_add ZY ZU (ZR _ _)
   (tuple_addW2 t b vs.toArray ws.toArray n n2 dd Bm sl Bc (by simpa using hv) (by simpa using hw) (by rw[List.size_toArray,List.size_toArray];exact hsz)) ⟨ho,rR,?_⟩
  rw[e];exact h2 hw
noncomputable def sx(n d:Nat):Option Int->Nat
 |none=>d
 |some v=>if v<0 then(v+(n:Int)).toNat else min v.toNat n
end
end HT
namespace L2
open PySem PySem.Spec PyProof.Rows
noncomputable abbrev TO:=St->Hp->(Option Int->Hp->Prop)->Prop
noncomputable def PO(X:Cx)(e:Option Expr)(t:TO):Prop :=
 ∀(pins:ak) (s:Shared) (σ:St) (H:Hp) (Q:Option Int->Hp->Prop),Inv X pins σ H s->t σ H Q ->
  wpAny (model X.prog X.w) X.A (evalPart e X.env) (λu s'=>∃o H',Inv X pins σ H' s'/\IsPart u o/\Q o H') X.xe s
noncomputable def BN:TO:=λ_ H Q=>Q none H
noncomputable def Kl(t:TE):TO:=λσ H Q=>t σ H λx H1=>∃i,x=.int i/\Q (some i) H1
section
variable {X:Cx}{e:Expr}{te:TE}{lo hi:Option Expr}{tl th:TO}{pos p2:Pos}
theorem uE:PO X none BN:=by
 intro pins s σ H Q I h;rw[evalPart_none];exact Yk ⟨none,H,I,.none,h⟩
theorem uD(h:PE X e te):PO X (some e) (Kl te):=by
 intro pins s σ H Q I hw;rw[evalPart_some];refine cA (h pins s σ H _ I hw) λu s1 bz=>?_;obtain⟨x,H1,I1,r1,q1⟩:=bz;obtain⟨i,rfl,q⟩:=q1;obtain⟨t,rfl⟩:=r1;exact⟨some i,H1,I1,.int i t,q⟩
def SK(X:Cx)(r:V->Option Int->Option Int->Hp->VK->Prop):Prop :=
 ∀(pins:ak) (s:Shared) (σ:St) (H:Hp) (x:V) (v vl vu:Value) (lo hi:Option Int) (sl:Addr) (Q:VK),Inv X pins σ H s->RelV x v->s.heap.IsSliceOf sl vl vu .none->IsPart vl lo->IsPart vu hi->r x lo hi H Q ->
  ∃T id,typeLookup (.type T) "__getitem__" = pure (some (.builtin id))/\s.TypeIs v T/\wpAny (model X.prog X.w) X.A (getItem v (.ref sl)) (EP X pins σ Q) X.xe s
noncomputable def Vg(r:V->Option Int->Option Int->Hp->VK->Prop)(te:TE)(tl th:TO):TE:=λσ H Q=>te σ H λx H1=>tl σ H1 λl H2=>th σ H2 λu H3=>r x l u H3 Q
theorem yX{r:V->Option Int->Option Int->Hp->VK->Prop}(hr:SK X r)(he:PE X e te)(hl:PO X lo tl)(hu:PO X hi th):PE X (.Subscript e (.Slice lo hi none p2) pos) (Vg r te tl th):=by
 intro pins s σ H Q I h;refine Subscript_ (cA (he pins s σ H _ I h) λv s1 bz=>?_);obtain⟨x,H1,I1,r1,q1⟩:=bz;refine wpAny_Slice (cA (hl pins s1 σ H1 _ I1 q1) λvl s2 ⟨l,H2,I2,pl,q2⟩=>cA (hu pins s2 σ H2 _ I2 q2) λvu s3 bz=>?_);obtain⟨u,H3,I3,pu,q3⟩:=bz;rw[evalPart_none];refine Yk ?_;have I4:Inv X pins σ H3 { s3 with heap:=s3.heap.push { cls:=.type "slice",data:=.fields #[vl,vu,.none] } }:=I3.kept (t':=s3.toks) λb ob q=>Ym _ q;obtain⟨T,id,hT,ht,hg⟩:=hr pins { s3 with heap:=s3.heap.push { cls:=.type "slice",data:=.fields #[vl,vu,.none] } } σ H3 x v vl vu l u s3.heap.objs.size Q I4 r1 (Heap.IsSliceOf.new ..) pl pu q3;show wpAny (model X.prog X.w) X.A (subscriptTail e (.Slice lo hi none p2) v (.ref s3.heap.objs.size)) (EP X pins σ Q) X.xe { s3 with heap:=s3.heap.push { cls:=.type "slice",data:=.fields #[vl,vu,.none] } };exact tail_any (ops:=[.ref s3.heap.objs.size,v]) ht hT hg (by with_unfolding_all rfl)
def DC(xs:af)(lo hi:Option Int):af:=(xs.drop (HT.sx xs.length 0 lo)).take (HT.sx xs.length xs.length hi - HT.sx xs.length 0 lo)
theorem rA(xs:af)(lo hi:Option Int):(DC xs lo hi).length<=xs.length:=by
 unfold DC;rw[List.length_take,List.length_drop];left
def K5(K:ao):R2:=λx y H Q=>∃a b xs ys,x=.ref a/\y=.ref b/\aN K H a xs/\aN K H b ys/\xs≠[]/\xs.length+ys.length<=sizeLine /\
 (ys=[]->Q (.ref a) H)/\(ys≠[]->∀p,H p=none->Q (.ref p) (upd H p (.tup (xs++ys))))
theorem Vals.oJ{xs:af}{us:ai}(r:Vals xs us):us=[] ↔ xs=[]:=by
 cases r with
 |nil=>simp
 |cons _ _=>simp
theorem Cs:iI X (binaryOp .Add) (K5 X.K):=by
 intro pins s σ H x y v u Q I rx ry h;obtain⟨a,b,xs,ys,rfl,rfl,ha,hb,hx,hz,q1,q2⟩:=h;cases rx;cases ry;obtain⟨aC,r1,p1,_⟩:=I.tuple ha;obtain⟨zJ,r2,p2,_⟩:=I.tuple hb;refine HT.DK p1 p2 (λz=>hx (r1.oJ.mp z)) (λz=>⟨.ref a,H,I,rfl,q1 (r2.oJ.mp z)⟩) (λz=>?_) (by rw[<- r1.length,<- r2.length];exact hz);refine⟨.ref s.heap.objs.size,_,I.laid (t':=s.toks) (o:=.tup (xs++ys)) (λb ob q=>Ym _ q) (Ys _) ?_,rfl,q2 (λw=>z (r2.oJ.mpr w)) _ (I.cD.fresh (Ys _))⟩;exact⟨by rw[List.length_append];exact hz,_,r1.append r2,IsTup.new _ _⟩
end
end L2
namespace L2
open PySem PySem.Spec PyProof.Rows
noncomputable def nq(n:Nat)(i:Int):Option Nat:=if 0<=i then(if i<n then some i.toNat else none)else if -(n:Int)<=i then some (i+n).toNat else none
def Fe{α:Type}(xs:List α)(i:Int):Option α:=(nq xs.length i).bind λj=>xs[j]?
theorem va{n:Nat}{i:Int}{j:Nat}(h:nq n i=some j):seqIndex? i n=some j/\j<n /\ -(n:Int)<=i/\i<n:=by
 unfold nq at h;by_cases h0:0<=i
 ·rw[if_pos h0]at h;by_cases h1:i<n
  ·rw[if_pos h1]at h;have e:i.toNat=j:=YB h;exact⟨by rw[seqIndex_of h0 h1,e],by left,by left,h1⟩
  ·rw[if_neg h1]at h;cases h
 ·rw[if_neg h0]at h;by_cases h1:-(n:Int)<=i
  ·rw[if_pos h1]at h;have e:(i+n).toNat=j:=YB h;exact⟨by rw[seqIndex_neg (by left) h1,e],by left,h1,by left⟩
  ·rw[if_neg h1]at h;cases h
theorem vT{α:Type}{xs:List α}{i:Int}{v:α}(h:Fe xs i=some v):∃j,seqIndex? i xs.length=some j/\xs[j]?=some v/\j<xs.length /\ -(xs.length:Int)<=i/\i<xs.length:=by
 unfold Fe at h;cases e:nq xs.length i with
 |none=>rw[e]at h;cases h
 |some j =>
  rw[e]at h;obtain⟨h1,h2,h3,h4⟩:=va e;exact⟨j,h1,h,h2,h3,h4⟩
def kM(b:Expr):Prop:=∀o i,subscripted b false o i=operate [o,i] (getItem o i)
def Fj(X:Cx)(r:R2):Prop :=
 ∀(value slice:Expr) (pins:ak) (s:Shared) (σ:St) (H:Hp) (x y:V) (v u:Value) (Q:VK),Inv X pins σ H s->RelV x v->RelV y u->r x y H Q ->
  subscripted slice false v u=operate [v,u] (getItem v u)->wpAny (model X.prog X.w) X.A (subscriptTail value slice v u) (EP X pins σ Q) X.xe s
def SM(X:Cx)(id:String)(r:V->af->Hp->VK->Prop):Prop :=
 ∀(pins:ak) (s:Shared) (σ:St) (H:Hp) (x:V) (xs:af) (v:Value) (us:ai) (Q:VK),Inv X pins σ H s->RelV x v->Vals xs us->r x xs H Q ->
  wpAny (model X.prog X.w) X.A (call (.builtin id) (v::us)) (EP X pins σ Q) X.xe s
variable {H:Hp}{σ:L2.St}
section
variable {X:Cx}{a b:Expr}{ta tb:TE}{pos:Pos}
theorem Fj.or{r r':R2}(h:Fj X r)(h':Fj X r'):Fj X (λx y H Q=>r x y H Q\/r' x y H Q):=by
 intro value slice pins s σ H x y v u Q I rx ry q hs;rcases q with q|q
 ·exact h value slice pins s σ H x y v u Q I rx ry q hs
 ·exact h' value slice pins s σ H x y v u Q I rx ry q hs
theorem yZ{r:R2}(hr:Fj X r)(ha:PE X a ta)(hb:PE X b tb)(hs:kM b):PE X (.Subscript a b pos) (FH r ta tb):=by
 intro pins s σ H Q I h;exact Subscript_ (Jg ha hb I h λv u s2 x y H2 I2 rx ry q=>hr a b pins s2 σ H2 x y v u Q I2 rx ry q (hs _ _))
def Qh(K:ao):R2:=λx y H Q=>∃p xs i v,x=.ref p/\y=.int i/\cH K H p xs/\Fe xs i=some v/\Q v H
def Qg(K:ao):R2:=λx y H Q=>∃p xs i v,x=.ref p/\y=.int i/\aN K H p xs/\Fe xs i=some v/\Q v H
theorem u_:Fj X (Qh X.K):=by
 intro value slice pins s σ H x y v u Q I rx ry h hs;obtain⟨p,xs,i,z,rfl,rfl,hq,he,q⟩:=h;cases rx;obtain⟨t,rfl⟩:=ry;obtain⟨aC,r,pl,hz⟩:=I.list hq;obtain⟨j,h1,h2,h3,h4,h5⟩:=vT he;obtain⟨w,ew,iT⟩:=r.get h2;have hl:=r.length;have hn:=oR;have fin:EP X pins σ Q w s:=⟨z,H,I,iT,q⟩
 by_cases h0:0<=i
 ·have hj:i.toNat=j:=by
   rw[seqIndex_of h0 h5]at h1;exact YB h1
  exact item_listR pl.isList h0 (by left) (by rw[hj];simpa using ew) fin hs
 ·have hj:(i+(aC.toArray.size:Int)).toNat=j:=by
   rw[seqIndex_neg (by left) h4]at h1;rw[List.size_toArray,<- hl];exact YB h1
  exact ZZ (x:=w) pl.isList.typeIs slot_list_getitem.lookup
   (wpAny_getItem_list_neg (Q:=λr s'=>r=w/\EP X pins σ Q r s') pl.isList (by left) (by rw[List.size_toArray]<;>omega) (by left) (by rw[hj];simpa using ew) ⟨rfl,fin⟩) hs
theorem zH:Fj X (Qg X.K):=by
 intro value slice pins s σ H x y v u Q I rx ry h hs;obtain⟨p,xs,i,z,rfl,rfl,hq,he,q⟩:=h;cases rx;obtain⟨t,rfl⟩:=ry;obtain⟨aC,r,pl,hz⟩:=I.tuple hq;obtain⟨j,h1,h2,h3,h4,h5⟩:=vT he;obtain⟨w,ew,iT⟩:=r.get h2;have hl:=r.length;have hn:=oR;have fin:EP X pins σ Q w s:=⟨z,H,I,iT,q⟩
 exact ZZ (x:=w) pl.typeIs slot_tuple_getitem.lookup
  (getItem_tuple (j:=j) (Q:=λr s'=>r=w/\EP X pins σ Q r s') pl (by left) (by left) (by rw[List.size_toArray,<- hl];exact h1) (by simpa using ew) ⟨rfl,fin⟩) hs
theorem sI(aC:ai)(n j:Nat)(u:Value):Obj.mapSeq (·.setIfInBounds j u) { cls:=.type "list",data:=.seq aC.toArray n }={ cls:=.type "list",data:=.seq (aC.set j u).toArray n }:=by
 simp[Obj.mapSeq]
theorem Inv.lst{pins:ak}{σ:St}{H:Hp}{s:Shared}{p:Addr}{xs:af}(I:Inv X pins σ H s)(h:H p=some (.lst xs)):
  ∃(aC:ai) (n:Nat),Vals xs aC/\s.heap.get? p=some { cls:=.type "list",data:=.seq aC.toArray n }/\xs.length<=sizeLine:=by
 obtain⟨z,aC,n,r,e⟩:=I.cD p _ h;exact⟨aC,n,r,e,z⟩
theorem Inv.Ha{pins:ak}{s:Shared}{p:Addr}{xs ys:af}{aC its':ai}{n n':Nat}{f:Obj->Obj}(I:Inv X pins σ H s)(h:H p=some (.lst xs))
  (ho:s.heap.get? p=some { cls:=.type "list",data:=.seq aC.toArray n }) (hf:f { cls:=.type "list",data:=.seq aC.toArray n }={ cls:=.type "list",data:=.seq its'.toArray n' }) (r:Vals ys its') (hz:ys.length<=sizeLine) (t:Nat) :
  Inv X pins σ (upd H p (.lst ys)) { s with heap:=s.heap.update p f,toks:=t }:=by
 have e:(s.heap.update p f).get? p=some { cls:=.type "list",data:=.seq its'.toArray n' }:=by
  rw[Heap.get?_update_self f ho (by rw[hf]<;>rfl),hf]
 refine I.write (x:=p) (e:=p) (by rw[h];trivial) (.inl rfl) (λb u hb q=>(Ze _ _ (aat hb)).trans q) ⟨_,e⟩ ?_;exact⟨hz,its',n',r,e⟩
def K3:V->V->V->Hp->(Hp->Prop)->Prop:=λo i v H Q=>∃p xs k j,o=.ref p/\i=.int k/\H p=some (.lst xs)/\nq xs.length k=some j/\Q (upd H p (.lst (xs.set j v)))
theorem set_list:NU X K3:=by
 intro pins s σ H o i v ov iv u Q I ro ri rv h;obtain⟨p,xs,k,j,rfl,rfl,hp,hj,q⟩:=h;cases ro;obtain⟨t,rfl⟩:=ri;obtain⟨aC,n,r,ho,hz⟩:=I.lst hp;obtain⟨h1,h2,h3,h4⟩:=va hj;have hl:=r.length;have hn:=oR;have I':Inv X pins σ (upd H p (.lst (xs.set j v))) { s with heap:=s.heap.update p (Obj.mapSeq (·.setIfInBounds j u)) } :=
  I.Ha hp ho (sI aC n j u) (r.set rv j) (by rw[List.length_set];exact hz) s.toks
 by_cases h0:0<=k
 ·have hk:k.toNat=j:=by
   rw[seqIndex_of h0 h4]at h1;exact YB h1
  exact PySem.W.ki_setAt ho h0 (by left) (by rw[List.size_toArray,<- hl];exact h4) (by rw[hk];exact⟨_,I',q⟩)
 ·have hk:(k+(aC.toArray.size:Int)).toNat=j:=by
   rw[seqIndex_neg (by left) h3]at h1;rw[List.size_toArray,<- hl];exact YB h1
  exact PySem.W.ki_setBack ho (by left) (by rw[List.size_toArray,<- hl];exact h3) (by left) (by rw[hk];exact⟨_,I',q⟩)
theorem og(lo hi:Option Int)(n:Nat):(sliceBounds lo hi none n).1=((HT.sx n 0 lo:Nat):Int)/\(sliceBounds lo hi none n).2.1=((HT.sx n n hi:Nat):Int)/\(sliceBounds lo hi none n).2.2=1:=by
 refine⟨?_,?_,rfl⟩
 ·cases lo with
  |none=>simp[sliceBounds,HT.sx]
  |some i =>
   simp only[sliceBounds,HT.sx,Option.getD_none,show(1:Int)>0 by decide,if_true];by_cases h:i<0
   ·simp only[h,if_true]<;>left
   ·simp only[h,if_false]<;>left
 ·cases hi with
  |none=>simp[sliceBounds,HT.sx]
  |some i =>
   simp only[sliceBounds,HT.sx,Option.getD_none,show(1:Int)>0 by decide,if_true];by_cases h:i<0
   ·simp only[h,if_true]<;>left
   ·simp only[h,if_false]<;>left
theorem mw(aC:ai)(lo hi:Option Int):slicePick aC.toArray lo hi none=((aC.drop (HT.sx aC.length 0 lo)).take (HT.sx aC.length aC.length hi - HT.sx aC.length 0 lo)).toArray:=by
 obtain⟨h1,h2,h3⟩:=og lo hi aC.toArray.size;unfold slicePick;rw[h1,h2,h3];simp only[sliceRange_one,pick_run,List.size_toArray]<;>rfl
def Qd(K:ao):V->Option Int->Option Int->Hp->VK->Prop:=λx lo hi H Q=>∃a xs,x=.ref a/\cH K H a xs/\∀p,H p=none->Q (.ref p) (upd H p (.lst (DC xs lo hi)))
theorem uk:SK X (Qd X.K):=by
 intro pins s σ H x v vl vu lo hi sl Q I rx hs pl pu h;obtain⟨a,xs,rfl,hx,q⟩:=h;cases rx;obtain⟨aC,r,ht,hz⟩:=I.list hx;have hlen:=r.length;refine⟨"list",_,slot_list_getitem.lookup,ht.isList.typeIs,?_⟩;refine wpAny_getItem_list_slice ht.isList hs pl pu .none (by simp) ?_ (by rw[List.size_toArray]<;>omega);rw[mw,<- hlen];refine⟨.ref s.heap.objs.size,_,I.laid (t':=s.toks) (o:=.lst (DC xs lo hi)) (λb ob q=>Ym _ q) (Ys _) ?_,rfl,q _ (I.cD.fresh (Ys _))⟩;exact⟨YL (rA xs lo hi) hz,_,0,(r.drop (HT.sx xs.length 0 lo)).take (HT.sx xs.length xs.length hi - HT.sx xs.length 0 lo),Yt _ rfl⟩
noncomputable def gg:V->Bool
 |.bD=>true
 |.bl _=>true
 |.int _=>true
 |.str _=>true
 |_=>false
noncomputable def Dh:V->V->Bool
 |.bD,.bD=>true
 |.bl a,.bl b=>a==b
 |.bl a,.int b=>(if a then 1 else 0)==b
 |.int a,.bl b=>a==(if b then 1 else 0)
 |.int a,.int b=>a==b
 |.str a,.str b=>a==b
 |_,_=>false
theorem IS{A:ay}{s:Shared}{y x:V}{u v:Value}(ry:RelV y u)(rx:RelV x v)(fy:gg y=true)(fx:gg x=true):SeqAt.EqAt A s u v (Dh y x):=by
 cases y with
 |bD =>
  cases ry;cases x with
  |bD=>cases rx;exact ZM _
  |bl b=>cases rx;exact aad b
  |int b=>obtain⟨t,rfl⟩:=rx;exact aam b t
  |str b=>obtain⟨t,rfl⟩:=rx;exact SeqAt.EqAt.none_str b t
  |_=>exact absurd (show false=true from fx) Yp
 |bl a =>
  cases ry;cases x with
  |bD=>cases rx;exact aae a
  |bl b=>cases rx;exact aaf a b
  |int b=>obtain⟨t,rfl⟩:=rx;exact aan a b t
  |str b=>obtain⟨t,rfl⟩:=rx;exact SeqAt.EqAt.bool_str a b t
  |_=>exact absurd (show false=true from fx) Yp
 |int a =>
  obtain⟨t',rfl⟩:=ry;cases x with
  |bD=>cases rx;exact aao a t'
  |bl b=>cases rx;exact aap a t' b
  |int b=>obtain⟨t,rfl⟩:=rx;exact ZQ a t' b t
  |str b=>obtain⟨t,rfl⟩:=rx;exact SeqAt.EqAt.int_str a t' b t
  |_=>exact absurd (show false=true from fx) Yp
 |str a =>
  obtain⟨t',rfl⟩:=ry;cases x with
  |bD=>cases rx;exact SeqAt.EqAt.str_none a t'
  |bl b=>cases rx;exact SeqAt.EqAt.str_bool a t' b
  |int b=>obtain⟨t,rfl⟩:=rx;exact SeqAt.EqAt.str_int a t' b t
  |str b=>obtain⟨t,rfl⟩:=rx;exact SeqAt.EqAt.str_str a t' b t
  |_=>exact absurd (show false=true from fx) Yp
 |_=>exact absurd (show false=true from fy) Yp
def tx(x:V)(u:Value):Bool:=match u with
 |.none=>Dh .bD x
 |.bool b=>Dh (.bl b) x
 |.int i _=>Dh (.int i) x
 |.str z _=>Dh (.str z) x
 |_=>false
theorem Aw{x y:V}{u:Value}(r:RelV y u)(f:gg y=true):tx x u=Dh y x:=by
 cases y with
 |bD=>cases r;rfl
 |bl b=>cases r;rfl
 |int i=>obtain⟨t,rfl⟩:=r;rfl
 |str z=>obtain⟨t,rfl⟩:=r;rfl
 |_=>exact absurd (show false=true from f) Yp
theorem jg{x:V}:∀{xs:af} {us:ai},Vals xs us->xs.all gg=true->us.any (tx x)=xs.any λy=>Dh y x
 |_,_,.nil,_=>rfl
 |y::xs,u::us,.cons r t,f=>by
  rw[List.all_cons,Bool.and_eq_true]at f;rw[List.any_cons,List.any_cons,Aw r f.1,jg t f.2]
theorem fX{A:ay}{s:Shared}{x:V}{v:Value}(rx:RelV x v)(fx:gg x=true):∀{xs:af} {us:ai},Vals xs us->xs.all gg=true->∀u∈us,SeqAt.EqAt A s u v (tx x u)
 |_,_,.nil,_=>λu hu=>by cases hu
 |y::xs,u::us,.cons r t,f=>λu' hu=>by
  rw[List.all_cons,Bool.and_eq_true]at f;rcases List.mem_cons.mp hu with rfl|hu
  ·rw[Aw r f.1];exact IS r rx f.1 fx
  ·exact fX rx fx t f.2 u' hu
def OB(x:V)(xs:af):Bool:=xs.any λy=>Dh y x
def N_(K:ao)(neg:Bool):R2:=λx y H Q=>∃p xs,y=.ref p/\(cH K H p xs\/aN K H p xs)/\gg x=true/\xs.all gg=true/\Q (.bl (if neg then !OB x xs else OB x xs)) H
theorem wF:iI X (compareOp .In) (N_ X.K false):=by
 intro pins s σ H x y v u Q I rx ry h;obtain⟨p,xs,rfl,hq,fx,fs,q⟩:=h;cases ry;rcases hq with hq|hq
 ·obtain⟨aC,r,pl,hz⟩:=I.list hq;refine SeqAt.in_listAt (tx x) pl.isList (λw hw=>fX rx fx r fs w (by simpa using hw)) ⟨.bl _,H,I,rfl,?_⟩;rw[show aC.toArray.any (tx x)=aC.any (tx x) by simp,jg r fs];exact q
 ·obtain⟨aC,r,pl,hz⟩:=I.tuple hq;refine SeqAt.in_tupleAt (tx x) pl (λw hw=>fX rx fx r fs w (by simpa using hw)) ⟨.bl _,H,I,rfl,?_⟩;rw[show aC.toArray.any (tx x)=aC.any (tx x) by simp,jg r fs];exact q
theorem oE:iI X (compareOp .NotIn) (N_ X.K true):=by
 intro pins s σ H x y v u Q I rx ry h;obtain⟨p,xs,rfl,hq,fx,fs,q⟩:=h;cases ry;rcases hq with hq|hq
 ·obtain⟨aC,r,pl,hz⟩:=I.list hq;refine SeqAt.notIn_listAt (tx x) pl.isList (λw hw=>fX rx fx r fs w (by simpa using hw)) ⟨.bl _,H,I,rfl,?_⟩;rw[show aC.toArray.any (tx x)=aC.any (tx x) by simp,jg r fs];exact q
 ·obtain⟨aC,r,pl,hz⟩:=I.tuple hq;refine SeqAt.notIn_tupleAt (tx x) pl (λw hw=>fX rx fx r fs w (by simpa using hw)) ⟨.bl _,H,I,rfl,?_⟩;rw[show aC.toArray.any (tx x)=aC.any (tx x) by simp,jg r fs];exact q
theorem pE:eE X (.builtin "len") (λxs H Q=>∃p ys,xs=[.ref p]/\(cH X.K H p ys\/aN X.K H p ys)/\Q (.int ys.length) H):=by
 intro pins s σ H xs us Q I r h;obtain⟨p,ys,rfl,hq,q⟩:=h;obtain⟨u,rfl,rx⟩:=vals1 r;cases rx;have hn:=oR;rcases hq with hq|hq
 ·obtain⟨aC,r',pl,hz⟩:=I.list hq;have hlen:=r'.length;exact Calls.call_len_list pl.isList (by simp only[List.size_toArray]<;>omega) ⟨.int ys.length,H,I.tok _,⟨s.toks+1,by rw[List.size_toArray,hlen]⟩,q⟩
 ·obtain⟨aC,r',pl,hz⟩:=I.tuple hq;have hlen:=r'.length;exact len_tuple pl (by simp only[List.size_toArray]<;>omega) ⟨.int ys.length,H,I.tok _,⟨s.toks+1,by rw[List.size_toArray,hlen]⟩,q⟩
theorem pC:eE X (.type "list") (λxs H Q=>∃p ys,xs=[.ref p]/\(cH X.K H p ys\/aN X.K H p ys)/\∀l,H l=none->Q (.ref l) (upd H l (.lst ys))):=by
 intro pins s σ H xs us Q I r h;obtain⟨p,ys,rfl,hq,q⟩:=h;obtain⟨u,rfl,rx⟩:=vals1 r;cases rx;have fin:∀(aC:ai),Vals ys aC->ys.length<=sizeLine->∀(h':Heap) (c':Nat),(∀b o',s.heap.get? b=some o'->h'.get? b=some o') ->
   h'.get? s.heap.objs.size=some { cls:=.type "list",dict:=none,data:=.seq aC.toArray c',slots:=#[] }->EP X pins σ Q (.ref s.heap.objs.size) { s with heap:=h' }:=λaC r' hz h' c' kp e =>
  ⟨.ref s.heap.objs.size,_,I.laid (t':=s.toks) kp (Ys _) (show cv X.prog X.w _ h' _ (.lst ys) from⟨hz,aC,c',r',e⟩),rfl,q _ (I.cD.fresh (Ys _))⟩
 rcases hq with hq|hq
 ·obtain⟨aC,r',pl,hz⟩:=I.list hq;have hlen:=r'.length;obtain⟨o,ho,hc,n,hd⟩:=pl.isList;exact call_list_seq p (.inl rfl) ho hc hd (λh' c' kp e=>fin aC r' hz h' c' kp e) (by simp only[List.size_toArray]<;>omega)
 ·obtain⟨aC,r',pl,hz⟩:=I.tuple hq;have hlen:=r'.length;obtain⟨o,ho,hc,n,hd⟩:=pl;exact call_list_seq p (.inr rfl) ho hc hd (λh' c' kp e=>fin aC r' hz h' c' kp e) (by simp only[List.size_toArray]<;>omega)
theorem mL:eE X (.type "tuple") (λxs H Q=>∃p ys,xs=[.ref p]/\((cH X.K H p ys/\∀l,H l=none->Q (.ref l) (upd H l (.tup ys)))\/(aN X.K H p ys/\Q (.ref p) H))):=by
 intro pins s σ H xs us Q I r h;obtain⟨p,ys,rfl,h⟩:=h;obtain⟨u,rfl,rx⟩:=vals1 r;cases rx;rcases h with ⟨hq,q⟩|⟨hq,q⟩
 ·obtain⟨aC,r',pl,hz⟩:=I.list hq;have hlen:=r'.length;refine call_tuple_list pl.isList (λh' kp=>?_) (by simp only[List.size_toArray]<;>omega);have I1:Inv X pins σ H { s with heap:=h' }:=I.kept (t':=s.toks) kp;have I2:Inv X pins σ (upd H h'.objs.size (.tup ys)) { s with heap:=h'.push { cls:=.type "tuple",data:=.seq aC.toArray } } :=
   I1.laid (t':=s.toks) (λb o e=>Ym _ e) (Ys _) (show cv X.prog X.w _ _ _ (.tup ys) from⟨hz,aC,r',IsTup.new _ _⟩)
  exact⟨.ref h'.objs.size,_,I2,rfl,q _ (I1.cD.fresh (Ys _))⟩
 ·obtain⟨aC,r',pl,hz⟩:=I.tuple hq;exact call_tuple_same pl ⟨.ref p,H,I,rfl,q⟩
def Pp(K:ao)(T:String)(x:V)(H:Hp):Prop:=match x with
 |.str _=>T = "str"
 |.int _=>T = "int"
 |.ref p=>(T = "list" /\ ∃xs,cH K H p xs)\/(T = "tuple" /\ ∃o,K.lookup p=some o/\o.cls=.type "tuple" /\ o.dict=none) \/
   (T = "dict" /\ ((∃lx,H p=some (.dK lx))\/∃lx,H p=some (.dT lx)))\/(T = "set" /\ ∃S n,H p=some (.set S n))
 |_=>False
theorem yf{pins:ak}{s:Shared}{T:String}{x:V}{v:Value}(I:Inv X pins σ H s)(r:RelV x v)(ty:Pp X.K T x H):
  s.TypeIs v T/\∀a,v=.ref a->∃ob,s.heap.get? a=some ob/\ob.dict=none:=by
 cases x with
 |str z =>
  obtain⟨t,rfl⟩:=r;cases (show T = "str" from ty);exact⟨typeIs_str s z t,λ_ e=>nomatch e⟩
 |int i =>
  obtain⟨t,rfl⟩:=r;cases (show T = "int" from ty);exact⟨typeIs_int s i t,λ_ e=>nomatch e⟩
 |ref p =>
  cases r;rcases ty with ⟨rfl,xs,hq⟩|⟨rfl,o,hk,hc,hd⟩|⟨rfl,hk⟩|⟨rfl,S,n,hk⟩
  ·obtain⟨aC,_,pl,_⟩:=I.list hq;refine⟨pl.isList.typeIs,λa e=>?_⟩;cases e;obtain⟨o,n,e,c,hd,_⟩:=pl;exact⟨o,e,hd⟩
  ·refine⟨⟨o,I.xF p o hk,hc⟩,λa e=>?_⟩;cases e;exact⟨o,I.xF _ o hk,hd⟩
  ·have z:∃o,s.heap.get? p=some o/\o.ExactDict:=by
    rcases hk with ⟨lx,hk⟩|⟨lx,hk⟩
    ·obtain⟨_,_,_,_,o,_,_,e,ex,_⟩:=I.cD p _ hk;exact⟨o,e,ex⟩
    ·obtain⟨_,_,_,_,o,_,_,e,ex,_⟩:=I.cD p _ hk;exact⟨o,e,ex⟩
   obtain⟨o,e,ex⟩:=z;refine⟨⟨o,e,ex.1⟩,λa e2=>?_⟩;cases e2;exact⟨o,e,ex.2.1⟩
  ·obtain⟨o,_,_,_,e,ex,_⟩:=I.cD p _ hk;refine⟨⟨o,e,ex.1⟩,λa e2=>?_⟩;cases e2;exact⟨o,e,ex.2.1⟩
 |_=>exact False.elim ty
def PJ(K:ao)(T:String)(r:V->af->Hp->VK->Prop)(to:TE):TE:=λσ H Q=>to σ H λx H1=>Pp K T x H1/\r x [] H1 Q
def Vi(K:ao)(T:String)(r:V->af->Hp->VK->Prop)(to:TE)(t:TA):TE:=λσ H Q=>to σ H λx H1=>Pp K T x H1/\t σ H1 λxs H2=>r x xs H2 Q
variable {o e:Expr}{es:au}{to:TE}{t:TA}{name:Str}{apos o8:Pos}{T id:String}{r:V->af->Hp->VK->Prop}
theorem GL(pa:PlainAttrs T)(slot:Slot T name id)(Q7:typeOf (.builtin id)=pure (.type "method_descriptor"))(hm:SM X id r)(ho:PE X o to)
  (Ad:attributeBase o name X.env (eval o X.env)=eval o X.env:=by rfl) (hline:(apos.endLine==o8.line)=true:=by rfl):PE X (.Call (.Attribute o name apos) [] [] o8) (PJ X.K T r to):=by
 intro pins s σ H Q I h;refine wpAny_Call_method0_late Ad hline (cA (ho pins s σ H _ I h) λv s1 bz=>?_);obtain⟨x,H1,I1,r1,ty,q1⟩:=bz;obtain⟨h1,h2⟩:=yf I1 r1 ty;exact⟨T,id,pa,slot,Q7,h1,h2,Z0 rfl (PySem.evalArgs_none (hm pins s1 σ H1 x [] v [] Q I1 r1 .nil q1))⟩
theorem Lj(pa:PlainAttrs T)(slot:Slot T name id)(Q7:typeOf (.builtin id)=pure (.type "method_descriptor"))(hm:SM X id r)(ho:PE X o to)(ha:PA X (e::es) t)
  (Ad:attributeBase o name X.env (eval o X.env)=eval o X.env:=by rfl)
  (hfew:((backTo o8 (starEach (e::es) X.env)).all (λx=>!x.1)&&(backToKw o8 (keywordEach [] X.env)).all (λx=>x.1.isSome)
   && decide ((e::es).length+([]:List Keyword).length+(if ([]:List Keyword).isEmpty then 0 else 1)<30))=true:=by rfl)
  (hline:(apos.endLine==o8.line)=true:=by rfl) (hs:starEach (e::es) X.env=(false,eval e X.env)::starEach es X.env:=by rfl) (HD:(backTo o8 (starEach es X.env)).any (·.1)=false:=by rfl) :
  PE X (.Call (.Attribute o name apos) (e::es) [] o8) (Vi X.K T r to t):=by
 intro pins s σ H Q I h;refine wpAny_Call_method_late Ad hfew hline rfl (cA (ho pins s σ H _ I h) λv s1 bz=>?_);obtain⟨x,H1,I1,r1,ty,q1⟩:=bz;obtain⟨h1,h2⟩:=yf I1 r1 ty;refine⟨T,id,pa,slot,Q7,h1,h2,?_⟩;have hA:=ha o8 pins s1 σ H1 _ I1 q1;rw[hs]at hA ⊢;refine Z0 (by show(false||(backTo o8 (starEach es X.env)).any (·.1))=false;rw[HD]<;>rfl) (Calls.evalArgs_plain ?_);exact cA hA λus s2 ⟨vs,H2,I2,r2,q2⟩=>hm pins s2 σ H2 x vs v us Q I2 r1 r2 q2
/- xs.append(e),list.index on a module's tuple .. are SM facts of 06m -/
end
end L2
namespace L2
open PySem PySem.Spec PyProof.Rows
def Ph(X:Cx)(id:String)(r:V->af->Hp->VK->Prop):Prop :=
 ∀(pins:ak) (s:Shared) (σ:St) (H:Hp) (x:V) (xs:af) (v:Value) (us:ai) (Q:VK),Inv X pins σ H s->RelV x v->Vals xs us->r x xs H Q ->
  wpAny (model X.prog X.w) X.A (call (.builtin id) (v::us)) (EP X pins σ Q) X.xe s
theorem Vals.one:∀{x:V} {us:ai},Vals [x] us->∃u,us=[u]/\RelV x u
 |_,_,.cons r .nil=>⟨_,rfl,r⟩
theorem Vals.zero:∀{us:ai},Vals [] us->us=[]
 |_,.nil=>rfl
theorem Vals.dropLast{xs:af}{us:ai}(h:Vals xs us):Vals xs.dropLast us.dropLast:=by
 induction h with
 |nil=>exact .nil
 |cons r t ih =>
  cases t with
  |nil=>exact .nil
  |cons q t'=>exact .cons r ih
theorem Vals.eraseIdx:∀{xs:af} {us:ai} (i:Nat),Vals xs us->Vals (xs.eraseIdx i) (us.eraseIdx i)
 |_,_,_,.nil=>.nil
 |_,_,0,.cons _ t=>t
 |_,_,i+1,.cons r t=>.cons r (Vals.eraseIdx i t)
theorem Vals.rep{xs:af}{us:ai}(h:Vals xs us):∀k:Nat,Vals (List.replicate k xs).flatten (List.replicate k us).flatten
 |0=>.nil
 |k+1=>by
  rw[List.replicate_succ,List.replicate_succ,List.flatten_cons,List.flatten_cons];exact Vals.append h (Vals.rep h k)
theorem tm{α:Type}(l:List α):l.eraseIdx (l.length - 1)=l.dropLast:=by
 induction l with
 |nil=>rfl
 |cons a r ih =>
  cases r with
  |nil=>rfl
  |cons b r =>
   have e:(a::b::r).length - 1=((b::r).length - 1)+1:=by
    have h1:(a::b::r).length=r.length+2:=rfl;have h2:(b::r).length=r.length+1:=rfl;left
   rw[e,List.eraseIdx_cons_succ,ih]
   all_goals rfl
theorem ni{α:Type}:∀(l:List α) (i:Nat),(l.eraseIdx i).length<=l.length
 |[],_=>Ys _
 |_::_,0=>Y8 _
 |_::r,i+1=>Nat.succ_le_succ (ni r i)
theorem foldl_rep(aC:ai):∀(k:Nat) (acc:ai),
  List.foldl (λx1 x2=>x1++x2) acc.toArray (List.replicate k aC.toArray)=(acc++(List.replicate k aC).flatten).toArray
 |0,acc=>by simp
 |k+1,acc=>by
  have e:acc.toArray++aC.toArray=(acc++aC).toArray:=by simp
  have e2:(acc++aC)++(List.replicate k aC).flatten=acc++(List.replicate (k+1) aC).flatten:=by
   rw[List.replicate_succ,List.flatten_cons,List.append_assoc]
  rw[<- e2,<- foldl_rep aC k (acc++aC),<- e,List.replicate_succ,List.foldl_cons]
variable {aC:ai}{t':Nat}
section
variable {X:Cx}{pins:ak}{σ:St}{H:Hp}{s:Shared}{l b:Addr}{xs ys zs:af}
theorem Inv.CL{its':ai}{n:Nat}{f:aQ->aQ}(I:Inv X pins σ H s)(hH:H l=some (.lst xs))
  (e:s.heap.get? l=some { cls:=.type "list",data:=.seq aC.toArray n }) (hf:f aC.toArray=its'.toArray) (hv:Vals ys its') (hz:ys.length<=sizeLine) :
  Inv X pins σ (upd H l (.lst ys)) { s with heap:=s.heap.update l (Obj.mapSeq f),toks:=t' }:=by
 have q:=PySem.IsL.update e f;rw[hf]at q;refine I.write (x:=l) (e:=l) (by rw[hH];exact trivial) (.inl rfl) (λb' u hb hu=>(Ze s.heap (Obj.mapSeq f) (aat hb)).trans hu) ⟨_,q⟩ ?_;exact⟨hz,its',_,hv,q⟩
theorem Inv.He(I:Inv X pins σ H s)(hv:Vals ys aC)(hz:ys.length<=sizeLine):
  Inv X pins σ (upd H s.heap.objs.size (.lst ys)) { s with heap:=s.heap.push { cls:=.type "list",data:=.seq aC.toArray },toks:=t' } :=
 I.laid (λ_ _ q=>Ym _ q) (Ys _) ⟨hz,aC,0,hv,Yt _ rfl⟩
theorem Inv.fresh(I:Inv X pins σ H s):H s.heap.objs.size=none:=I.cD.fresh (Ys _)
theorem Inv.sL(I:Inv X pins σ H s)(hH:H l=some (.lst xs)):xs.length<=sizeLine/\∃(aC:ai) (n:Nat),Vals xs aC/\xs.length=aC.length/\s.heap.get? l=some { cls:=.type "list",data:=.seq aC.toArray n }:=by
 obtain⟨z,aC,n,r,e⟩:=I.cD l _ hH;exact⟨z,aC,n,r,r.length,e⟩
theorem za{n:Nat}(h:n<=sizeLine):Builtin.List.listTooLong n=false:=by
 unfold Builtin.List.listTooLong;exact Zg (by left)
end
section
variable {X:Cx}
def Ca:V->af->Hp->VK->Prop:=λx vs H Q=>∃l xs y,x=.ref l/\vs=[y]/\H l=some (.lst xs)/\xs.length<sizeLine/\Q .bD (upd H l (.lst (xs++[y])))
theorem wG:Ph X "list.append" Ca:=by
 intro pins s σ H x vs v us Q I rx rv h;obtain⟨l,xs,y,rfl,rfl,hH,hz,q⟩:=h;cases rx;obtain⟨u,rfl,ru⟩:=rv.one;obtain⟨z,aC,n,r,hl,e⟩:=I.sL hH;refine ZG F.slot_list_append ⟨_,e,rfl⟩ F.entry_list_append (F.args_list_append_2 _ _) (PySem.list_append l aC.toArray n u (by rw[List.size_toArray];left)) ⟨e,?_⟩;refine⟨.bD,_,I.CL (its':=aC++[u]) hH e (by simp) (r.append (.cons ru .nil)) ?_,rfl,q⟩;rw[List.length_append,List.length_singleton];left
def Qf:V->af->Hp->VK->Prop:=λx vs H Q=>∃l xs y,x=.ref l/\vs=[]/\H l=some (.lst xs)/\xs[xs.length - 1]?=some y/\Q y (upd H l (.lst xs.dropLast))
theorem QE:Ph X "list.pop" Qf:=by
 intro pins s σ H x vs v us Q I rx rv h;obtain⟨l,xs,y,rfl,rfl,hH,hy,q⟩:=h;cases rx;have Q6:=rv.zero;subst Q6;obtain⟨z,aC,n,r,hl,e⟩:=I.sL hH;obtain⟨u,hu,ru⟩:=r.get hy;have V2:aC.toArray[aC.toArray.size - 1]?=some u:=by
  show aC.toArray[aC.length - 1]?=some u;rw[<- Array.getElem?_toList,<- hl];exact hu
 refine ZG F.slot_list_pop ⟨_,e,rfl⟩ F.entry_list_pop (F.args_list_pop_1 _) (MeetsSeq.list_pop_last l aC.toArray n u V2 (by rw[List.size_toArray];left)) ⟨e,?_⟩;refine⟨y,_,I.CL (its':=aC.dropLast) hH e ?_ r.dropLast ?_,ru,q⟩
 ·show aC.toArray.eraseIdxIfInBounds (aC.toArray.size - 1)=aC.dropLast.toArray;rw[List.size_toArray,List.eraseIdxIfInBounds_toArray,tm]
 ·rw[List.length_dropLast];left
def Gg:V->af->Hp->VK->Prop:=λx vs H Q=>∃l xs i k y,x=.ref l/\vs=[.int i]/\H l=some (.lst xs) /\ -(2 ^ 63)<=i/\i<2 ^ 63/\seqIndex? i xs.length=some k/\xs[k]?=some y/\Q y (upd H l (.lst (xs.eraseIdx k)))
theorem LH:Ph X "list.pop" Gg:=by
 intro pins s σ H x vs v us Q I rx rv h;obtain⟨l,xs,i,k,y,rfl,rfl,hH,h1,h2,hk,hy,q⟩:=h;cases rx;obtain⟨u,rfl,ru⟩:=rv.one;obtain⟨t,rfl⟩:=ru;obtain⟨z,aC,n,r,hl,e⟩:=I.sL hH;obtain⟨w,hw,iT⟩:=r.get hy;refine ZG F.slot_list_pop ⟨_,e,rfl⟩ F.entry_list_pop (F.args_list_pop_2 _ _)
  (MeetsSeq.list_pop_at l aC.toArray n i t k w (fitsIndex_both h1 h2) (by rw[List.size_toArray,<- hl];exact hk) (by rw[<- Array.getElem?_toList];exact hw) (by rw[List.size_toArray];left)) ⟨e,?_⟩
 refine⟨y,_,I.CL (its':=aC.eraseIdx k) hH e ?_ (r.eraseIdx k) ?_,iT,q⟩
 ·show aC.toArray.eraseIdxIfInBounds k=(aC.eraseIdx k).toArray;rw[List.eraseIdxIfInBounds_toArray]
 ·have:=ni xs k;left
def Gi:V->af->Hp->VK->Prop:=λx vs H Q=>∃l xs,x=.ref l/\vs=[]/\H l=some (.lst xs)/\Q .bD (upd H l (.lst []))
theorem zo:Ph X "list.clear" Gi:=by
 intro pins s σ H x vs v us Q I rx rv h;obtain⟨l,xs,rfl,rfl,hH,q⟩:=h;cases rx;have Q6:=rv.zero;subst Q6;obtain⟨z,aC,n,r,hl,e⟩:=I.sL hH;refine ZG F.slot_list_clear ⟨_,e,rfl⟩ F.entry_list_clear (F.args_list_clear_1 _) (AutoSeq1.list_clear_list_0 l aC.toArray n (by rw[List.size_toArray];left)) ⟨e,?_⟩;exact⟨.bD,_,I.CL (its':=[]) (ys:=[]) hH e rfl .nil (YQ _),rfl,q⟩
def Qj:R2:=λx y H Q=>∃l b xs zs,x=.ref l/\y=.ref b/\H l=some (.lst xs)/\H b=some (.lst zs)/\xs.length+zs.length<=sizeLine/\∀p,H p=none->Q (.ref p) (upd H p (.lst (xs++zs)))
theorem GW:iI X (binaryOp .Add) Qj:=by
 intro pins s σ H x y v u Q I rx ry h;obtain⟨l,b,xs,zs,rfl,rfl,hH,hB,hz,q⟩:=h;cases rx;cases ry;obtain⟨z,aC,n,r,hl,e⟩:=I.sL hH;obtain⟨z2,zJ,n2,r2,Ue,e2⟩:=I.sL hB;refine PySem.P.add_list e e2 ?_ (by rw[List.size_toArray,List.size_toArray];left);have ea:aC.toArray++zJ.toArray=(aC++zJ).toArray:=by simp
 rw[ea];exact⟨.ref _,_,I.He (t':=s.toks) (r.append r2) (by rw[List.length_append];left),rfl,q _ I.fresh⟩
def Qe:R2:=λx y H Q=>∃l k xs,x=.ref l/\y=.int k/\H l=some (.lst xs) /\ -(2 ^ 63)<=k/\k<2 ^ 63/\xs.length*k.toNat<=sizeLine /\
 ∀p,H p=none->Q (.ref p) (upd H p (.lst (List.replicate k.toNat xs).flatten))
theorem len_rep{α:Type}(xs:List α)(k:Nat):(List.replicate k xs).flatten.length=k*xs.length:=by
 induction k with
 |zero=>simp
 |succ k ih=>rw[List.replicate_succ,List.flatten_cons,List.length_append,ih,Nat.succ_mul,Nat.add_comm]
theorem Qt:iI X (binaryOp .Mult) Qe:=by
 intro pins s σ H x y v u Q I rx ry h;obtain⟨l,k,xs,rfl,rfl,hH,h1,h2,hz,q⟩:=h;cases rx;obtain⟨t,rfl⟩:=ry;obtain⟨z,aC,n,r,hl,e⟩:=I.sL hH;have hlen:aC.toArray.size*k.toNat<=sizeLine:=by rw[List.size_toArray,<- hl];exact hz
 have oX:¬ aC.toArray.size*k.toNat>(2 ^ 63 - 1) / 8:=by
  have:(sizeLine:Nat)<=(2 ^ 63 - 1) / 8:=by decide
  left
 have Rz:¬ (!Builtin.List.listFitsIndex k)=true:=by
  rw[fitsIndex_both h1 h2];exact Yp
 have MB:¬ Builtin.List.listTooLong (aC.toArray.size*k.toNat)=true:=by
  rw[za hlen];exact Yp
 have Rp:List.foldl (λx1 x2=>x1++x2) #[] (List.replicate (if aC.toArray.isEmpty=true then 0 else k.toNat) aC.toArray)=(List.replicate k.toNat aC).flatten.toArray:=by
  have f0:∀m:Nat,List.foldl (λx1 x2=>x1++x2) #[] (List.replicate m aC.toArray)=(List.replicate m aC).flatten.toArray:=λm=>by
   have:=foldl_rep aC m [];rw[List.nil_append]at this;exact this
  rw[f0];cases aC with
  |nil=>simp
  |cons a r'=>rw[if_neg (by simp)]
 refine wpAny_binaryOp_repeat_ref (T:="list") (U:="int") (by decide) ⟨_,e,rfl⟩ (λs'=>typeIs_int s' k t) noFill_list_mul F.fills_int_mul F.slot_int_rmul repeat_list F.slot_int_index.lookup
  (ZG F.slot_int_rmul (typeIs_int s k t) F.entry_int_rmul (F.args_int_rmul_2 _ _) (int___rmul___int_list k t l aC.toArray n)
   ⟨e,rfl,⟨_,e,rfl⟩,ZG F.slot_list_mul ⟨_,e,rfl⟩ F.entry_list_mul (F.args_list_mul_2 _ _) (AutoListH.list___mul___list_int_3 l aC.toArray n k t Rz oX MB) ⟨e,?_⟩⟩)
 rw[Rp];exact⟨.ref _,_,I.He (t':=s.toks) (r.rep k.toNat) (by rw[len_rep,Nat.mul_comm];exact hz),rfl,q _ I.fresh⟩
end
section
variable {prog:ax}{w:World}{A:ay}{E:av}{s:Shared}
set_option maxRecDepth 100000 in
end
section
variable {X:Cx}
end
end L2
namespace Att
open PySem PySem.W PySem.Calls PyProof.Rows
theorem jW{P:Params}{h:Heap}:∀(ns:aa) (vs:ai),WellAll P h vs (ns.map WData.int)->IntsAre vs ns:=by
 intro ns;induction ns with
 |nil =>
  intro vs w;rw[List.map_nil]at w;cases w;exact .nil
 |cons n ns ih =>
  intro vs w;rw[List.map_cons]at w;cases w with
  |cons a b =>
   cases a;exact .cons _ _ (ih _ b)
theorem wz{l:OpenLaw}{n:Nat}(hn:l.most=some n){P:Params}{h:Heap}{args:List WData}{vals:ai}
  (CZ:l.row.toRowW.claim.pre args=true) (Q4:WellAll P h vals args) :
  ∃a vs ns,vals=[Value.ref a]/\args=[WData.list (ns.map WData.int)]/\h.get? a=some { cls:=.type "list",data:=.seq vs.toArray }/\IntsAre vs ns/\ns.length<=n:=by
 have Mn:WShape.hasAll [] args [.list .int]=true:=(pre_splitW CZ).1;have hc:l.pre.holds [] { args:=args }=true:=(pre_splitW CZ).2;obtain⟨d,r,rfl,h1,h2⟩:=hasAllW_cons Mn;obtain rfl:=hasAllW_nil h2;obtain⟨xs,rfl,h3⟩:=hasW_list h1;obtain⟨ns,rfl⟩:=items_int h3;have hlen:ns.length<=n:=by
  unfold OpenLaw.pre at hc;have h4:(WTm.not (.lt (.lit (.int (n:Int))) (.len (.arg 0)))).holds [] { args:=[.list (ns.map .int)] }=true:=by
   have h4:=(holds_andW hc).1;rw[hn]at h4;exact h4
  have h5:=condW_of h4 (w_not (w_lt w_lit (w_len_list (w_arg rfl))));rw[List.length_map]at h5;refine Nat.le_of_not_lt λq=>?_;have q':(n:Int)<((ns.length:Nat):Int):=by left
  first
   | (rw[decide_eq_true q']at h5;exact absurd h5 (by decide))
   | (simp at h5;left)
 cases Q4 with
 |cons w1 w2 =>
  cases w2;cases w1 with
  |list ho dj=>exact⟨_,_,ns,rfl,rfl,ho,jW ns _ dj,hlen⟩
theorem wB(l:OpenLaw)(args:List WData):l.row.toRowW.claim.post args (.bool true) args=true :=
 postW_of (r:=l.row.toRowW) (X:=(true==true))
  (show WShape.has [] (.bool true) .bool=true by first|rfl|decide|simp[WShape.has,WShape.arms,WShape.armsAll])
  (show(WTm.eq .res (.lit (.bool true))).value [] { args:=args,res:=some (.bool true),after:=args }=some (.bool (true==true)) from w_eq_bool (w_res rfl) w_lit) rfl
theorem rM{l:OpenLaw}{n:Nat}{q:ax}{loose:aw}{XP:(aO)->Heap->Prop}{YP:World->Heap->Prop}{d:DefRec}
  (hn:l.most=some n) (MM:d.params.defaults=[])
  (call:∀(w:World) (s₀ s₁:Shared) (mg mb:aO) (fa:Addr) (o:Obj) (pm cd doc:Value) (a:Addr) (vs:ai) (ns:aa),
   Ground q loose [] XP w s₀ mg mb s₁.heap->YP w s₁.heap ->
   s₁.heap.get? fa=some o->o.data=.func (docDef d.name d.params d.body d.scope pm cd doc)->s₁.heap.CodeRec cd d.name->mg d.name=some (.ref fa) ->
   s₁.heap.get? a=some { cls:=.type "list",data:=.seq vs.toArray }->IntsAre vs ns->ns.length<=n->s₁.gens = #[] ->
   codeAny (model l.prog w) callerA (.call (.ref fa) ⟨[.ref a],[]⟩) (λr s'=>r=.ok (.ret (.bool true))/\OldK s₁.heap s'.heap/\s'.os=s₁.os/\AllBare s'.gens) s₁) :
  WalkO q loose XP YP l.row.toRowW d [] (λf vs=>PySem.call f vs):=by
 intro w s₀ s₁ mg mb G Y fa o pm cd doc dV kV ho hd Ab hD hmg hg args vals as CZ Wj X_ Q4 Yc;obtain rfl:dV=.none:=Dflts.none hD MM;obtain rfl:kV=.none:=Dflts.noKw hD;obtain⟨a,vs,ns,rfl,rfl,HE,hints,hlen⟩:=wz hn CZ Q4;refine enter_call (ZA (call w s₀ s₁ mg mb fa o pm cd doc a vs ns G Y ho (fd_plain hd) Ab hmg HE hints hlen hg) λr s' hq=>?_);obtain⟨rfl,h2,h3,h4⟩:=hq;exact⟨.inl ⟨.bool true,.bool true,[],rfl,λ_=>rfl,.bool true,wB l _,λ_=>⟨List.Pairwise.nil,λ_ hm=>(nomatch hm)⟩⟩,h2,h3,h4⟩
section
variable {prog:ax}{w:World}{A:ay}{E:av}{s:Shared}{K:Frag}
noncomputable def ledger(h:Heap)(L d:Addr):ak:=(List.range h.objs.size).filterMap λa=>if a=L\/a=d then none else(h.get? a).map λo=>(a,o)
end
end Att
namespace L2
open PySem PySem.Spec PyProof.Rows
theorem gx:∀{vs:ai} {ns:aa},IntsAre vs ns->Vals (ns.map V.int) vs
 |_,_,.nil=>.nil
 |_,_,.cons n t h=>.cons ⟨t,rfl⟩ (gx h)
def DZ(H:Hp):Prop:=∀b,H b=none\/∃o xs,H b=some (.fM o (.lst xs))
theorem zD{P:ax}{w:World}{K:ao}{mg mb:aO}{CX:xP}{k:Nat}{fa a:Addr}{fd:FuncData}{x:Str}{sp:Sp}{s₁:Shared}{vs:ai}{ns:aa}
  (KX:K.In s₁.heap) (xI:s₁.heap.Ns mainGlobals mg) (hb:s₁.heap.Ns builtinsNs mb) (WE:∀x:Str,x ≠ "__name__" -> mb x=bootBuiltins x) (Ru:s₁.heap.NoLimit) (hg:s₁.gens = #[])
  (ha:s₁.heap.get? a=some { cls:=.type "list",data:=.seq vs.toArray }) (hi:IntsAre vs ns) (hl:ns.length<=sizeLine) (hr:e_ k callerA)
  (F:∀base:Heap,K.In base->base.Ns mainGlobals mg->gO P w K mg base CX k fa fd [x] sp) (MU:∀(s:Shared) (u:Value),BindsTo s fd ⟨[u],[]⟩ [(x,u)])
  (Bh:∀H:Hp,DZ H->cH K H a (ns.map V.int)->sp [.ref a] H (λv _=>v=.bl true) λ_ _ _=>False)
  (RK:∀H e s',CX [] H s₁ (λ_ _ _=>False) e s'->False) :
  codeAny (model P w) callerA (.call (.ref fa) ⟨[.ref a],[]⟩) (λr s'=>r=.ok (.ret (.bool true))/\OldK s₁.heap s'.heap/\s'.os=s₁.os/\AllBare s'.gens) s₁:=by
 have rv:=gx hi;have QH:=hi.length;have core:∀H:Hp,DZ H->cH K H a (ns.map V.int)->jD P w H s₁.heap->(∀b,H b≠none->b=a)->(H a≠none->K.lookup a=none) ->
   codeAny (model P w) callerA (.call (.ref fa) ⟨[.ref a],[]⟩) (λr s'=>r=.ok (.ret (.bool true))/\OldK s₁.heap s'.heap/\s'.os=s₁.os/\AllBare s'.gens) s₁:=by
  intro H hO hS cD hA hK;have vN:∀{b:Addr} {o:Obj},s₁.heap.get? b=some o->H b=none->(oW s₁.heap H).get? b=some o:=λe n=>z_ e n;have LD:∀{b:Addr} {o:Obj} {es:Array DictEntry} {ep:Nat},s₁.heap.get? b=some o->o.data=.dict es ep->H b=none:=λ{b o es ep} e d=>by
   cases q:H b with
   |none=>rfl
   |some u =>
    have e':b=a:=hA b (by rw[q];simp);subst e';rw[ha]at e;cases e;have d':Data.seq vs.toArray _=Data.dict es ep:=d;cases d'
  have Ot:∀{b:Addr} {m:aO},s₁.heap.Ns b m->(oW s₁.heap H).Ns b m:=λ{b m} ⟨o,es,ep,e,d,r⟩=>⟨o,es,ep,vN e (LD e d),d,r⟩
  have Ut:K.In (oW s₁.heap H):=λb o e=>vN (KX b o e) (by
   cases q:H b with
   |none=>rfl
   |some u =>
    have e':b=a:=hA b (by rw[q];simp);subst e';rw[hK (by rw[q];simp)]at e;cases e)
  have hM:Mod K mg (oW s₁.heap H):=⟨Ut,Ot xI,⟨mb,Ot hb,WE⟩,let ⟨mc,h1,h2⟩:=Ru;⟨mc,Ot h1,h2⟩⟩
  have e0:D2 P w K mg (oW s₁.heap H) callerA [] s₁ H:=⟨rfl,hM,λb o e=>Cw e,Nat.le_of_eq (wU _ _),trivial,λb hb=>absurd (show b∈([]:aM) from hb) (by simp),cD,.of_eq hg⟩
  refine ZA ((F _ Ut (Ot xI)).run callerA [] s₁ H ⟨[.ref a],[]⟩ [.ref a] [.ref a] _ _ hr e0 (MU s₁ (.ref a)) (.cons rfl .nil) (Bh H hO hS)) λr s' h=>?_;cases r with
  |error e=>exact(RK H e s' h).elim
  |ok fl =>
   cases fl with
   |next=>exact False.elim h
   |brk=>exact False.elim h
   |cont=>exact False.elim h
   |ret u =>
    obtain⟨v,H',os,bare,un,Rl,r',q⟩:=h;have q':v=.bl true:=q;subst q';obtain rfl:u=Value.bool true:=r';refine⟨rfl,OldK.of_keep λb o e=>?_,os,bare⟩;cases q:H b with
    |none=>exact un.keep b o e q (by intro z;exact absurd (show b∈([]:aM) from z) (by simp)) (by simp)
    |some u =>
     rcases hO b with z|⟨ob,xs,z⟩
     ·rw[q]at z;cases z
     ·have z2:=un.mH b ob _ z;obtain⟨e1,_⟩:=cD b _ z;obtain⟨e2,_⟩:=Rl b _ z2;rw[e]at e1;cases e1;exact e2
 cases hk:K.lookup a with
 |some o =>
  have e:=KX a o hk;rw[ha]at e;cases e;refine core (λ_=>none) (λ_=>.inl rfl) (.inr ⟨_,vs.toArray,_,hk,rfl,rfl,rfl,by rw[List.size_toArray,QH];exact hl,by simpa using rv⟩) (λb u z=>by have z':(none:Option HO)=some u:=z;cases z') (λb z=>absurd rfl z) λz=>absurd rfl z
 |none =>
  refine core (λb=>if b=a then some (.fM { cls:=.type "list",data:=.seq vs.toArray } (.lst (ns.map V.int)))else none) (λb=>?_) (.inl (.inr ⟨{ cls:=.type "list",data:=.seq vs.toArray },YV rfl⟩)) (λb u z=>?_) (λb z=>?_) λ_=>hk
  ·by_cases hb:b=a
   ·exact .inr ⟨_,_,YV hb⟩
   ·exact .inl (Z1 hb)
  ·by_cases hb:b=a
   ·have z':=(YV hb).symm.trans z;cases z';subst hb;exact⟨ha,by rw[List.length_map];exact hl,vs,_,rv,ha⟩
   ·have z':=(Z1 hb).symm.trans z;cases z'
  ·by_cases hb:b=a
   ·exact hb
   ·exact absurd (Z1 hb) z
end L2
namespace L2
open PySem PySem.Spec PyProof.Rows
theorem Bv{l:PySem.W.OpenLaw}{n k:Nat}{q:ax}{loose:aw}{XP:(aO)->Heap->Prop}{YP:World->Heap->Prop}{d:DefRec}{K:Params->ao}{CX:World->xP}{sp:World->Sp}{x:Str}
  (hn:l.most=some n) (JK:n<=sizeLine) (MM:d.params.defaults=[]) (hr:e_ k callerA)
  (hY:∀(w:World) (h:Heap),YP w h->(K w.params).In h)
  (F:∀(w:World) (mg:aO) (fa:Addr) (h:Heap),(K w.params).In h->h.Ns mainGlobals mg->mg d.name=some (.ref fa) ->
   ∃fd:FuncData,(∀(s:Shared) (u:Value),BindsTo s fd ⟨[u],[]⟩ [(x,u)]) /\
    ∀base:Heap,(K w.params).In base->base.Ns mainGlobals mg->gO l.prog w (K w.params) mg base (CX w) k fa fd [x] (sp w))
  (Bh:∀(w:World) (H:Hp) (a:Addr) (ns:aa),ns.length<=n->DZ H->cH (K w.params) H a (ns.map V.int)->sp w [.ref a] H (λv _=>v=.bl true) λ_ _ _=>False)
  (RK:∀(w:World) (H:Hp) (s:Shared) (e:Value) (s':Shared),CX w [] H s (λ_ _ _=>False) e s'->False) :
  PySem.W.WalkO q loose XP YP l.row.toRowW d [] (λf vs=>PySem.call f vs):=by
 refine Att.rM hn MM λw s₀ s₁ mg mb fa o pm cd doc a vs ns G Y ho hd Ab hmg HE hints hlen hg=>?_;have KX:=hY w _ Y;obtain⟨fd,hb,hF⟩:=F w mg fa _ KX G.T.g hmg;exact zD KX G.T.g G.T.b G.T.builtins G.T.nolimit hg HE hints (YL hlen JK) hr hF hb (λH hO hS=>Bh w H a ns hlen hO hS) λH e s'=>RK w H s₁ e s'
end L2
namespace L2
open PySem PySem.Spec PyProof.Rows
noncomputable def eB(s:Stmt):Arguments:=match s with
 |.FunctionDef _ a _ _ _ _ _ _ _ _=>a
 |_=>{ posonlyargs:=[],args:=[],vararg:=none,kwonlyargs:=[],kw_defaults:=[],kwarg:=none,defaults:=[] }
noncomputable def cN(s:Stmt):aJ:=match s with
 |.FunctionDef _ _ b _ _ _ _ _ _ _=>b
 |_=>[]
noncomputable def br(s:Stmt):Scope:=match s with
 |.FunctionDef _ _ _ _ _ _ sc _ _ _=>sc
 |_=>{ kind:=.function,names:=[],isGenerator:=false,isCoroutine:=false }
noncomputable abbrev xQ:xP:=λ_ _ _ _ _ _=>False
noncomputable abbrev E0:XK:=λ_ _ _=>False
theorem Lm{X:Cx}:Passes xQ X E0:=λ_ _ _ _ _ _ _ h=>h.elim
structure D1(K:ao)(x qual:Str)(st:Stmt)(f:Addr)(fd:FuncData):Prop where
 ex:∃(oc:Value) (od:Option Addr) (kV doc pm:Value) (an:Option Addr) (gW ct:Value) (xD:Array (Option Value)),
  fd=PySem.W.fnOf x qual (eB st) (cN st) (br st) .none kV doc pm an gW ct/\K.lookup f=some ⟨oc,od,.func fd,xD⟩/\PySem.W.codeIn K gW qual=true
 kp:PySem.W.keepIn K (.ref f)=true
variable {ps:aw}{qual:Str}{st:Stmt}
section
variable {P:ax}{w:World}{K:ao}{mg:aO}{base:Heap}
theorem D1.ok{x:Str}{f:Addr}{fd:FuncData}{N:aw}{k:Nat}{sp:Sp}(F:D1 K x qual st f fd)(S:gM N ps (br st))(len:∀vs H Q E,sp vs H Q E->vs.length=ps.length)
  (Ac:∀(gW:Value) (A:ay) (outer:List Env) (s:Shared) (H:Hp) (vs:af) (Q:VK) (E:XK),e_ k (A.deeper (envOfC qual (br st) s.heap.objs.size f gW))->sp vs H Q E ->
   ∃t,kN (tI xQ P w K mg base N qual (br st) f gW A outer s H E).LA (cN st) t/\t { nx:=λ_ H'=>Q .bD H',rt:=Q } (start N vs) H):gO P w K mg base xQ (k+1) f fd ps sp:=by
 obtain⟨oc,od,kV,doc,pm,an,gW,ct,xD,rfl,lk,Ab⟩:=F.ex;refine Nc lk Ab S len λA outer s H vs Q E hr Bh=>?_;obtain⟨t,h,q⟩:=Ac gW A outer s H vs Q E hr Bh;exact⟨t,h.LA,q⟩
theorem D1.binds{x:Str}{f:Addr}{fd:FuncData}(F:D1 K x qual st f fd)
  (h:∀(kV doc pm:Value) (an:Option Addr) (gW ct:Value) (us:ai),us.length=ps.length->bindArgs (PySem.W.fnOf x qual (eB st) (cN st) (br st) .none kV doc pm an gW ct) ⟨us,[]⟩=pure (ps.zip us)):Binds K fd ps []:=by
 obtain⟨oc,od,kV,doc,pm,an,gW,ct,xD,rfl,lk,Ab⟩:=F.ex;exact .all (h kV doc pm an gW ct)
theorem Ii{x:Str}{f:Addr}{oc:Value}{od an:Option Addr}{xD:Array (Option Value)}{kV doc pm gW ct:Value}(l:K.lookup f=some ⟨oc,od,.func (PySem.W.fnOf x qual (eB st) (cN st) (br st) .none kV doc pm an gW ct),xD⟩)
  (c:PySem.W.codeIn K gW qual=true) (k:PySem.W.keepIn K (.ref f)=true):D1 K x qual st f (PySem.W.fnOf x qual (eB st) (cN st) (br st) .none kV doc pm an gW ct):=⟨⟨oc,od,kV,doc,pm,an,gW,ct,xD,rfl,l,c⟩,k⟩
end
theorem zW{A:ay}{k:Nat}(hr:e_ k A):A.units+1<cLine:=YH (aaq (by decide:1<=64) _) hr.units
section
variable {X:Cx}
end
def aG(H H':Hp):Prop:=∀b o,H b=some o->H' b=some o
theorem aG.refl(H:Hp):aG H H:=λ_ _ h=>h
variable {H H':Hp}
theorem aG.trans{H1 H2:Hp}(a:aG H H1)(b:aG H1 H2):aG H H2:=λc o h=>b c o (a c o h)
theorem aG.free(e:aG H H'){l:Addr}(h:H' l=Option.none):H l=Option.none:=by
 cases q:H l with
 |none=>rfl
 |some o =>
  rw[e l o q]at h;cases h
theorem aG.seq{K:ao}{a:Addr}{xs:af}(e:aG H H')(h:cH K H a xs):cH K H' a xs:=by
 rcases h with (h|⟨o,h⟩)|h
 ·exact .inl (.inl (e _ _ h))
 ·exact .inl (.inr ⟨o,e _ _ h⟩)
 ·exact .inr h
end L2
set_option autoImplicit false
set_option linter.all false
set_option Elab.async false
set_option maxRecDepth 100000
set_option maxHeartbeats 4000000
section
namespace DI
open PySem (Str Expr Stmt Scope NameKind)
inductive Fl where|ow|fz|al|sc
 deriving DecidableEq
inductive D where
 |bD|bl (b:Bool)|int (i:Int)
 |tup (ds:List D)
 |lst (f:Fl) (ds:List D)
 |cy (f:Fl) (ks:aq) (vs:List D)
abbrev aI:=Option D
abbrev ae:=List D
mutual
noncomputable def aZ(g:Fl->Fl):D->D
 |.tup ds=>.tup (aD g ds)
 |.lst f ds=>.lst (g f) (aD g ds)
 |.cy f ks vs=>.cy (g f) ks (aD g vs)
 |.bD=>.bD
 |.bl b=>.bl b
 |.int i=>.int i
noncomputable def aD(g:Fl->Fl):ae->ae
 |[]=>[]
 |d::ds=>aZ g d::aD g ds
end
theorem bg(g:Fl->Fl):∀ds:ae,aD g ds=ds.map (aZ g)
 |[]=>rfl
 |d::ds=>by rw[aD,bg g ds];rfl
noncomputable def bH:Fl->Fl|.ow=>.al|f=>f
noncomputable def mG:Fl->Fl|.fz=>.al|f=>f
noncomputable def a_:Fl->Fl|.sc=>.sc|_=>.fz
noncomputable def mD:Fl->Bool|.sc=>true|_=>false
mutual
noncomputable def aP(p:Fl->Bool):D->Bool
 |.tup ds=>aK p ds
 |.lst f ds=>p f||aK p ds
 |.cy f ks vs=>p f||aK p vs
 |_=>false
noncomputable def aK(p:Fl->Bool):ae->Bool
 |[]=>false
 |d::ds=>aP p d||aK p ds
end
noncomputable def bR:Fl->Bool|.al=>true|_=>false
noncomputable def cw:Fl->Bool|.ow=>true|_=>false
noncomputable def anyF:Fl->Bool:=λ_=>true
mutual
noncomputable def jQ:D->D->Bool
 |.bD,.bD=>true
 |.bl a,.bl b=>a==b
 |.bl a,.int b=>(if a then 1 else 0)==b
 |.int a,.bl b=>a==(if b then 1 else 0)
 |.int a,.int b=>a==b
 |.tup a,.tup b=>dw a b
 |.lst _ a,.lst _ b=>dw a b
 |_,_=>false
noncomputable def dw:ae->ae->Bool
 |[],[]=>true
 |a::as,b::bs=>jQ a b&&dw as bs
 |_,_=>false
end
noncomputable def eG:Nat->D->Bool
 |_,.bD=>true
 |_,.bl _=>true
 |_,.int _=>true
 |n+1,.tup ds=>ds.all (eG n)
 |n+1,.lst _ ds=>ds.all (eG n)
 |_,_=>false
noncomputable abbrev O(α:Type):=Option (Except Nat α)
abbrev aE:=ae->O D
noncomputable def ok{α:Type}(a:α):O α:=some (.ok a)
noncomputable def bd{α β:Type}(x:O α)(f:α->O β):O β:=match x with
 |some (.ok a)=>f a
 |some (.error c)=>some (.error c)
 |none=>none
@[simp]theorem Ov{α:Type}{a:α}:((none:O α)=ok a)=False:=by simp[ok]
@[simp]theorem Qx{α:Type}{a b:α}:(ok a=ok b)=(a=b):=by simp[ok]
@[simp]theorem Sa{α:Type}{a:α}{c:Nat}:((some (.error c):O α)=ok a)=False:=by simp[ok]
@[simp]theorem EG{α:Type}{p:Prop}[Decidable p]{a b:α}:((if p then ok a else none)=ok b)=(p/\a=b):=by
 by_cases h:p<;>simp[h]
@[simp]theorem Q0{α:Type}{p:Prop}[Decidable p]{a b:α}:((if p then none else ok a)=ok b)=(¬ p/\a=b):=by
 by_cases h:p<;>simp[h]
theorem nk{α:Type}{a:α}{P:Prop}(h:(none:Option α)=some a):P:=nomatch h
theorem aB{α β:Type}{x:O α}{f:α->O β}{b:β}(h:bd x f=ok b):∃a,x=ok a/\f a=ok b:=by
 unfold bd at h
 match x,h with
 |some (.ok a),h=>exact⟨a,rfl,h⟩
 |some (.error c),h=>cases h
 |none,h=>cases h
inductive D3 where|add|sub|mul|fdiv|mod|pow
 deriving DecidableEq
inductive xR where|eq|ne|lt|le|gt|ge|Hv|y_|wQ|zh
 deriving DecidableEq
inductive Ty where|int|bool|list|tuple
 deriving DecidableEq
inductive Bf where|len|abs|min2|list1|tuple1|n9|all1|gE
 deriving DecidableEq
inductive Tg where|nm(i:Nat)|tp(is:aF)
 deriving DecidableEq
inductive IK where|jr|seq|cj(p:Nat)
 deriving DecidableEq
inductive GK where|i(z:Int)
 deriving DecidableEq
inductive CE where
 |bD|bl (b:Bool)|int (i:Int)|glo (x:Str) (i:Int)
 |v (i:Nat)
 |bin (op:D3) (a b:CE)
 |neg (a:CE)|not (a:CE)|and (es:List CE)|or (es:List CE)|ite (c a b:CE)
 |cmp (op:xR) (a b:CE)
 |vc (a:CE) (t:Ty)
 |call (f:Nat) (es:List CE)
 |bf (f:Bf) (es:List CE)
 |ix (a b:CE)
 |tup (es:List CE)|lst (es:List CE)
 |cj (p:Nat) (es:List CE)
 |comp (n:Nat) (t:Tg) (caps:aF) (ik:IK) (es bx:List CE) (elt:CE)
abbrev aA:=List CE
inductive CI where|jr(a:CE)|seq(a:CE)|GC(p:Nat)(es:aA)
inductive CS where
 |asg (t:Tg) (e:CE)|par (i j:Nat) (a b:CE)|ret (e:CE)|rs (c:Nat)|ex (e:CE)
 |mut (p i:Nat) (es:aA)|app (i:Nat) (e:CE)|setI (i:Nat) (k e:CE)|aug (i:Nat) (op:Bool) (e:CE)
 |ifs (c:CE) (a b:List CS)
 |Fv (c:CE) (b:List CS)
 |fr (t:Tg) (it:CI) (b:List CS)
abbrev aj:=List CS
noncomputable abbrev aV:=List (aI)
noncomputable abbrev aX:=Nat->aE
noncomputable def big:Nat:=2 ^ 9000
def fD(i j:Int):Bool:=decide (i.natAbs<2 ^ 64)||decide (j.natAbs<2 ^ 64)||(decide (i.natAbs<big)&&decide (j.natAbs<big))
def nH(j:Int):Bool:=decide (j≠0)&&decide (j.natAbs<big)
noncomputable def uC(i j:Int):Bool:=decide (0<=j)&&decide (j<=1000000)&&decide (i.natAbs<2 ^ 64)
noncomputable def eO:Nat:=1000000
theorem qU{α:Type}{c:Prop}[inst:Decidable c]{v d:α}(h:(if c then ok v else none)=ok d):c/\v=d:=by
 cases inst with
 |isTrue hc=>exact⟨hc,Except.ok.inj (YB h)⟩
 |isFalse hc=>cases h
def bV:D3->D->D->O D
 |.add,.int i,.int j=>ok (.int (i+j))
 |.add,.lst f a,.lst g b=>if mD f=false/\mD g=false/\a.length+b.length<=eO then ok (.lst .ow (aD bH (a++b)))else none
 |.add,.tup a,.tup b=>if a.length+b.length<=eO then ok (.tup (aD bH (a++b)))else none
 |.sub,.int i,.int j=>ok (.int (i - j))
 |.mul,.int i,.int j=>if fD i j then ok (.int (i*j))else none
 |.fdiv,.int i,.int j=>if nH j then ok (.int (i.fdiv j))else none
 |.mod,.int i,.int j=>if j≠0 then ok (.int (i.fmod j))else none
 |.pow,.int i,.int j=>if uC i j then ok (.int (i ^ j.toNat))else none
 |_,_,_=>none
def inD(x:D):ae->Bool
 |[]=>false
 |y::ys=>jQ y x||inD x ys
noncomputable def i8:D->Bool
 |.bD=>true|.bl _=>true|.int _=>true|_=>false
noncomputable def zM:D->Option (ae)
 |.tup ds=>some ds
 |.lst _ ds=>some ds
 |_=>none
def eZ:xR->D->D->O D
 |.eq,a,b=>if eG 40 a&&eG 40 b then ok (.bl (jQ a b))else none
 |.ne,a,b=>if eG 40 a&&eG 40 b then ok (.bl (!jQ a b))else none
 |.lt,.int i,.int j=>ok (.bl (decide (i<j)))
 |.le,.int i,.int j=>ok (.bl (decide (i<=j)))
 |.gt,.int i,.int j=>ok (.bl (decide (j<i)))
 |.ge,.int i,.int j=>ok (.bl (decide (j<=i)))
 |.Hv,a,.bD=>ok (.bl (match a with|.bD=>true|_=>false))
 |.y_,a,.bD=>ok (.bl (match a with|.bD=>false|_=>true))
 |.wQ,a,b=>match zM b with
  |some ds=>if i8 a&&ds.all i8 then ok (.bl (inD a ds))else none
  |none=>none
 |.zh,a,b=>match zM b with
  |some ds=>if i8 a&&ds.all i8 then ok (.bl (!inD a ds))else none
  |none=>none
 |_,_,_=>none
noncomputable def fi:Ty->D->Bool
 |.int,.int _=>true|.int,.bl _=>true
 |.bool,.bl _=>true
 |.list,.lst _ _=>true
 |.tuple,.tup _=>true
 |_,_=>false
noncomputable def nq(n:Nat)(i:Int):Option Nat:=if 0<=i then(if i<n then some i.toNat else none)else if -(n:Int)<=i then some (i+n).toNat else none
def kH(ds:ae)(i:Int):O D:=match(nq ds.length i).bind λj=>ds[j]? with
 |some d=>ok (aZ bH d)
 |none=>none
def Hn:D->D->O D
 |.tup ds,.int i=>kH ds i
 |.lst _ ds,.int i=>kH ds i
 |_,_=>none
noncomputable def intsOf:ae->Option (aa)
 |[]=>some []
 |.int i::ds=>(intsOf ds).map (i :: ·)
 |_::_=>none
noncomputable def gX:ae->Option (List Bool)
 |[]=>some []
 |.bl i::ds=>(gX ds).map (i :: ·)
 |_::_=>none
theorem eU:∀{ds:ae} {ns:aa},intsOf ds=some ns->ds=ns.map D.int
 |[],ns,h=>by simp[intsOf]at h;subst h;rfl
 |d::ds,ns,h=>by
  cases d<;>simp[intsOf]at h;obtain⟨ms,h1,rfl⟩:=h;rw[eU h1];rfl
theorem rK:∀{ds:ae} {bs:List Bool},gX ds=some bs->ds=bs.map D.bl
 |[],bs,h=>by simp[gX]at h;subst h;rfl
 |d::ds,bs,h=>by
  cases d<;>simp[gX]at h;obtain⟨ms,h1,rfl⟩:=h;rw[rK h1];rfl
theorem bF:∀ns:aa,intsOf (ns.map D.int)=some ns
 |[]=>rfl
 |n::ns=>by simp[intsOf,bF ns]
theorem nM:∀bs:List Bool,gX (bs.map D.bl)=some bs
 |[]=>rfl
 |b::bs=>by simp[gX,nM bs]
noncomputable def sortI(ns:aa):aa:=ns.mergeSort (λa b=>decide (a<=b))
def mW(ds:ae):O D:=match intsOf ds with
 |some ns=>if ns.length<64 then ok (.lst .ow ((sortI ns).map D.int))else none
 |none=>none
def vM:Bf->aE
 |.len,xs=>match xs with
  |[.tup ds]=>ok (.int ds.length)
  |[.lst _ ds]=>ok (.int ds.length)
  |_=>none
 |.abs,xs=>match xs with
  |[.int i]=>ok (.int (if i<0 then -i else i))
  |_=>none
 |.min2,xs=>match xs with
  |[.int i,.int j]=>ok (.int (if j<i then j else i))
  |_=>none
 |.list1,xs=>match xs with
  |[.lst _ ds]=>ok (.lst .ow (aD bH ds))
  |[.tup ds]=>ok (.lst .ow (aD bH ds))
  |_=>none
 |.tuple1,xs=>match xs with
  |[.lst _ ds]=>ok (.tup (aD bH ds))
  |_=>none
 |.n9,xs=>match xs with
  |[.lst _ ds]=>(match intsOf ds with
   |some ns=>ok (.int ns.sum)
   |none=>none)
  |_=>none
 |.all1,xs=>match xs with
  |[.lst _ ds]=>(match gX ds with
   |some bs=>ok (.bl (bs.all id))
   |none=>none)
  |_=>none
 |.gE,xs=>match xs with
  |[.lst _ ds]=>mW ds
  |[.tup ds]=>mW ds
  |_=>none
noncomputable def dG(ns:aa):aa:=ns.foldl (λ(m:aa) (k:Int)=>if m.any (· == k)then m else m++[k]) []
def LV:D->O D
 |.tup ds=>(match intsOf ds with
  |some ns=>if ns.length<4000 then ok (.int (dG ns).length)else none
  |none=>none)
 |_=>none
noncomputable def fe:D->O Bool
 |.bl b=>ok b
 |_=>none
noncomputable def intD:D->O Int
 |.int i=>ok i
 |_=>none
noncomputable def sC:Option (aI)->Option (ae)
 |some (some (.lst .ow ds))=>some ds
 |_=>none
theorem uK{o:Option (aI)}{ds:ae}(h:sC o=some ds):o=some (some (.lst .ow ds)):=by
 unfold sC at h;split at h<;>cases h;rfl
theorem vd{d:D}{i:Int}(h:intD d=ok i):d=.int i:=by
 cases d<;>simp[intD]at h;rw[h]
noncomputable def CG:D->O D
 |.int i=>ok (.int (-i))
 |_=>none
def eQ:aF->ae->aV->O aV
 |[],[],ρ=>ok ρ
 |i::is,d::ds,ρ=>if i<ρ.length then eQ is ds (ρ.set i (some d))else none
 |_,_,_=>none
def cg:Tg->D->aV->O aV
 |.nm i,d,ρ=>if i<ρ.length then ok (ρ.set i (some d))else none
 |.tp is,.tup ds,ρ=>if aK cw ds then none else eQ is ds ρ
 |_,_,_=>none
def my:D->O (ae)
 |.lst _ ds=>ok (aD a_ ds)
 |_=>none
def dv(Φ:aX):IK->ae->O (ae)
 |.cj p,xs=>bd (Φ p xs) my
 |.jr,[.int n]=>if n<=eO /\ -eO<=n then ok ((List.range n.toNat).map λ(k:Nat)=>D.int (k:Int))else none
 |.seq,[.tup ds]=>ok (aD a_ ds)
 |.seq,[.lst _ ds]=>ok (aD a_ ds)
 |_,_=>none
def gj(bind:D->O aV)(test:aV->O Bool)(el:aV->O D):ae->O (ae)
 |[]=>ok []
 |x::xs=>bd (bind x) λρ=>bd (test ρ) λb=>if b then bd (el ρ) λy=>bd (gj bind test el xs) λys=>ok (y::ys)else gj bind test el xs
def bK(n:Nat)(caps:aF)(ρ:aV):aV:=List.replicate n none++caps.map λi=>(ρ[i]?.getD none).map (aZ a_)
def ui(o:Option (aI)):O D:=match o with
 |some (some d)=>ok (aZ bH d)
 |_=>none
theorem yA{o:Option (aI)}{d:D}(h:ui o=ok d):∃d',o=some (some d')/\d=aZ bH d':=by
 cases o with
 |none=>cases h
 |some z=>cases z with
  |none=>cases h
  |some z=>cases h;exact⟨z,rfl,rfl⟩
mutual
noncomputable def bj(Φ:aX):CE->aV->O D
 |.bD,_=>ok .bD
 |.bl b,_=>ok (.bl b)
 |.int i,_=>ok (.int i)
 |.glo _ i,_=>ok (.int i)
 |.v i,ρ=>ui ρ[i]?
 |.bin op a b,ρ=>bd (bj Φ a ρ) λx=>bd (bj Φ b ρ) λy=>bV op x y
 |.neg a,ρ=>bd (bj Φ a ρ) CG
 |.not a,ρ=>bd (bd (bj Φ a ρ) fe) λb=>ok (.bl (!b))
 |.and es,ρ=>lP Φ es ρ
 |.or es,ρ=>tj Φ es ρ
 |.ite c a b,ρ=>bd (bd (bj Φ c ρ) fe) λk=>if k then bj Φ a ρ else bj Φ b ρ
 |.cmp op a b,ρ=>bd (bj Φ a ρ) λx=>bd (bj Φ b ρ) λy=>eZ op x y
 |.vc a t,ρ=>bd (bj Φ a ρ) λx=>ok (.bl (fi t x))
 |.call f es,ρ=>bd (cc Φ es ρ) λxs=>bd (Φ f (aD a_ xs)) λr=>ok (aZ mG r)
 |.bf f es,ρ=>bd (cc Φ es ρ) λxs=>vM f xs
 |.ix a b,ρ=>bd (bj Φ a ρ) λx=>bd (bj Φ b ρ) λy=>Hn x y
 |.cj p es,ρ=>bd (cc Φ es ρ) λxs=>Φ p xs
 |.tup es,ρ=>bd (cc Φ es ρ) λxs=>ok (.tup xs)
 |.lst es,ρ=>bd (cc Φ es ρ) λxs=>ok (.lst .ow xs)
 |.comp n t caps ik es bx elt,ρ=>bd (cc Φ es ρ) λxs=>bd (dv Φ ik xs) λitems =>
   bd (gj (λd=>cg t d (bK n caps ρ)) (λρ'=>fE Φ bx ρ') (λρ'=>bj Φ elt ρ') items) λds=>if ds.length<=eO then ok (.lst .ow (aD mG ds))else none
noncomputable def cc(Φ:aX):aA->aV->O (ae)
 |[],_=>ok []
 |e::es,ρ=>bd (bj Φ e ρ) λx=>bd (cc Φ es ρ) λxs=>ok (x::xs)
noncomputable def fE(Φ:aX):aA->aV->O Bool
 |[],_=>ok true
 |e::es,ρ=>bd (bd (bj Φ e ρ) fe) λb=>if b then fE Φ es ρ else ok false
noncomputable def lP(Φ:aX):aA->aV->O D
 |[],_=>none
 |e::es,ρ=>bd (bd (bj Φ e ρ) fe) λc=>match es with
  |[]=>ok (.bl c)
  |_::_=>if c then lP Φ es ρ else ok (.bl false)
noncomputable def tj(Φ:aX):aA->aV->O D
 |[],_=>none
 |e::es,ρ=>bd (bd (bj Φ e ρ) fe) λc=>match es with
  |[]=>ok (.bl c)
  |_::_=>if c then ok (.bl true)else tj Φ es ρ
end
def rS(Φ:aX)(e:CE)(ρ:aV):O Bool:=bd (bj Φ e ρ) fe
inductive Fo where|nx|rt(d:D)
noncomputable def cu{α β:Type}(n:Nat)(step:α->O (α ⊕ β))(a:α):O β:=match n with
 |0=>none
 |n+1=>bd (step a) λr=>match r with
  |.inl a'=>cu n step a'
  |.inr b=>ok b
open Classical in
noncomputable def dP{α β:Type}(step:α->O (α ⊕ β))(a:α):O β :=
 if h:∃n,cu n step a≠none then cu (Classical.choose h) step a else none
theorem gb{α β:Type}(step:α->O (α ⊕ β)):∀(n m:Nat) (a:α),n<=m->cu n step a≠none->cu m step a=cu n step a
 |0,_,_,_,h=>absurd rfl h
 |n+1,0,_,hl,_=>by left
 |n+1,m+1,a,hl,h=>by
  unfold cu at h ⊢
  match hs:step a with
  |none=>rw[hs]at h;exact absurd rfl h
  |some (.error c)=>rfl
  |some (.ok (.inr b))=>rfl
  |some (.ok (.inl a')) =>
   rw[hs]at h;exact gb step n m a' (by left) h
theorem ji{α β:Type}{step:α->O (α ⊕ β)}{a:α}{n:Nat}{r:Except Nat β}(h:cu n step a=some r):dP step a=some r:=by
 have hx:∃n,cu n step a≠none:=⟨n,by rw[h];simp⟩
 unfold dP;rw[dif_pos hx];have hc:=Classical.choose_spec hx;rcases Nat.le_total n (Classical.choose hx)with hl|hl
 ·rw[gb step _ _ a hl (by rw[h];simp),h]
 ·rw[<- gb step _ _ a hl hc,h]
theorem jt{α β:Type}{step:α->O (α ⊕ β)}{a:α}{r:Except Nat β}(h:dP step a=some r):∃n,cu n step a=some r:=by
 unfold dP at h;split at h
 ·exact⟨_,h⟩
 ·cases h
theorem kQ{α β:Type}{step:α->O (α ⊕ β)}{a a':α}(h:step a=ok (.inl a')):dP step a=dP step a':=by
 match hr:dP step a' with
 |some r =>
  obtain⟨n,hn⟩:=jt hr;refine ji (n:=n+1) ?_;unfold cu;rw[h];exact hn
 |none =>
  match hq:dP step a with
  |none=>rfl
  |some r =>
   obtain⟨n,hn⟩:=jt hq
   match n,hn with
   |n+1,hn =>
    unfold cu at hn;rw[h]at hn;rw[ji (n:=n) hn]at hr;cases hr
theorem fc{α β:Type}{step:α->O (α ⊕ β)}{a:α}{b:β}(h:step a=ok (.inr b)):dP step a=ok b :=
 ji (n:=1) (by unfold cu;rw[h];rfl)
mutual
noncomputable def fI:CE->aF
 |.v i=>[i]
 |.bin _ a b=>fI a++fI b
 |.neg a=>fI a
 |.not a=>fI a
 |.and es=>cL es
 |.or es=>cL es
 |.ite c a b=>fI c++(fI a++fI b)
 |.cmp _ a b=>fI a++fI b
 |.vc a _=>fI a
 |.call _ es=>cL es
 |.bf _ es=>cL es
 |.ix a b=>fI a++fI b
 |.tup es=>cL es
 |.lst es=>cL es
 |.cj _ es=>cL es
 |.comp _ _ caps _ es _ _=>caps++cL es
 |_=>[]
noncomputable def cL:aA->aF
 |[]=>[]
 |e::es=>fI e++cL es
end
def fM(is:aF)(ρ:aV):aV:=ρ.mapIdx λi d=>if i∈is then d.map (aZ a_)else d
def keep(e:CE)(d:D)(ρ:aV):D×aV:=if aP bR d then(aZ a_ d,fM (fI e) ρ)else(d,ρ)
def gJ(Φ:aX)(e:CE)(ρ:aV):O (D×aV):=match e with
 |.v i=>match ρ[i]? with
  |some (some d)=>if aP cw d then ok (d,ρ.set i none)else ok (d,ρ)
  |_=>none
 |_=>bd (bj Φ e ρ) λd=>ok (keep e d ρ)
def f_(Φ:aX)(it:CI)(ρ:aV):O (ae×aV):=match it with
 |.GC p es=>bd (cc Φ es ρ) λxs=>bd (Φ p xs) λd=>bd (my d) λitems=>ok (items,if aK bR xs then fM (cL es) ρ else ρ)
 |.jr a=>bd (bj Φ a ρ) λx=>match x with
  |.int n=>if n<=eO /\ -eO<=n then ok ((List.range n.toNat).map λ(k:Nat)=>D.int (k:Int),ρ)else none
  |_=>none
 |.seq a=>bd (bj Φ a ρ) λx=>match x with
  |.tup ds=>ok (aD a_ ds,if aP bR x then fM (fI a) ρ else ρ)
  |.lst f ds=>ok (aD a_ ds,if aP bR x then fM (fI a) ρ else ρ)
  |_=>none
def lB(es:aA)(xs:ae)(ρ:aV):ae×aV:=if aK bR xs then(aD a_ xs,fM (cL es) ρ)else(xs,ρ)
noncomputable def sF(Φ:aX)(p i:Nat)(r:ae×aV):O (Fo×aV):=match r.2[i]? with
 |some (some d)=>bd (Φ p (d::r.1)) λd'=>ok (.nx,r.2.set i (some d'))
 |_=>none
def dW(bind:D->aV->O aV)(body:aV->O (Fo×aV)):ae->aV->O (Fo×aV)
 |[],ρ=>ok (.nx,ρ)
 |d::ds,ρ=>bd (bind d ρ) λρ1=>bd (body ρ1) λr=>match r with
  | (.nx,ρ2)=>dW bind body ds ρ2
  | (.rt d,ρ2)=>ok (.rt d,ρ2)
mutual
noncomputable def kr(Φ:aX):CS->aV->O (Fo×aV)
 |.asg t e,ρ=>bd (gJ Φ e ρ) λr=>bd (cg t r.1 r.2) λρ'=>ok (.nx,ρ')
 |.par i j a b,ρ=>bd (bj Φ a ρ) λx=>bd (bj Φ b ρ) λy=>if aP anyF x=false/\aP anyF y=false/\i<ρ.length/\j<ρ.length then ok (.nx,(ρ.set i (some x)).set j (some y))else none
 |.ret e,ρ=>bd (gJ Φ e ρ) λr=>ok (.rt r.1,r.2)
 |.rs c,_=>some (.error c)
 |.ex e,ρ=>bd (bj Φ e ρ) λ_=>ok (.nx,ρ)
 |.mut p i es,ρ=>bd (cc Φ es ρ) λxs=>sF Φ p i (lB es xs ρ)
 |.app i e,ρ=>bd (gJ Φ e ρ) λr=>match sC r.2[i]? with
  |some ds=>if ds.length<eO then ok (.nx,r.2.set i (some (.lst .ow (ds++[r.1]))))else none
  |none=>none
 |.setI i k e,ρ=>bd (gJ Φ e ρ) λr=>bd (bd (bj Φ k r.2) intD) λz=>match sC r.2[i]? with
  |some ds=>match nq ds.length z with
   |some j=>ok (.nx,r.2.set i (some (.lst .ow (ds.set j r.1))))
   |none=>none
  |none=>none
 |.aug i op e,ρ=>bd (bd (bj Φ e ρ) intD) λb=>match ρ[i]? with
  |some (some (.int a))=>ok (.nx,ρ.set i (some (.int (if op then a+b else a - b))))
  |_=>none
 |.ifs c a b,ρ=>bd (rS Φ c ρ) λk=>if k then bw Φ a ρ else bw Φ b ρ
 |.Fv c b,ρ=>dP (λρ=>bd (rS Φ c ρ) λk=>if k then bd (bw Φ b ρ) λr=>match r with
   | (.nx,ρ')=>ok (.inl ρ')
   | (.rt d,ρ')=>ok (.inr (.rt d,ρ'))
  else ok (.inr (.nx,ρ))) ρ
 |.fr t it b,ρ=>bd (f_ Φ it ρ) λr=>dW (λd ρ=>cg t d ρ) (λρ=>bw Φ b ρ) r.1 r.2
noncomputable def bw(Φ:aX):aj->aV->O (Fo×aV)
 |[],ρ=>ok (.nx,ρ)
 |s::ss,ρ=>bd (kr Φ s ρ) λr=>match r with
  | (.nx,ρ')=>bw Φ ss ρ'
  |r=>ok r
end
noncomputable def oo(Φ:aX)(n:Nat)(b:aj)(ds:ae):O D:=bd (bw Φ b (ds.map some++List.replicate (n - ds.length) none)) λr=>match r.1 with
 |.nx=>ok .bD
 |.rt d=>ok d
noncomputable def Bs:aE
 |[.lst _ a,.lst _ b]=>ok (.lst .ow (List.zipWith (λx y=>.tup [x,y]) a b))
 |_=>none
end DI
end
section
namespace DI
open PySem PySem.Spec PyProof.Rows L2
noncomputable abbrev aU:=aF
noncomputable abbrev St:=L2.St
noncomputable abbrev kJ:=Addr->af->Prop
inductive Nd where|l(xs:af)|d(cs:aq)(as:aM)(xs:af)(ep:Nat)
abbrev gL:=aU->Addr->Nd->Fl->Prop
structure dq(T:kJ)(as:aM)(cs:aq):Prop where
 len:as.length=cs.length
 tup:∀(j:Nat) (a:Addr) (c:aa),as[j]?=some a->cs[j]?=some c->T a (c.map V.int)
variable {T T':kJ}{as ch fp:aM}
theorem dq.imp{cs:aq}(h:dq T as cs)(hT:∀p xs,T p xs->T' p xs):dq T' as cs:=⟨h.len,λj a c h1 h2=>hT _ _ (h.tup j a c h1 h2)⟩
mutual
inductive Rep(T:kJ)(N:gL):aU->V->D->Prop where
 |bD {q:aU}:Rep T N q .bD .bD
 |bl {q:aU} (b:Bool):Rep T N q (.bl b) (.bl b)
 |int {q:aU} (i:Int):Rep T N q (.int i) (.int i)
 |tup {q:aU} {p:Addr} {xs:af} {ds:ae} (h:T p xs) (r:az T N q 0 xs ds):Rep T N q (.ref p) (.tup ds)
 |lst {q:aU} {p:Addr} {xs:af} {f:Fl} {ds:ae} (h:N q p (.l xs) f) (r:az T N q 0 xs ds):Rep T N q (.ref p) (.lst f ds)
 |cy {q:aU} {p:Addr} {cs:aq} {as:aM} {xs:af} {ep:Nat} {f:Fl} {ds:ae} (h:N q p (.d cs as xs ep) f) (k:dq T as cs) (r:az T N q 0 xs ds):Rep T N q (.ref p) (.cy f cs ds)
inductive az(T:kJ)(N:gL):aU->Nat->af->ae->Prop where
 |nil {q:aU} {n:Nat}:az T N q n [] []
 |cons {q:aU} {n:Nat} {v:V} {d:D} {vs:af} {ds:ae} (h:Rep T N (n::q) v d) (t:az T N q (n+1) vs ds):az T N q n (v::vs) (d::ds)
end
variable {N N':gL}{ds ds' items:ae}
theorem Rep.xY{q:aU}{v:V}(h:Rep T N q v (.tup ds)):∃p xs,v=.ref p/\T p xs/\az T N q 0 xs ds:=by
 cases h with
 |tup a b=>exact⟨_,_,rfl,a,b⟩
theorem Rep.rW{q:aU}{v:V}{f:Fl}(h:Rep T N q v (.lst f ds)):∃p xs,v=.ref p/\N q p (.l xs) f/\az T N q 0 xs ds:=by
 cases h with
 |lst a b=>exact⟨_,_,rfl,a,b⟩
mutual
theorem oY:∀d:D,aP (λ_=>false) d=false
 |.bD=>rfl
 |.bl _=>rfl
 |.int _=>rfl
 |.tup ds=>eW ds
 |.lst _ ds=>eW ds
 |.cy _ _ ds=>eW ds
theorem eW:∀ds:ae,aK (λ_=>false) ds=false
 |[]=>rfl
 |d::ds=>by show(aP _ d||aK _ ds)=false;rw[oY d,eW ds];rfl
end
theorem Eu{a b:Bool}(h:(a||b)=false):a=false/\b=false:=by cases a<;>cases b<;>first|exact⟨rfl,rfl⟩|cases h
variable {k' q':aU}{vs xs xs' ys:af}
section
variable {T T':kJ}{N N':gL}{g:Fl->Fl}{P:Fl->Bool}{C:aU->aU->Prop}{I:Nat->Nat->Prop}
mutual
theorem Rep.gen(hT:∀p xs,T p xs->T' p xs)(h0:I 0 0)(hI:∀n n',I n n'->I (n+1) (n'+1))(hC:∀k k' n n',C k k'->I n n'->C (n::k) (n'::k'))(hN:∀k k' p xs f,C k k'->P f=false->N k p xs f->N' k' p xs (g f)):
  ∀{k:aU} {v:V} {d:D},Rep T N k v d->∀{k':aU},C k k'->aP P d=false->Rep T' N' k' v (aZ g d)
 |_,_,_,.bD,_,_,_=>.bD
 |_,_,_,.bl b,_,_,_=>.bl b
 |_,_,_,.int i,_,_,_=>.int i
 |_,_,_,.tup h r,_,c,e=>.tup (hT _ _ h) (az.gen hT h0 hI hC hN r c h0 e)
 |_,_,_,.lst h r,_,c,e=>.lst (hN _ _ _ _ _ c (Eu e).1 h) (az.gen hT h0 hI hC hN r c h0 (Eu e).2)
 |_,_,_,.cy h k r,_,c,e=>.cy (hN _ _ _ _ _ c (Eu e).1 h) (k.imp hT) (az.gen hT h0 hI hC hN r c h0 (Eu e).2)
theorem az.gen(hT:∀p xs,T p xs->T' p xs)(h0:I 0 0)(hI:∀n n',I n n'->I (n+1) (n'+1))(hC:∀k k' n n',C k k'->I n n'->C (n::k) (n'::k'))(hN:∀k k' p xs f,C k k'->P f=false->N k p xs f->N' k' p xs (g f)):
  ∀{k:aU} {n:Nat} {vs:af} {ds:ae},az T N k n vs ds->∀{k':aU} {n':Nat},C k k'->I n n'->aK P ds=false->az T' N' k' n' vs (aD g ds)
 |_,_,_,_,.nil,_,_,_,_,_=>.nil
 |_,_,_,_,.cons h t,_,_,c,i,e=>.cons (Rep.gen hT h0 hI hC hN h (hC _ _ _ _ c i) (Eu e).1) (az.gen hT h0 hI hC hN t c (hI _ _ i) (Eu e).2)
end
theorem Rep.map{q:aU}(hT:∀p xs,T p xs->T' p xs)(hN:∀c p xs f,N (c++q) p xs f->N' (c++q') p xs (g f)){k:aU}{v:V}{d:D}(h:Rep T N k v d)(c:aU)(e:k=c++q):Rep T' N' (c++q') v (aZ g d) :=
 Rep.gen (P:=λ_=>false) (C:=λk k'=>∃c,k=c++q/\k'=c++q') (I:=λn n'=>n=n') hT rfl (λ_ _ e=>by rw[e]) (λ_ _ n _ ⟨c,e1,e2⟩ e=>⟨n::c,by rw[e1];rfl,by rw[e2,<- e];rfl⟩) (λ_ _ p xs f ⟨c,e1,e2⟩ _ h=>by subst e1;subst e2;exact hN c p xs f h) h ⟨c,e,rfl⟩ (oY d)
theorem az.map{q:aU}(hT:∀p xs,T p xs->T' p xs)(hN:∀c p xs f,N (c++q) p xs f->N' (c++q') p xs (g f)){k:aU}{n:Nat}(h:az T N k n vs ds)(c:aU)(e:k=c++q):az T' N' (c++q') n vs (aD g ds) :=
 az.gen (P:=λ_=>false) (C:=λk k'=>∃c,k=c++q/\k'=c++q') (I:=λn n'=>n=n') hT rfl (λ_ _ e=>by rw[e]) (λ_ _ n _ ⟨c,e1,e2⟩ e=>⟨n::c,by rw[e1];rfl,by rw[e2,<- e];rfl⟩) (λ_ _ p xs f ⟨c,e1,e2⟩ _ h=>by subst e1;subst e2;exact hN c p xs f h) h ⟨c,e,rfl⟩ rfl (eW ds)
theorem Rep.ie(hT:∀p xs,T p xs->T' p xs)(hN:∀k k' p xs f,N k p xs f->N' k' p xs (g f)){k:aU}{v:V}{d:D}(h:Rep T N k v d)(k':aU):Rep T' N' k' v (aZ g d) :=
 Rep.gen (P:=λ_=>false) (C:=λ_ _=>True) (I:=λ_ _=>True) hT trivial (λ_ _ e=>e) (λ_ _ _ _ e _=>e) (λk k' p xs f _ _ h=>hN k k' p xs f h) h trivial (oY d)
theorem az.ie(hT:∀p xs,T p xs->T' p xs)(hN:∀k k' p xs f,N k p xs f->N' k' p xs (g f)){k:aU}{n:Nat}(h:az T N k n vs ds)(k':aU)(n':Nat):az T' N' k' n' vs (aD g ds) :=
 az.gen (P:=λ_=>false) (C:=λ_ _=>True) (I:=λ_ _=>True) hT trivial (λ_ _ e=>e) (λ_ _ _ _ e _=>e) (λk k' p xs f _ _ h=>hN k k' p xs f h) h trivial trivial (eW ds)
end
mutual
theorem dF:∀d:D,aZ id d=d
 |.bD=>rfl
 |.bl _=>rfl
 |.int _=>rfl
 |.tup ds=>by rw[aZ,di ds]
 |.lst f ds=>by rw[aZ,di ds];rfl
 |.cy f ks vs=>by rw[aZ,di vs];rfl
theorem di:∀ds:ae,aD id ds=ds
 |[]=>rfl
 |d::ds=>by rw[aD,dF d,di ds]
end
section
variable {T T':kJ}{N N':gL}
theorem Rep.imp{q:aU}(hT:∀p xs,T p xs->T' p xs)(hN:∀c p xs f,N (c++q) p xs f->N' (c++q') p xs f){v:V}{d:D}(h:Rep T N q v d):Rep T' N' q' v d:=by
 have:=Rep.map (g:=id) hT hN h [] rfl;rw[dF]at this;exact this
theorem az.imp{q:aU}{n:Nat}(hT:∀p xs,T p xs->T' p xs)(hN:∀c p xs f,N (c++q) p xs f->N' (c++q') p xs f)(h:az T N q n vs ds):az T' N' q' n vs ds:=by
 have:=az.map (g:=id) hT hN h [] rfl;rw[di]at this;exact this
theorem az.length:∀{k:aU} {n:Nat} {vs:af} {ds:ae},az T N k n vs ds->vs.length=ds.length
 |_,_,_,_,.nil=>rfl
 |_,_,_,_,.cons _ t=>by simp[az.length t]
theorem az.get:∀{k:aU} {n j:Nat} {vs:af} {ds:ae} {d:D},az T N k n vs ds->ds[j]?=some d->∃v,vs[j]?=some v/\Rep T N ((n+j)::k) v d
 |_,_,_,_,_,_,.nil,e=>by simp at e
 |_,_,0,_,_,_,.cons h t,e=>by simp at e;subst e;exact⟨_,rfl,h⟩
 |_,n,j+1,_,_,_,.cons h t,e=>by
  obtain⟨v,h1,h2⟩:=az.get (j:=j) t (by simpa using e);refine⟨v,by simpa using h1,?_⟩;have:n+1+j=n+(j+1):=by left
  rw[<- this];exact h2
theorem az.s_:∀{k:aU} {n j:Nat} {vs:af} {ds:ae} {v:V},az T N k n vs ds->vs[j]?=some v->∃d,ds[j]?=some d/\Rep T N ((n+j)::k) v d
 |_,_,_,_,_,_,.nil,e=>by simp at e
 |_,_,0,_,_,_,.cons h t,e=>by simp at e;subst e;exact⟨_,rfl,h⟩
 |_,n,j+1,_,_,_,.cons h t,e=>by
  obtain⟨v,h1,h2⟩:=az.s_ (j:=j) t (by simpa using e);refine⟨v,by simpa using h1,?_⟩;have:n+1+j=n+(j+1):=by left
  rw[<- this];exact h2
theorem az.pM{k:aU}(hN:∀k k' p xs f,N k p xs f->N k' p xs f):∀{n m l:Nat} {vs ws:af} {ds es:ae},az T N k n vs ds->az T N k m ws es->az T N k l (vs++ws) (ds++es)
 |_,_,_,_,_,_,_,.nil,t=>by
  have:=az.ie (T':=T) (N':=N) (g:=id) (λ_ _ h=>h) hN t;rw[di]at this;exact this _ _
 |_,_,_,_,_,_,_,.cons h t,u=>.cons (by
  have:=Rep.ie (T':=T) (N':=N) (g:=id) (λ_ _ h=>h) hN h;rw[dF]at this;exact this _) (az.pM hN t u)
end
def KL(K:ao)(a:Addr)(xs:af):Prop :=
 ∃(o:Obj) (aC:aQ) (n:Nat),K.lookup a=some o/\o.cls=.type "list" /\ o.dict=none/\o.data=.seq aC n/\aC.size<=sizeLine/\Vals xs aC.toList
def DO(p:Addr)(cs:aq)(as:aM)(xs:af)(ep:Nat)(h:Heap):Prop :=
 ∃(zs:List (aa×Addr×Value)) (o:Obj) (es:Array DictEntry),zs.map (·.1)=cs/\zs.map (·.2.1)=as/\Vals xs (zs.map (·.2.2))/\h.get? p=some o/\o.ExactDict/\o.data=.dict es ep /\
  es.toList=zs.map (λz=>⟨reduceHash (Builtin.Tuple.tupleHashOf (z.1.map hashInt)),.ref z.2.1,z.2.2⟩)/\cs.Nodup/\cs.length<=sizeLine/\(p==sysModules)=false
noncomputable abbrev de(H:Hp)(p:Addr)(n:Nd):Prop:=match n with
 |.l xs=>H p=some (.lst xs)
 |.d cs as xs ep=>H p=some (.ext (DO p cs as xs ep))
variable {H H' H1 H2:Hp}
theorem de.ne{p:Addr}{n:Nd}(h:de H p n):H p≠none:=by
 cases n with
 |l xs=>intro z;rw[show H p=some (.lst xs) from h]at z;cases z
 |d cs as xs ep=>intro z;rw[show H p=some (.ext (DO p cs as xs ep)) from h]at z;cases z
theorem de.at{p:Addr}{n:Nd}(e:∀o,H p=some o->H' p=some o)(h:de H p n):de H' p n:=by
 cases n with
 |l xs=>exact e _ h
 |d cs as xs ep=>exact e _ h
theorem de.same{p:Addr}{n:Nd}(e:aG H H')(h:de H p n):de H' p n:=h.at (e p)
theorem de.some{H:Hp}{p:Addr}{n:Nd}(h:de H p n):∃o,H p=some o/\(∀xs,o≠.tup xs)/\(∀a u,o≠.fM a u):=by
 cases n with
 |l xs=>exact⟨_,h,λ_ z=>(nomatch z),λ_ _ z=>(nomatch z)⟩
 |d cs as xs ep=>exact⟨_,h,λ_ z=>(nomatch z),λ_ _ z=>(nomatch z)⟩
def nd(K:ao)(R A:ag)(τ:Addr->Option aU)(H:Hp):gL:=λq p n f=>match f with
 |.ow=>de H p n/\τ p=some q
 |.fz=>de H p n/\R p
 |.al=>de H p n/\A p
 |.sc=>match n with
  |.l xs=>(∃o,H p=some (.fM o (.lst xs)))\/KL K p xs
  |.d _ _ _ _=>False
variable {A F G R R' R1:Addr->Prop}{K:ao}{τ τ' τt:Addr->Option aU}
theorem nd.yG{q:aU}{p:Addr}{n:Nd}(h:nd K R A τ H q p n .sc):∃xs,n=.l xs/\((∃o,H p=some (.fM o (.lst xs)))\/KL K p xs):=by
 cases n with
 |l xs=>exact⟨xs,rfl,h⟩
 |d _ _ _ _=>exact h.elim
theorem nd.sq{q:aU}{p:Addr}{f:Fl}(h:nd K R A τ H q p (.l xs) f):cH K H p xs:=by
 cases f with
 |ow=>exact cH.of h.1
 |fz=>exact cH.of h.1
 |al=>exact cH.of h.1
 |sc=>exact h.elim (λh=>.inl (.inr h)) .inr
theorem nd.lst{K:ao}{R A:ag}{τ:Addr->Option aU}{H:Hp}{q:aU}{p:Addr}{xs:af}{f:Fl}(h:nd K R A τ H q p (.l xs) f)(hf:mD f=false):H p=some (.lst xs):=by
 cases f with
 |ow=>exact h.1
 |fz=>exact h.1
 |al=>exact h.1
 |sc=>cases hf
variable {ep n1 t':Nat}
theorem nd.dat{q:aU}{p:Addr}{cs:aq}{f:Fl}(h:nd K R A τ H q p (.d cs as xs ep) f):H p=some (.ext (DO p cs as xs ep)):=by
 cases f with
 |ow=>exact h.1
 |fz=>exact h.1
 |al=>exact h.1
 |sc=>exact h.elim
theorem Rd.same{a:Addr}{u:HO}(e:aG H H')(h:Rd H a u):Rd H' a u:=h.elim (λh=>.inl (e _ _ h)) λ⟨o,h⟩=>.inr ⟨o,e _ _ h⟩
theorem aN.same{K:ao}{H H':Hp}{a:Addr}{xs:af}(e:aG H H')(h:aN K H a xs):aN K H' a xs:=h.elim (λh=>.inl (Rd.same e h)) .inr
theorem nd.same{K:ao}{R A:ag}{τ:Addr->Option aU}{H H':Hp}{q:aU}{p:Addr}{n:Nd}{f:Fl}(e:aG H H')(h:nd K R A τ H q p n f):nd K R A τ H' q p n f:=by
 cases f with
 |ow=>exact⟨h.1.same e,h.2⟩
 |fz=>exact⟨h.1.same e,h.2⟩
 |al=>exact⟨h.1.same e,h.2⟩
 |sc=>cases n with
  |l xs=>exact h.elim (λ⟨o,h⟩=>.inl ⟨o,e _ _ h⟩) .inr
  |d _ _ _ _=>exact h.elim
theorem Rd.there{a:Addr}{u:HO}(h:Rd H a u):H a≠none:=by
 rcases h with h|⟨o,h⟩<;>(rw[h];simp)
theorem aG.ne(e:aG H H'){a:Addr}(h:H a≠none):H' a≠none:=by
 cases q:H a with
 |none=>exact absurd q h
 |some o=>rw[e a o q];simp
structure SI(X:Cx)(F R:ag)(τ:Addr->Option aU)(ρ:aV)(σ:St)(H:Hp):Prop where
 len:ρ.length=σ.length
 rep:∀(i:Nat) (d:D),ρ[i]?=some (some d)->∃v,σ[i]?=some (some v)/\Rep (aN X.K H) (nd X.K R (λ_=>False) τ H) [i] v d
 rt:∀p,R p->τ p=none
 rh:∀p,R p->H p≠none
 rf:∀p,R p->F p\/X.H₀ p=none
 th:∀p q,τ p=some q->H p≠none
 t0:∀p q,τ p=some q->X.H₀ p=none
 same:aG X.H₀ H
variable {X:Cx}{ρ:aV}{σ:L2.St}
theorem SI.go(S:SI X F R τ ρ σ H)(e:aG H H'):SI X F R τ ρ σ H' :=
 ⟨S.len,λi d h=>let ⟨v,h1,h2⟩:=S.rep i d h;⟨v,h1,h2.imp (λ_ _ h=>aN.same e h) λ_ _ _ _ h=>nd.same e h⟩,S.rt,λp h=>aG.ne e (S.rh p h),S.rf,λp q h=>aG.ne e (S.th p q h),S.t0,S.same.trans e⟩
def iy(G:ag)(τ:Addr->Option aU)(fv:aF)(p:Addr):Prop:=G p/\∀c i,τ p=some (c++[i])->i∈fv
variable {caps fv fv':aF}
theorem iy.mono{p:Addr}(h:iy G τ fv p)(hs:∀i∈fv,i∈fv'):iy G τ fv' p:=⟨h.1,λc i e=>hs i (h.2 c i e)⟩
def gP(X:Cx)(F:ag)(p:Addr):Prop:=F p\/X.H₀ p=none
def bM(K:ao)(G R:ag)(τ:Addr->Option aU)(fv:aF)(H H':Hp)(v:V)(d:D):Prop :=
 ∃τt:Addr->Option aU,(∀p q,τt p=some q->H p=none)/\Rep (aN K H') (nd K R (iy G τ fv) τt H') [] v d
def b0(K:ao)(G R:ag)(τ:Addr->Option aU)(fv:aF)(H H':Hp)(vs:af)(ds:ae):Prop :=
 ∃τt:Addr->Option aU,(∀p q,τt p=some q->H p=none)/\az (aN K H') (nd K R (iy G τ fv) τt H') [] 0 vs ds
section
variable {K:ao}{G R:ag}{τ:Addr->Option aU}{fv fv':aF}{H H1 H2:Hp}{v:V}{d:D}{vs:af}{ds:ae}
theorem bM.go(h:bM K G R τ fv H H1 v d)(e:aG H1 H2):bM K G R τ fv H H2 v d :=
 let ⟨τt,h1,h2⟩:=h;⟨τt,h1,h2.imp (λ_ _ h=>aN.same e h) λ_ _ _ _ h=>nd.same e h⟩
theorem nd.mono{A':Addr->Prop}{τ:Addr->Option aU}{q:aU}{p:Addr}{xs:Nd}{f:Fl}(h:nd K R A τ H q p xs f)(hR:R p->R' p)(hA:A p->A' p)(ht:τ p=some q->τ' p=some q'):nd K R' A' τ' H q' p xs f:=by
 cases f with
 |ow=>exact⟨h.1,ht h.2⟩
 |fz=>exact⟨h.1,hR h.2⟩
 |al=>exact⟨h.1,hA h.2⟩
 |sc=>exact h
theorem bM.mono(h:bM K G R τ fv H H1 v d)(hs:∀i∈fv,i∈fv'):bM K G R τ fv' H H1 v d :=
 let ⟨τt,h1,h2⟩:=h;⟨τt,h1,h2.imp (λ_ _ h=>h) λ_ _ _ _ h=>h.mono id (λh=>h.mono hs) id⟩
theorem b0.mono(h:b0 K G R τ fv H H1 vs ds)(hs:∀i∈fv,i∈fv'):b0 K G R τ fv' H H1 vs ds :=
 let ⟨τt,h1,h2⟩:=h;⟨τt,h1,h2.imp (λ_ _ h=>h) λ_ _ _ _ h=>h.mono id (λh=>h.mono hs) id⟩
theorem bM.old{H0:Hp}(h:bM K G R τ fv H H1 v d)(e:aG H0 H):bM K G R τ fv H0 H1 v d :=
 let ⟨τt,h1,h2⟩:=h;⟨τt,λp q z=>e.free (h1 p q z),h2⟩
theorem bM.int{i:Int}:bM K G R τ fv H H1 (.int i) (.int i):=⟨λ_=>none,λ_ _ h=>by simp at h,.int i⟩
theorem bM.bl{b:Bool}:bM K G R τ fv H H1 (.bl b) (.bl b):=⟨λ_=>none,λ_ _ h=>by simp at h,.bl b⟩
theorem bM.bD:bM K G R τ fv H H1 .bD .bD:=⟨λ_=>none,λ_ _ h=>by simp at h,.bD⟩
theorem bM.isInt{i:Int}(h:bM K G R τ fv H H1 v (.int i)):v=.int i:=by obtain⟨_,_,h⟩:=h;cases h;rfl
theorem bM.wN{i:Bool}(h:bM K G R τ fv H H1 v (.bl i)):v=.bl i:=by obtain⟨_,_,h⟩:=h;cases h;rfl
def oh:aU->aU
 |[]=>[]
 |[n]=>[n+1]
 |a::b::r=>a::oh (b::r)
theorem ql(c:aU)(n:Nat):oh (c++[n])=c++[n+1]:=by
 induction c with
 |nil=>rfl
 |cons a c ih =>
  cases c with
  |nil=>rfl
  |cons b c=>show a::oh (b::c++[n])=_;rw[ih];rfl
theorem az.shift{T:kJ}{N N':gL}(hN:∀c n p xs f,N (c++[n]) p xs f->N' (c++[n+1]) p xs f):∀{n:Nat} {vs:af} {ds:ae},az T N [] n vs ds->az T N' [] (n+1) vs ds
 |_,_,_,.nil=>.nil
 |n,_,_,.cons h t=>.cons (h.imp (q:=[n]) (q':=[n+1]) (λ_ _ h=>h) λc p xs f h=>hN c n p xs f h) (az.shift hN t)
theorem b0.nil:b0 K G R τ fv H H1 [] []:=⟨λ_=>none,λ_ _ h=>by simp at h,.nil⟩
open Classical in
theorem b0.cons(e1:aG H H1)(e2:aG H1 H2)(h:bM K G R τ fv H H1 v d)(t:b0 K G R τ fv H1 H2 vs ds):b0 K G R τ fv H H2 (v::vs) (d::ds):=by
 obtain⟨τ1,f1,h1⟩:=h;obtain⟨τ2,f2,h2⟩:=t;refine⟨λp=>if H1 p=none then(τ2 p).map oh else(τ1 p).map (· ++ [0]),λp q hq=>?_,.cons (h1.imp (q':=[0]) (λ_ _ h=>aN.same e2 h) λc p xs f h=>?_) (az.shift (λc n p xs f h=>?_) h2)⟩
 ·by_cases hp:H1 p=none
  ·exact e1.free hp
  ·simp only[hp,if_false]at hq;cases q1:τ1 p with
   |none=>rw[q1]at hq;simp at hq
   |some k=>exact f1 p k q1
 ·have h':nd K R (iy G τ fv) τ1 H2 (c++[]) p xs f:=nd.same e2 h;cases f with
  |ow =>
   have hp:H1 p≠none:=h.1.ne;refine⟨h'.1,?_⟩;simp only[hp,if_false];rw[h.2];simp
  |fz=>exact h'
  |al=>exact h'
  |sc=>exact h'
 ·cases f with
  |ow =>
   have hp:H1 p=none:=f2 p _ h.2;refine⟨h.1,?_⟩;simp only[hp,if_true];rw[h.2];simp[ql]
  |fz=>exact h
  |al=>exact h
  |sc=>exact h
end
def tD(X:Cx)(F:ag)(Φ:aX)(c:CE):TE:=λσ H Q=>∃R τ ρ d,SI X F R τ ρ σ H/\bj Φ c ρ=ok d/\∀v H',aG H H'->bM X.K (gP X F) R τ (fI c) H H' v d->Q v H'
def qb(X:Cx)(F:ag)(Φ:aX)(cs:aA):TA:=λσ H Q=>∃R τ ρ ds,SI X F R τ ρ σ H/\cc Φ cs ρ=ok ds/\∀vs H',aG H H'->b0 X.K (gP X F) R τ (cL cs) H H' vs ds->Q vs H'
def eN(X:Cx)(F:ag)(Φ:aX)(c:CE):TT:=λσ H Q=>∃R τ ρ b,SI X F R τ ρ σ H/\rS Φ c ρ=ok b/\∀H',aG H H'->Q b H'
theorem PE.imp{e:Expr}{t t':TE}(h:PE X e t)(hi:∀σ H Q,t' σ H Q->t σ H Q):PE X e t':=λpins s σ H Q I hw=>h pins s σ H Q I (hi σ H Q hw)
theorem PT.imp{e:Expr}{t t':TT}(h:PT X e t)(hi:∀σ H Q,t' σ H Q->t σ H Q):PT X e t':=λpins s σ H Q I hw=>h pins s σ H Q I (hi σ H Q hw)
theorem PW.imp{e:Expr}{t t':TT}(h:PW X e t)(hi:∀σ H Q,t' σ H Q->t σ H Q):PW X e t':=λwh pins s σ H Q I hw=>h wh pins s σ H Q I (hi σ H Q hw)
theorem PA.imp{es:au}{t t':TA}(h:PA X es t)(hi:∀σ H Q,t' σ H Q->t σ H Q):PA X es t':=λpos pins s σ H Q I hw=>h pos pins s σ H Q I (hi σ H Q hw)
variable {st:Stmt}
theorem PS.imp{t t':TS}(h:PS X st t)(hi:∀D σ H,t' D σ H->t D σ H):PS X st t':=λpins s σ H D I hw=>h pins s σ H D I (hi D σ H hw)
theorem kN.imp{st:aJ}{t t':TS}(h:kN X st t)(hi:∀D σ H,t' D σ H->t D σ H):kN X st t':=λpins s σ H D I hw=>h pins s σ H D I (hi D σ H hw)
theorem lS:∀(as bs:ae),dw as bs=true ↔ as.length=bs.length/\∀(j:Nat) (a b:D),as[j]?=some a->bs[j]?=some b->jQ a b=true
 |[],[]=>by simp[dw]
 |[],b::bs=>by simp[dw]
 |a::as,[]=>by simp[dw]
 |a::as,b::bs=>by
  rw[dw,Bool.and_eq_true,lS as bs];constructor
  ·rintro ⟨h1,h2,h3⟩;refine⟨by simp[h2],λj x y hx hy=>?_⟩;cases j with
   |zero=>simp at hx hy;subst hx hy;exact h1
   |succ j=>exact h3 j x y (by simpa using hx) (by simpa using hy)
  ·rintro ⟨h2,h3⟩;exact⟨h3 0 a b rfl rfl,by simpa using h2,λj x y hx hy=>h3 (j+1) x y (by simpa using hx) (by simpa using hy)⟩
def Nn(as bs:ae)(j:Nat):Bool:=match as[j]?,bs[j]? with
 |some a,some b=>jQ a b
 |_,_=>false
theorem iq(as bs:ae):((List.range (min as.length bs.length)).all (Nn as bs)&&as.length==bs.length)=dw as bs:=by
 rw[Bool.eq_iff_iff,lS,Bool.and_eq_true,List.all_eq_true,beq_iff_eq];constructor
 ·rintro ⟨h1,h2⟩;refine⟨h2,λj a b ha hb=>?_⟩;have hj:j<as.length:=by
   by_cases h:j<as.length
   ·exact h
   ·rw[List.getElem?_eq_none (by left)]at ha;cases ha
  have:=h1 j (by rw[List.mem_range];left);unfold Nn at this;rw[ha,hb]at this;exact this
 ·rintro ⟨h2,h1⟩;refine⟨λj hj=>?_,h2⟩;rw[List.mem_range]at hj;unfold Nn;have ha:as[j]?=some as[j]:=Yw (by left);have hb:bs[j]?=some bs[j]:=Yw (by left);rw[ha,hb];exact h1 j _ _ ha hb
section
variable {X:Cx}{pins:ak}{σ:St}{H:Hp}{s:Shared}{N N':gL}
theorem dD{n:Nat}(h:eG n (.tup ds)=true):∃m,n=m+1/\∀d∈ds,eG m d=true:=by
 cases n with
 |zero=>cases h
 |succ m=>exact⟨m,rfl,List.all_eq_true.mp h⟩
theorem dE{n:Nat}{f:Fl}(h:eG n (.lst f ds)=true):∃m,n=m+1/\∀d∈ds,eG m d=true:=by
 cases n with
 |zero=>cases h
 |succ m=>exact⟨m,rfl,List.all_eq_true.mp h⟩
theorem uU(I:Inv X pins σ H s){p:Addr}(h:cH X.K H p xs)(h':aN X.K H p ys):False:=by
 obtain⟨aC,_,pl,_⟩:=I.list h;obtain⟨its',_,pt,_⟩:=I.tuple h';exact SeqAt.ne_of_list_tuple pl.isList pt rfl
theorem yD(I:Inv X pins σ H s)(hN:∀q p xs f,N q p (.l xs) f->cH X.K H p xs)(Bk:∀q p xs f,N' q p (.l xs) f->cH X.K H p xs):
  ∀(n:Nat) {k k':aU} {v:V} {d d':D},Rep (aN X.K H) N k v d->Rep (aN X.K H) N' k' v d'->eG n d=true->eG n d'=true->jQ d d'=true:=by
 intro n;induction n with
 |zero =>
  intro k k' v d d' h h' ho eV;cases h with
  |bD=>cases h';rfl
  |bl b=>cases h';exact Z9 b
  |int i=>cases h';exact Z9 i
  |tup _ _=>obtain⟨m,hm,_⟩:=dD ho;left
  |lst _ _=>obtain⟨m,hm,_⟩:=dE ho;left
  |cy _ _=>cases ho
 |succ n ih =>
  have sub:∀{q q':aU} {xs:af} {ds ds':ae},az (aN X.K H) N q 0 xs ds->az (aN X.K H) N' q' 0 xs ds'->(∀d∈ds,eG n d=true)->(∀d∈ds',eG n d=true)->dw ds ds'=true:=by
   intro q q' xs ds ds' r r' ho eV;rw[lS];refine⟨by rw[<- r.length,<- r'.length],λj a b ha hb=>?_⟩;obtain⟨v1,h1,r1⟩:=r.get ha;obtain⟨v2,h2,r2⟩:=r'.get hb;rw[h1]at h2;cases h2;exact ih r1 r2 (ho a (Yz ha)) (eV b (Yz hb))
  intro k k' v d d' h h' ho eV;cases h with
  |bD=>cases h';rfl
  |bl b=>cases h';exact Z9 b
  |int i=>cases h';exact Z9 i
  |tup h r =>
   obtain⟨m,hm,ho⟩:=dD ho;obtain rfl:n=m:=by left
   cases h' with
   |tup h' r' =>
    obtain⟨m,hm,eV⟩:=dD eV;obtain rfl:n=m:=by left
    obtain rfl:=I.mT h h';exact sub r r' ho eV
   |lst h' r'=>exact(uU I (Bk _ _ _ _ h') h).elim
   |cy _ _=>cases eV
  |lst h r =>
   obtain⟨m,hm,ho⟩:=dE ho;obtain rfl:n=m:=by left
   cases h' with
   |tup h' r'=>exact(uU I (hN _ _ _ _ h) h').elim
   |lst h' r' =>
    obtain⟨m,hm,eV⟩:=dE eV;obtain rfl:n=m:=by left
    obtain rfl:=I.fZ (hN _ _ _ _ h) (Bk _ _ _ _ h');exact sub r r' ho eV
   |cy _ _=>cases eV
  |cy _ _=>cases ho
structure Alike(A:ay)(s:Shared)(u u':Value)(b:Bool):Prop where
 eq:SeqAt.EqAt A s u u' b
 rc:SeqAt.RcAt A s u u' b
 ne:SeqAt.RcNeAt A s u u' (!b)
theorem alike(I:Inv X pins σ H s)(hN:∀q p xs f,N q p (.l xs) f->cH X.K H p xs)(Bk:∀q p xs f,N' q p (.l xs) f->cH X.K H p xs):
  ∀(n:Nat) (A:ay) {k k':aU} {v v':V} {u u':Value} {d d':D},Rep (aN X.K H) N k v d->Rep (aN X.K H) N' k' v' d'->eG n d=true->eG n d'=true->RelV v u->RelV v' u'->A.units+n<cLine ->
   Alike A s u u' (jQ d d'):=by
 intro n;induction n with
 |zero =>
  intro A k k' v v' u u' d d' h h' ho eV r r' hu;cases h with
  |tup _ _=>obtain⟨m,hm,_⟩:=dD ho;left
  |lst _ _=>obtain⟨m,hm,_⟩:=dE ho;left
  |cy _ _=>cases ho
  |bD =>
   cases r;cases h' with
   |tup _ _=>obtain⟨m,hm,_⟩:=dD eV;left
   |lst _ _=>obtain⟨m,hm,_⟩:=dE eV;left
   |cy _ _=>cases eV
   |bD=>cases r';exact⟨ZM _,SeqAt.RcAt.none_none,SeqAt.RcNeAt.none_none⟩
   |bl b=>cases r';exact⟨aad b,SeqAt.RcAt.none_bool b,SeqAt.RcNeAt.none_bool b⟩
   |int b=>obtain⟨t,rfl⟩:=r';exact⟨aam b t,SeqAt.RcAt.none_int b t,SeqAt.RcNeAt.none_int b t⟩
  |bl a =>
   cases r;cases h' with
   |tup _ _=>obtain⟨m,hm,_⟩:=dD eV;left
   |lst _ _=>obtain⟨m,hm,_⟩:=dE eV;left
   |cy _ _=>cases eV
   |bD=>cases r';exact⟨aae a,SeqAt.RcAt.bool_none a,SeqAt.RcNeAt.bool_none a⟩
   |bl b=>cases r';exact⟨aaf a b,SeqAt.RcAt.bool_bool a b,SeqAt.RcNeAt.bool_bool a b⟩
   |int b=>obtain⟨t,rfl⟩:=r';exact⟨aan a b t,SeqAt.RcAt.bool_int a b t,SeqAt.RcNeAt.bool_int a b t⟩
  |int a =>
   obtain⟨t',rfl⟩:=r;cases h' with
   |tup _ _=>obtain⟨m,hm,_⟩:=dD eV;left
   |lst _ _=>obtain⟨m,hm,_⟩:=dE eV;left
   |cy _ _=>cases eV
   |bD=>cases r';exact⟨aao a t',SeqAt.RcAt.int_none a t',SeqAt.RcNeAt.int_none a t'⟩
   |bl b=>cases r';exact⟨aap a t' b,SeqAt.RcAt.int_bool a t' b,SeqAt.RcNeAt.int_bool a t' b⟩
   |int b=>obtain⟨t,rfl⟩:=r';exact⟨ZQ a t' b t,SeqAt.RcAt.int_int a t' b t,SeqAt.RcNeAt.int_int a t' b t⟩
 |succ n ih =>
  intro A k k' v v' u u' d d' h h' ho eV r r' hu;have dN:A.units<cLine:=by left
  have V6:A.in1.units+n<cLine:=by show A.units+1+n<cLine;left
  have sub:∀{q q':aU} {xs xs':af} {ds ds':ae} {aC its':ai},az (aN X.K H) N q 0 xs ds->az (aN X.K H) N' q' 0 xs' ds'->(∀d∈ds,eG n d=true)->(∀d∈ds',eG n d=true)->Vals xs aC->Vals xs' its' ->
    ∀(j:Nat) (h1:j<aC.toArray.size) (h2:j<its'.toArray.size),SeqAt.EqAt A.in1 s aC.toArray[j] its'.toArray[j] (Nn ds ds' j):=by
   intro q q' xs xs' ds ds' aC its' rs hX hd HM rv xC j h1 h2;have l1:ds.length=aC.length:=by rw[<- rs.length,rv.length]
   have l2:ds'.length=its'.length:=by rw[<- hX.length,xC.length]
   simp only[List.size_toArray]at h1 h2;have ea:ds[j]?=some ds[j]:=Yw (by left);have eb:ds'[j]?=some ds'[j]:=Yw (by left);obtain⟨w1,g1,p1⟩:=rs.get ea;obtain⟨w2,g2,p2⟩:=hX.get eb;obtain⟨u1,k1,z1⟩:=rv.get g1;obtain⟨u2,k2,z2⟩:=xC.get g2;have:=(ih A.in1 p1 p2 (hd _ (Y4 _)) (HM _ (Y4 _)) z1 z2 V6).eq;unfold Nn;rw[ea,eb];rw[List.getElem?_eq_getElem h1]at k1;rw[List.getElem?_eq_getElem h2]at k2;cases k1;cases k2;simpa using this
  cases h with
  |bD =>
   cases r;cases h' with
   |cy _ _=>cases eV
   |bD=>cases r';exact⟨ZM _,SeqAt.RcAt.none_none,SeqAt.RcNeAt.none_none⟩
   |bl b=>cases r';exact⟨aad b,SeqAt.RcAt.none_bool b,SeqAt.RcNeAt.none_bool b⟩
   |int b=>obtain⟨t,rfl⟩:=r';exact⟨aam b t,SeqAt.RcAt.none_int b t,SeqAt.RcNeAt.none_int b t⟩
   |tup h' rr=>cases r';obtain⟨aC,_,pt,_⟩:=I.tuple h';exact⟨SeqAt.EqAt.none_tuple pt dN,SeqAt.RcAt.none_tuple pt dN,SeqAt.RcNeAt.none_tuple pt dN⟩
   |lst h' rr=>cases r';obtain⟨aC,_,pt,_⟩:=I.list (Bk _ _ _ _ h');exact⟨SeqAt.EqAt.none_list pt.isList dN,SeqAt.RcAt.none_list pt.isList dN,SeqAt.RcNeAt.none_list pt.isList dN⟩
  |bl a =>
   cases r;cases h' with
   |cy _ _=>cases eV
   |bD=>cases r';exact⟨aae a,SeqAt.RcAt.bool_none a,SeqAt.RcNeAt.bool_none a⟩
   |bl b=>cases r';exact⟨aaf a b,SeqAt.RcAt.bool_bool a b,SeqAt.RcNeAt.bool_bool a b⟩
   |int b=>obtain⟨t,rfl⟩:=r';exact⟨aan a b t,SeqAt.RcAt.bool_int a b t,SeqAt.RcNeAt.bool_int a b t⟩
   |tup h' rr=>cases r';obtain⟨aC,_,pt,_⟩:=I.tuple h';exact⟨SeqAt.EqAt.bool_tuple a pt dN,SeqAt.RcAt.bool_tuple a pt dN,SeqAt.RcNeAt.bool_tuple a pt dN⟩
   |lst h' rr=>cases r';obtain⟨aC,_,pt,_⟩:=I.list (Bk _ _ _ _ h');exact⟨SeqAt.EqAt.bool_list a pt.isList dN,SeqAt.RcAt.bool_list a pt.isList dN,SeqAt.RcNeAt.bool_list a pt.isList dN⟩
  |int a =>
   obtain⟨t',rfl⟩:=r;cases h' with
   |cy _ _=>cases eV
   |bD=>cases r';exact⟨aao a t',SeqAt.RcAt.int_none a t',SeqAt.RcNeAt.int_none a t'⟩
   |bl b=>cases r';exact⟨aap a t' b,SeqAt.RcAt.int_bool a t' b,SeqAt.RcNeAt.int_bool a t' b⟩
   |int b=>obtain⟨t,rfl⟩:=r';exact⟨ZQ a t' b t,SeqAt.RcAt.int_int a t' b t,SeqAt.RcNeAt.int_int a t' b t⟩
   |tup h' rr=>cases r';obtain⟨aC,_,pt,_⟩:=I.tuple h';exact⟨SeqAt.EqAt.int_tuple a t' pt dN,SeqAt.RcAt.int_tuple a t' pt dN,SeqAt.RcNeAt.int_tuple a t' pt dN⟩
   |lst h' rr=>cases r';obtain⟨aC,_,pt,_⟩:=I.list (Bk _ _ _ _ h');exact⟨SeqAt.EqAt.int_list a t' pt.isList dN,SeqAt.RcAt.int_list a t' pt.isList dN,SeqAt.RcNeAt.int_list a t' pt.isList dN⟩
  | @tup _ p xs ds h rs =>
   cases r;obtain⟨aC,rv,pt,_⟩:=I.tuple h;have pt:s.heap.IsTuple p aC.toArray:=pt;cases h' with
   |cy _ _=>cases eV
   |bD=>cases r';exact⟨SeqAt.EqAt.tuple_none pt dN,SeqAt.RcAt.tuple_none pt dN,SeqAt.RcNeAt.tuple_none pt dN⟩
   |bl b=>cases r';exact⟨SeqAt.EqAt.tuple_bool b pt dN,SeqAt.RcAt.tuple_bool b pt dN,SeqAt.RcNeAt.tuple_bool b pt dN⟩
   |int b=>obtain⟨t,rfl⟩:=r';exact⟨SeqAt.EqAt.tuple_int b t pt dN,SeqAt.RcAt.tuple_int b t pt dN,SeqAt.RcNeAt.tuple_int b t pt dN⟩
   |lst h' rr=>cases r';obtain⟨its',_,pl,_⟩:=I.list (Bk _ _ _ _ h');exact⟨SeqAt.EqAt.tuple_list pt pl.isList dN,SeqAt.RcAt.tuple_list pt pl.isList dN,SeqAt.RcNeAt.tuple_list pt pl.isList dN⟩
   | @tup _ p' xs' ds' h' hX =>
    cases r';obtain⟨m,hm,xH⟩:=dD ho;obtain rfl:n=m:=by left
    obtain⟨m,hm,rR⟩:=dD eV;obtain rfl:n=m:=by left
    obtain⟨its',xC,Of,_⟩:=I.tuple h';have Of:s.heap.IsTuple p' its'.toArray:=Of;have key:=sub rs hX xH rR rv xC;have l1:ds.length=aC.toArray.size:=by rw[List.size_toArray,<- rs.length,rv.length]
    have l2:ds'.length=its'.toArray.size:=by rw[List.size_toArray,<- hX.length,xC.length]
    have rc:SeqAt.RcAt A s (.ref p) (.ref p') (jQ (.tup ds) (.tup ds')):=by
     have:=SeqAt.RcAt.tuples pt Of dN key;rw[<- l1,<- l2,iq]at this;exact this
    refine⟨?_,rc,?_⟩
    ·by_cases hp:p=p'
     ·subst hp;rw[yD I hN Bk (n+1) (Rep.tup h rs) (Rep.tup h' hX) ho eV];exact ZM _
     ·exact SeqAt.EqAt.of_refs hp rc
    ·have:=SeqAt.RcNeAt.tuples pt Of dN key;rw[<- l1,<- l2,iq]at this;exact this
  | @lst _ p xs f ds h rs =>
   cases r;obtain⟨aC,rv,pl,_⟩:=I.list (hN _ _ _ _ h);have pl:=pl.isList;cases h' with
   |cy _ _=>cases eV
   |bD=>cases r';exact⟨SeqAt.EqAt.list_none pl dN,SeqAt.RcAt.list_none pl dN,SeqAt.RcNeAt.list_none pl dN⟩
   |bl b=>cases r';exact⟨SeqAt.EqAt.list_bool b pl dN,SeqAt.RcAt.list_bool b pl dN,SeqAt.RcNeAt.list_bool b pl dN⟩
   |int b=>obtain⟨t,rfl⟩:=r';exact⟨SeqAt.EqAt.list_int b t pl dN,SeqAt.RcAt.list_int b t pl dN,SeqAt.RcNeAt.list_int b t pl dN⟩
   |tup h' rr=>cases r';obtain⟨its',_,pt,_⟩:=I.tuple h';exact⟨SeqAt.EqAt.list_tuple pl pt dN,SeqAt.RcAt.list_tuple pl pt dN,SeqAt.RcNeAt.list_tuple pl pt dN⟩
   | @lst _ p' xs' f' ds' h' hX =>
    cases r';obtain⟨m,hm,xH⟩:=dE ho;obtain rfl:n=m:=by left
    obtain⟨m,hm,rR⟩:=dE eV;obtain rfl:n=m:=by left
    obtain⟨its',xC,Ep,_⟩:=I.list (Bk _ _ _ _ h');have Ep:=Ep.isList;have key:=sub rs hX xH rR rv xC;have l1:ds.length=aC.toArray.size:=by rw[List.size_toArray,<- rs.length,rv.length]
    have l2:ds'.length=its'.toArray.size:=by rw[List.size_toArray,<- hX.length,xC.length]
    have two:SeqAt.RcAt A s (.ref p) (.ref p') (jQ (.lst f ds) (.lst f' ds'))/\SeqAt.RcNeAt A s (.ref p) (.ref p') (!jQ (.lst f ds) (.lst f' ds')):=by
     show SeqAt.RcAt A s (.ref p) (.ref p') (dw ds ds')/\SeqAt.RcNeAt A s (.ref p) (.ref p') (!dw ds ds');rw[<- iq];by_cases hl:ds.length=ds'.length
     ·have e1:(ds.length==ds'.length)=true:=by simp[hl]
      rw[e1,Bool.and_true,<- hl,Nat.min_self];have hz:aC.toArray.size=its'.toArray.size:=by rw[<- l1,<- l2,hl]
      refine⟨?_,?_⟩
      ·have:=SeqAt.RcAt.lists pl Ep hz dN key;rw[<- l1]at this;exact this
      ·have:=SeqAt.RcNeAt.lists pl Ep hz dN key;rw[<- l1]at this;exact this
     ·have e1:(ds.length==ds'.length)=false:=by simp[hl]
      rw[e1,Bool.and_false];have hz:(aC.toArray.size != its'.toArray.size)=true:=by rw[<- l1,<- l2];simp[hl]
      exact⟨SeqAt.RcAt.lists_lengths pl Ep hz dN,SeqAt.RcNeAt.lists_lengths pl Ep hz dN⟩
    refine⟨?_,two.1,two.2⟩;by_cases hp:p=p'
    ·subst hp;rw[yD I hN Bk (n+1) (Rep.lst h rs) (Rep.lst h' hX) ho eV];exact ZM _
    ·exact SeqAt.EqAt.of_refs hp two.1
  |cy _ _=>cases ho
end
structure Px where
 pe:Nat->Scope->aw->Expr->Option (au)
 pi:Nat->Scope->aw->Expr->Option (au)
 pm:Nat->Scope->aw->Stmt->Option (Expr×au)
structure Sx where
 sc:Scope
 N:aw
 fn:Nat->Option Str
 bl:aw
 cs:List (Str×GK)
 px:Px
noncomputable def Lv:D3->Operator
 |.add=>.Add|.sub=>.Sub|.mul=>.Mult|.fdiv=>.FloorDiv|.mod=>.Mod|.pow=>.Pow
noncomputable def Qv:xR->CmpOp
 |.eq=>.Eq|.ne=>.NotEq|.lt=>.Lt|.le=>.LtE|.gt=>.Gt|.ge=>.GtE|.Hv=>.Is|.y_=>.IsNot|.wQ=>.In|.zh=>.NotIn
noncomputable def tyName:Ty->String
 |.int=>"int" |.bool=>"bool" |.list=>"list" |.tuple=>"tuple"
noncomputable def pH:Bf->String
 |.len=>"len" |.abs=>"abs" |.min2=>"min" |.list1=>"list" |.tuple1=>"tuple" |.n9=>"sum" |.all1=>"all" |.gE=>"sorted"
noncomputable def Fx(sc:Scope)(x:Str):Bool:=decide (sc.names.lookup x=some .local)||decide (sc.names.lookup x=some .cell)||decide (sc.names.lookup x=some .free)
noncomputable def mF(sc:Scope)(x:Str):Bool:=decide (sc.names.lookup x=some .globalImplicit)
noncomputable def jV(x:Str):Bool:=!(x==("__debug__" : Str))&&!(x==("__classdict__" : Str))&&decide (x≠("__name__" : Str))
noncomputable def nh:Expr->Bool
 |.Set _ _ _=>false
 |_=>true
noncomputable def qx(sc outer:Scope):Scope :=
 { sc with names:=sc.names.map λ(n,k)=>if (k==.free&&outer.kind==.function&&outer.names.lookup n==some .cell)then(n,.cell)else(n,k) }
noncomputable def bI:Expr->aw
 |.Name x _=>[x]
 |.Tuple es _ _=>es.filterMap λe=>match e with|.Name x _=>some x|_=>none
 |_=>[]
noncomputable def eJ(S:Sx)(caps:aF):aw:=caps.filterMap λi=>S.N[i]?
def Sx.inner(S:Sx)(target:Expr)(caps:aF)(sc:Scope):Sx:=⟨qx sc S.sc,bI target++eJ S caps,S.fn,S.bl,S.cs,S.px⟩
noncomputable def fj:Expr->Bool
 |.Tuple _ _ _=>true
 |_=>false
noncomputable def isNm(e:Expr):Bool:=decide (e.ctorIdx=23)
theorem km{e:Expr}(h:isNm e=true):∃x p,e=.Name x p:=Expr.Name.elim (motive_1:=λe=>∃x p,e=.Name x p) e (Yn h) λx p=>⟨x,p,rfl⟩
noncomputable def VL:Expr->Bool
 |.Call ..=>true
 |.BinOp ..=>true
 |.Subscript ..=>true
 |.Compare ..=>true
 |.Dict ..=>true
 |_=>false
noncomputable def Oi:Expr->Bool
 |.Call ..=>true
 |.Name ..=>true
 |_=>false
theorem aH{a b:Bool}(h:(a&&b)=true):a=true/\b=true:=by
 cases a<;>cases b<;>first|exact⟨rfl,rfl⟩|cases h
noncomputable def bh{α:Type}(o:Option α)(f:α->Bool):Bool:=match o with
 |some a=>f a
 |none=>false
theorem bo{α:Type}{o:Option α}{f:α->Bool}(h:bh o f=true):∃a,o=some a/\f a=true:=by
 cases o with
 |some a=>exact⟨a,rfl,h⟩
 |none=>cases h
theorem dI{α:Type}{c:Prop}[Decidable c]{f:c->Option α}{x:α}(h:(if h:c then f h else none)=some x):∃k:c,f k=some x:=by
 by_cases k:c
 ·rw[dif_pos k]at h;exact⟨k,h⟩
 ·rw[dif_neg k]at h;cases h
theorem bT{α β:Type}{o:Option α}{f:α->Option β}{b:β}(h:o.bind f=some b):∃a,o=some a/\f a=some b:=Option.bind_eq_some_iff.mp h
theorem gT{α:Type}{c:Prop}[Decidable c]{o:Option α}{b:α}(h:(if c then o else none)=some b):c/\o=some b:=by
 by_cases k:c
 ·rw[if_pos k]at h;exact⟨k,h⟩
 ·rw[if_neg k]at h;cases h
noncomputable def vC(e:Expr):Option Const:=if h:e.ctorIdx=19 then Expr.Constant.elim (motive_1:=λ_=>Option Const) e h (λc _ _=>some c)else none
theorem x9{e:Expr}{c:Const}(h:vC e=some c):∃j p,e=.Constant c j p:=by
 obtain⟨k,h⟩:=dI h;exact Expr.Constant.elim (motive_1:=λe=>∀k:e.ctorIdx=19,Expr.Constant.elim (motive_1:=λ_=>Option Const) e k (λc _ _=>some c)=some c->∃j p,e=.Constant c j p) e k (λ_ _ _ _ h=>by cases h;exact⟨_,_,rfl⟩) k h
noncomputable def zQ:Const->Bool
 |.none=>true
 |_=>false
theorem wK{c:Const}(h:zQ c=true):c=.none:=by cases c<;>first|rfl|cases h
noncomputable def EF(b:Bool):Const->Bool
 |.bool c=>decide (b=c)
 |_=>false
theorem zS{b:Bool}{c:Const}(h:EF b c=true):c=.bool b:=by cases c<;>first | (cases h;done)|rw[of_decide_eq_true h]
noncomputable def zR(b:Int):Const->Bool
 |.int c=>decide (b=c)
 |_=>false
theorem wL{b:Int}{c:Const}(h:zR b c=true):c=.int b:=by cases c<;>first | (cases h;done)|rw[of_decide_eq_true h]
noncomputable def Ht(b:Str):Const->Bool
 |_=>false
theorem JF{b:Str}{c:Const}(h:Ht b c=true):c=.str b:=by cases c<;>first | (cases h;done)|rw[of_decide_eq_true h]
noncomputable def J4(e:Expr):Option Str:=if h:e.ctorIdx=23 then Expr.Name.elim (motive_1:=λ_=>Option Str) e h (λx _=>some x)else none
theorem kT{e:Expr}{x:Str}(h:J4 e=some x):∃p,e=.Name x p:=by
 obtain⟨k,h⟩:=dI h;exact Expr.Name.elim (motive_1:=λe=>∀k:e.ctorIdx=23,Expr.Name.elim (motive_1:=λ_=>Option Str) e k (λx _=>some x)=some x->∃p,e=.Name x p) e k (λ_ _ _ h=>by cases h;exact⟨_,rfl⟩) k h
noncomputable def J_(e:Expr):Option (Expr×Operator×Expr):=if h:e.ctorIdx=2 then Expr.BinOp.elim (motive_1:=λ_=>Option (Expr×Operator×Expr)) e h (λl o r _=>some (l,o,r))else none
theorem BD{e l r:Expr}{o:Operator}(h:J_ e=some (l,o,r)):∃p,e=.BinOp l o r p:=by
 obtain⟨k,h⟩:=dI h;exact Expr.BinOp.elim (motive_1:=λe=>∀k:e.ctorIdx=2,Expr.BinOp.elim (motive_1:=λ_=>Option (Expr×Operator×Expr)) e k (λl o r _=>some (l,o,r))=some (l,o,r)->∃p,e=.BinOp l o r p) e k (λ_ _ _ _ _ h=>by cases h;exact⟨_,rfl⟩) k h
noncomputable def Pm(e:Expr):Option (UnaryOp×Expr):=if h:e.ctorIdx=3 then Expr.UnaryOp.elim (motive_1:=λ_=>Option (UnaryOp×Expr)) e h (λo e _=>some (o,e))else none
theorem x4{e x:Expr}{o:UnaryOp}(h:Pm e=some (o,x)):∃p,e=.UnaryOp o x p:=by
 obtain⟨k,h⟩:=dI h;exact Expr.UnaryOp.elim (motive_1:=λe=>∀k:e.ctorIdx=3,Expr.UnaryOp.elim (motive_1:=λ_=>Option (UnaryOp×Expr)) e k (λo e _=>some (o,e))=some (o,x)->∃p,e=.UnaryOp o x p) e k (λ_ _ _ _ h=>by cases h;exact⟨_,rfl⟩) k h
noncomputable def vBool(e:Expr):Option (BoolOp×au):=if h:e.ctorIdx=0 then Expr.BoolOp.elim (motive_1:=λ_=>Option (BoolOp×au)) e h (λo vs _=>some (o,vs))else none
theorem pW{e:Expr}{o:BoolOp}{vs:au}(h:vBool e=some (o,vs)):∃p,e=.BoolOp o vs p:=by
 obtain⟨k,h⟩:=dI h;exact Expr.BoolOp.elim (motive_1:=λe=>∀k:e.ctorIdx=0,Expr.BoolOp.elim (motive_1:=λ_=>Option (BoolOp×au)) e k (λo vs _=>some (o,vs))=some (o,vs)->∃p,e=.BoolOp o vs p) e k (λ_ _ _ _ h=>by cases h;exact⟨_,rfl⟩) k h
noncomputable def S3(e:Expr):Option (Expr×Expr×Expr):=if h:e.ctorIdx=5 then Expr.IfExp.elim (motive_1:=λ_=>Option (Expr×Expr×Expr)) e h (λt x y _=>some (t,x,y))else none
theorem Fz{e t x y:Expr}(h:S3 e=some (t,x,y)):∃p,e=.IfExp t x y p:=by
 obtain⟨k,h⟩:=dI h;exact Expr.IfExp.elim (motive_1:=λe=>∀k:e.ctorIdx=5,Expr.IfExp.elim (motive_1:=λ_=>Option (Expr×Expr×Expr)) e k (λt x y _=>some (t,x,y))=some (t,x,y)->∃p,e=.IfExp t x y p) e k (λ_ _ _ _ _ h=>by cases h;exact⟨_,rfl⟩) k h
noncomputable def one{α:Type}:List α->Option α
 |[]=>none
 |x::xs=>match xs with
  |[]=>some x
  |_::_=>none
theorem cU{α:Type}{l:List α}{x:α}(h:one l=some x):l=[x]:=by
 cases l with
 |nil=>cases h
 |cons y ys=>cases ys with
  |nil=>cases h;rfl
  |cons _ _=>cases h
def two{α:Type}:List α->Option (α×α)
 |[]=>none
 |x::xs=>(one xs).map λy=>(x,y)
theorem hJ{α:Type}{l:List α}{x y:α}(h:two l=some (x,y)):l=[x,y]:=by
 cases l with
 |nil=>cases h
 |cons z zs=>cases zs with
  |nil=>cases h
  |cons w ws=>cases ws with
   |nil=>cases h;rfl
   |cons _ _=>cases h
noncomputable def Po{α:Type}:List α->Option (α×List α)
 |[]=>none
 |x::xs=>some (x,xs)
theorem yd{α:Type}{l xs:List α}{x:α}(h:Po l=some (x,xs)):l=x::xs:=by
 cases l with
 |nil=>cases h
 |cons y ys=>cases h;rfl
noncomputable def J9(e:Expr):Option (Expr×List CmpOp×au):=if h:e.ctorIdx=15 then Expr.Compare.elim (motive_1:=λ_=>Option (Expr×List CmpOp×au)) e h (λl os rs _=>some (l,os,rs))else none
theorem BC{e l:Expr}{os:List CmpOp}{rs:au}(h:J9 e=some (l,os,rs)):∃p,e=.Compare l os rs p:=by
 obtain⟨k,h⟩:=dI h;exact Expr.Compare.elim (motive_1:=λe=>∀k:e.ctorIdx=15,Expr.Compare.elim (motive_1:=λ_=>Option (Expr×List CmpOp×au)) e k (λl os rs _=>some (l,os,rs))=some (l,os,rs)->∃p,e=.Compare l os rs p) e k (λ_ _ _ _ _ h=>by cases h;exact⟨_,rfl⟩) k h
noncomputable def x8(e:Expr):Option (Expr×au×List Keyword):=if h:e.ctorIdx=16 then Expr.Call.elim (motive_1:=λ_=>Option (Expr×au×List Keyword)) e h (λf as ks _=>some (f,as,ks))else none
theorem v_{e f:Expr}{as:au}{ks:List Keyword}(h:x8 e=some (f,as,ks)):∃p,e=.Call f as ks p:=by
 obtain⟨k,h⟩:=dI h;exact Expr.Call.elim (motive_1:=λe=>∀k:e.ctorIdx=16,Expr.Call.elim (motive_1:=λ_=>Option (Expr×au×List Keyword)) e k (λf as ks _=>some (f,as,ks))=some (f,as,ks)->∃p,e=.Call f as ks p) e k (λ_ _ _ _ _ h=>by cases h;exact⟨_,rfl⟩) k h
def iN(e:Expr):Option (Str×au):=(x8 e).bind λz=>if z.2.2.isEmpty=true then(J4 z.1).bind λx=>some (x,z.2.1)else none
theorem G5{α:Type}{l:List α}(h:l.isEmpty=true):l=[]:=List.isEmpty_iff.mp h
theorem dQ{e:Expr}{x:Str}{as:au}(h:iN e=some (x,as)):∃p pos,e=.Call (.Name x p) as [] pos:=by
 obtain⟨⟨f,U3,ks⟩,hv,h⟩:=bT h;obtain⟨hc,h⟩:=gT h;obtain⟨y,hn,h⟩:=bT h;cases h;obtain⟨pos,rfl⟩:=v_ hv;obtain⟨p,rfl⟩:=kT hn;obtain rfl:=G5 hc;exact⟨p,pos,rfl⟩
noncomputable def pU(e:Expr):Option (Expr×Expr):=if h:e.ctorIdx=21 then Expr.Subscript.elim (motive_1:=λ_=>Option (Expr×Expr)) e h (λa b _=>some (a,b))else none
theorem gy{e a b:Expr}(h:pU e=some (a,b)):∃p,e=.Subscript a b p:=by
 obtain⟨k,h⟩:=dI h;exact Expr.Subscript.elim (motive_1:=λe=>∀k:e.ctorIdx=21,Expr.Subscript.elim (motive_1:=λ_=>Option (Expr×Expr)) e k (λa b _=>some (a,b))=some (a,b)->∃p,e=.Subscript a b p) e k (λ_ _ _ _ h=>by cases h;exact⟨_,rfl⟩) k h
noncomputable def v9(e:Expr):Option (au):=if h:e.ctorIdx=25 then Expr.Tuple.elim (motive_1:=λ_=>Option (au)) e h (λes _ _=>some es)else none
theorem iM{e:Expr}{es:au}(h:v9 e=some es):∃n p,e=.Tuple es n p:=by
 obtain⟨k,h⟩:=dI h;exact Expr.Tuple.elim (motive_1:=λe=>∀k:e.ctorIdx=25,Expr.Tuple.elim (motive_1:=λ_=>Option (au)) e k (λes _ _=>some es)=some es->∃n p,e=.Tuple es n p) e k (λ_ _ _ _ h=>by cases h;exact⟨_,_,rfl⟩) k h
noncomputable def J5(e:Expr):Option (au):=if h:e.ctorIdx=24 then Expr.List.elim (motive_1:=λ_=>Option (au)) e h (λes _=>some es)else none
theorem By{e:Expr}{es:au}(h:J5 e=some es):∃p,e=.List es p:=by
 obtain⟨k,h⟩:=dI h;exact Expr.List.elim (motive_1:=λe=>∀k:e.ctorIdx=24,Expr.List.elim (motive_1:=λ_=>Option (au)) e k (λes _=>some es)=some es->∃p,e=.List es p) e k (λ_ _ _ h=>by cases h;exact⟨_,rfl⟩) k h
noncomputable def D5(e:Expr):Option (Expr×List Comprehension×Scope):=if h:e.ctorIdx=8 then Expr.ListComp.elim (motive_1:=λ_=>Option (Expr×List Comprehension×Scope)) e h (λe gs sc _=>some (e,gs,sc))else none
theorem x6{e x:Expr}{gs:List Comprehension}{sc:Scope}(h:D5 e=some (x,gs,sc)):∃p,e=.ListComp x gs sc p:=by
 obtain⟨k,h⟩:=dI h;exact Expr.ListComp.elim (motive_1:=λe=>∀k:e.ctorIdx=8,Expr.ListComp.elim (motive_1:=λ_=>Option (Expr×List Comprehension×Scope)) e k (λe gs sc _=>some (e,gs,sc))=some (x,gs,sc)->∃p,e=.ListComp x gs sc p) e k (λ_ _ _ _ _ h=>by cases h;exact⟨_,rfl⟩) k h
theorem jN{a:Bool}(h:(!a)=true):a=false:=by cases a<;>first|rfl|cases h
def pA(S:Sx)(n:Nat)(t:Tg)(caps:aF)(target:Expr)(sc:Scope):Bool :=
 decide (sc.kind=.function)&&sc.names.all (λ(x,k)=>decide (k≠.cell)&&(decide (k≠.local)||decide (sc.names.lookup x=some .local))&&(decide (k≠.free)||decide (S.sc.names.lookup x=some .cell)||decide (S.sc.names.lookup x=some .free))) &&
 decide (n=(bI target).length)&&(bI target).all (λx=>decide (sc.names.lookup x=some .local))&&decide (bI target++eJ S caps).Nodup &&
 caps.all (λi=>match S.N[i]? with|some x=>decide (sc.names.lookup x=some .free)|none=>false) &&
 (match t with
  |.nm i=>decide (i=0)&&isNm target
  |.tp is=>bh (v9 target) λes=>decide (is=List.range es.length)&&es.all isNm)
mutual
noncomputable def bL(S:Sx):CE->Expr->Bool
 |.cj p es,e0=>VL e0&&bh (S.px.pe p S.sc S.bl e0) λxs=>bG S es xs
 |.bD,e0=>bh (vC e0) λc=>zQ c
 |.bl b,e0=>bh (vC e0) λc=>EF b c
 |.int i,e0=>bh (vC e0) λc=>zR i c
 |.v i,e0=>bh (J4 e0) λx=>decide (S.N[i]?=some x)&&Fx S.sc x&&jV x
 |.glo x i,e0=>bh (J4 e0) λy=>decide (y=x)&&mF S.sc x&&decide ((x,GK.i i)∈S.cs)&&!(x==("__debug__" : Str))
 |.bin op a b,e0=>bh (J_ e0) λz=>decide (z.2.1=Lv op)&&bL S a z.1&&bL S b z.2.2
 |.neg a,e0=>bh (Pm e0) λz=>decide (z.1=.USub)&&bL S a z.2
 |.not a,e0=>bh (Pm e0) λz=>decide (z.1=.Not)&&bL S a z.2
 |.and es,e0=>bh (vBool e0) λz=>decide (z.1=.And)&&bG S es z.2
 |.or es,e0=>bh (vBool e0) λz=>decide (z.1=.Or)&&bG S es z.2
 |.ite c a b,e0=>bh (S3 e0) λz=>bL S c z.1&&bL S a z.2.1&&bL S b z.2.2
 |.cmp op a b,e0=>bh (J9 e0) λz=>decide (z.2.1=[Qv op])&&bL S a z.1&&bh (one z.2.2) λr=>bL S b r&&nh r
 |.vc a t,e0=>bh (iN e0) λz=>decide (z.1=("isinstance" : Str))&&mF S.sc z.1&&decide (z.1∈S.bl)&&bh (two z.2) λy=>bL S a y.1&&bh (J4 y.2) λx=>decide (x=(tyName t:Str))&&mF S.sc x&&decide (x∈S.bl)
 |.call f es,e0=>bh (iN e0) λz=>decide (S.fn f=some z.1)&&mF S.sc z.1&&jV z.1&&bh (Po z.2) λy=>bG S es (y.1::y.2)
 |.bf f es,e0=>bh (iN e0) λz=>decide (z.1=(pH f:Str))&&mF S.sc z.1&&decide (z.1∈S.bl)&&bh (Po z.2) λy=>bG S es (y.1::y.2)
 |.ix a b,e0=>bh (pU e0) λz=>bL S a z.1&&bL S b z.2
 |.tup es,e0=>bh (v9 e0) λxs=>bG S es xs&&decide (es.length<=1000)
 |.lst es,e0=>bh (J5 e0) λxs=>bG S es xs&&decide (es.length<=1000)
 |.comp n t caps ik es bx elt,e0=>bh (D5 e0) λz=>bh (one z.2.1) λg=>decide (g.is_async=0)&&pA S n t caps g.target z.2.2&&nh g.iter&&decide (bx.length<=1)&&bG (S.inner g.target caps z.2.2) bx g.ifs&&bL (S.inner g.target caps z.2.2) elt z.1 &&
     (match ik with
      |.jr=>bh (iN g.iter) λw=>decide (w.1=("range" : Str))&&mF S.sc w.1&&decide (w.1∈S.bl)&&bh (one w.2) λy=>bG S es [y]
      |.seq=>bG S es [g.iter]
      |.cj p=>Oi g.iter&&(decide (1100<=p)||fj g.target)&&bh (S.px.pi p S.sc S.bl g.iter) λxs=>bG S es xs)
noncomputable def bG(S:Sx):aA->au->Bool
 |[],es=>match es with
  |[]=>true
  |_::_=>false
 |c::cs,es=>match es with
  |[]=>false
  |e::es=>bL S c e&&bG S cs es
end
def BV(K:ao)(n:Nat)(m:aE):Sp:=λvs H Q _=>∃(F:ag) (ds:ae) (r:D),vs.length=n/\az (aN K H) (nd K F (λ_=>False) (λ_=>none) H) [] 0 vs ds/\m ds=ok r /\
 ∀v H',aG H H'->(∃τt:Addr->Option aU,(∀p q,τt p=some q->H p=none)/\Rep (aN K H') (nd K (λp=>F p\/H p=none) (λ_=>False) τt H') [] v r)->Q v H'
structure Js(X:Cx)(k:Nat)(x:Str)(m:aE):Prop where
 ex:∃(f:Addr) (fd:FuncData) (ps:aw),gO X.prog X.w X.K X.mg X.base xQ k f fd ps (BV X.K ps.length m)/\X.mg x=some (.ref f)/\PySem.W.keepIn X.K (.ref f)=true/\Binds X.K fd ps []/\∀ds r,m ds=ok r->ds.length=ps.length
noncomputable def kinds:List String:=["NoneType","bool","int","str","list","tuple","dict"]
def L_:Ty->String->Bool
 |.int,s=>s == "int" ||s == "bool"
 |t,s=>s==tyName t
theorem aG.upd{H:Hp}{p:Addr}{o:HO}(h:H p=none):aG H (upd H p o):=λb u e=>by
 rw[aS (by rintro rfl;rw[h]at e;cases e)];exact e
theorem zm{i j:Int}(h:fD i j=true):IntMulOk i j:=by
 unfold fD at h;simp only[Bool.or_eq_true,Bool.and_eq_true,decide_eq_true_eq]at h;rcases h with (h|h)|⟨h1,h2⟩
 ·exact .of_left (intBits_le h)
 ·exact .of_right (intBits_le h)
 ·have b1:Builtin.Int.intBits i<=9000:=intBits_le h1;have b2:Builtin.Int.intBits j<=9000:=intBits_le h2;unfold IntMulOk;have hb:Builtin.Int.intTooBig ((Builtin.Int.intBits i:Int)+(Builtin.Int.intBits j:Int))=false:=by
   unfold Builtin.Int.intTooBig;have:(bitsLine:Int)=134217728:=by decide
   exact Zg (by left)
  rw[hb];simp
section
variable {K:ao}{R:ag}{τ τt:Addr->Option aU}{fv:aF}{H H':Hp}
theorem Ct:iI X (binaryOp .Add) (λx y H Q=>∃a b xs ys,x=.ref a/\y=.ref b/\aN X.K H a xs/\aN X.K H b ys/\xs.length+ys.length<=sizeLine/\(xs=[]->Q (.ref b) H)/\(ys=[]->Q (.ref a) H)/\∀p,H p=none->Q (.ref p) (upd H p (.tup (xs++ys)))):=by
 intro pins s σ H x y v u Q I rx ry h;obtain⟨a,b,xs,ys,rfl,rfl,ha,hb,hz,q0,q1,q2⟩:=h;cases rx;cases ry;by_cases hx:xs=[]
 ·subst hx;obtain⟨aC,r1,p1,_⟩:=I.tuple ha;obtain⟨zJ,r2,p2,_⟩:=I.tuple hb;cases r1;obtain⟨⟨cls,dd,data,sl⟩,ho,hc,n,hd⟩:=id p1;obtain⟨⟨Jc,Bm,data2,Bc⟩,rR,hc2,n2,hd2⟩:=id p2;simp only at hc hd hc2 hd2;subst hc hd hc2 hd2;exact concat_meets ⟨_,ho,rfl⟩ ⟨_,rR,rfl⟩ noFill_tuple_add seq_tuple_add ZY ZU (ZR _ _)
   (tuple_addW0 a b [].toArray zJ.toArray n n2 dd Bm sl Bc rfl) ⟨ho,rR,⟨.ref b,H,I,rfl,q0 rfl⟩⟩
 ·exact Cs pins s σ H (.ref a) (.ref b) _ _ Q I rfl rfl ⟨a,b,xs,ys,rfl,rfl,ha,hb,hx,hz,q1,λ_=>q2⟩
theorem nd.ra(k k':aU)(p:Addr)(xs:Nd)(f:Fl)(h:nd K R A (λ_=>none) H k p xs f):nd K R A (λ_=>none) H k' p xs f:=by
 cases f with
 |ow=>exact nomatch h.2
 |fz=>exact h
 |al=>exact h
 |sc=>exact h
theorem LF(Si:SI X F R τ ρ σ H)(fr:∀p q,τt p=some q->H p=none)(k k':aU)(p:Addr)(xs:Nd)(f:Fl)(h:nd K R (iy (gP X F) τ fv) τt H' k p xs f):
  nd K R (iy (gP X F) τ fv) (λ_=>none) H' k' p xs (bH f):=by
 cases f with
 |ow=>exact⟨h.1,.inr (Si.same.free (fr p _ h.2)),λc i e=>absurd (fr p _ h.2) (Si.th p _ e)⟩
 |fz=>exact h
 |al=>exact h
 |sc=>exact h
theorem az.fF{k:aU}{n:Nat}(h:az (aN K H') (nd K R (iy (gP X F) τ fv) τt H') k n xs ds)(Si:SI X F R τ ρ σ H)(fr:∀p q,τt p=some q->H p=none){n':Nat}:
  az (aN K H') (nd K R (iy (gP X F) τ fv) (λ_=>none) H') k' n' xs (aD bH ds):=az.ie (λ_ _ h=>h) (LF Si fr) h _ _
theorem Rep.fF{k:aU}{v:V}{d:D}(h:Rep (aN K H') (nd K R (iy (gP X F) τ fv) τt H') k v d)(Si:SI X F R τ ρ σ H)(fr:∀p q,τt p=some q->H p=none):
  Rep (aN K H') (nd K R (iy (gP X F) τ fv) (λ_=>none) H') k' v (aZ bH d):=Rep.ie (λ_ _ h=>h) (LF Si fr) h _
theorem bM.qJ{p:Addr}(hp:H p=none)(e:aG H H')(hl:H' p=some (.lst xs))(r:az (aN K H') (nd K R (iy G τ fv) (λ_=>none) H') [] 0 xs ds):bM K G R τ fv H H' (.ref p) (.lst .ow ds):=by
 refine⟨λq=>if q=p then some []else none,λq k hq=>?_,.lst ⟨hl,by simp⟩ (r.imp (λ_ _ h=>h) λc q xs f h=>?_)⟩
 ·by_cases sT:q=p
  ·subst sT;exact hp
  ·simp[sT]at hq
 ·cases f with
  |ow=>exact nomatch h.2
  |fz=>exact h
  |al=>exact h
  |sc=>exact h
end
theorem CN(K:ao):∀t:Ty,∀s∈kinds,PySem.W.kitOne K (.type s) (.type (tyName t))=some (L_ t s):=by
 intro t s hs;simp only[kinds,List.mem_cons,List.not_mem_nil,or_false]at hs;cases t<;>rcases hs with rfl|rfl|rfl|rfl|rfl|rfl|rfl<;>rfl
structure PX(X:Cx)(sc:Scope)(bl:aw)(k:Nat):Prop where
 sc:X.env.scope=sc
 calm:X.calm=true
 room:e_ k X.A
 bl:∀x∈bl,X.mg x=none
theorem PX.gl{sc:Scope}{bl:aw}{k:Nat}(L:PX X sc bl k){x:Str}(h:mF sc x=true):Gl X x:=by
 unfold Gl;show X.env.scope.names.lookup x=some .globalImplicit;rw[L.sc];exact Yn h
def mO(X:Cx)(F:ag)(Φ:aX):aA->au->Prop
 |[],[]=>True
 |c::cs,a::as=>PE X a (tD X F Φ c)/\(∀es,starEach (a::es) X.env=(false,eval a X.env)::starEach es X.env)/\kM a/\mO X F Φ cs as
 |_,_=>False
structure rP(K:ao)(H2:Hp)(vs:af)(xs:ae)(H':Hp):Prop where
 n0:∃R0:ag,az (aN K H2) (nd K R0 (λ_=>False) (λ_=>none) H2) [] 0 vs (aD a_ xs)/\∀p o,R0 p->H2 p=some o->H' p=some o
 tp:∀a ys,aN K H2 a ys->aN K H' a ys
structure Jm(K:ao)(J:It)(H2:Hp)(vs:af)(xs items:ae):Prop where
 go:∀i H' R',rP K H2 vs xs H'->az (aN K H') (nd K R' (λ_=>False) (λ_=>none) H') [] 0 vs (aD a_ xs)->i<items.length->J.go i H'
 rQ:∀i H' R' x j5,rP K H2 vs xs H'->az (aN K H') (nd K R' (λ_=>False) (λ_=>none) H') [] 0 vs (aD a_ xs)->i<items.length->J.rQ i H' x j5->aG H' j5/\∃d,items[i]?=some d/\Rep (aN K j5) (nd K R' (λ_=>False) (λ_=>none) j5) [] x d
 stop:∀i H' R',rP K H2 vs xs H'->az (aN K H') (nd K R' (λ_=>False) (λ_=>none) H') [] 0 vs (aD a_ xs)->items.length<=i->J.stop i H'
structure tX(px:Px)(Φ:aX):Prop where
 e:∀(X:Cx) (sc:Scope) (bl:aw) (k:Nat),PX X sc bl k->∀(p:Nat) (e:Expr) (args:au),px.pe p sc bl e=some args->∀(F:ag) (cs:aA),mO X F Φ cs args->PE X e (tD X F Φ (.cj p cs))/\PT X e (eN X F Φ (.cj p cs))
 i:∀(X:Cx) (sc:Scope) (bl:aw) (k:Nat),PX X sc bl k->∀(p:Nat) (e:Expr) (args:au),px.pi p sc bl e=some args->∀(F:ag) (cs:aA) (tg:Expr),(decide (1100<=p)||fj tg)=true->mO X F Φ cs args ->
  ∀(pins:ak) (s:Shared) (σ:St) (H:Hp) (R:ag) (τ:Addr->Option aU) (ρ:aV) (xs:ae) (d:D) (items:ae),Inv X pins σ H s->SI X F R τ ρ σ H->cc Φ cs ρ=ok xs->Φ p xs=ok d->my d=ok items->∀Rr:It->Hp->Prop,
   (∀J H2 vs,aG H H2->b0 X.K (gP X F) R τ (cL cs) H H2 vs xs->Jm X.K J H2 vs xs items->Rr J H2) ->
   wpAny (model X.prog X.w) X.A (eval e X.env) (λv s1=>wpAny (model X.prog X.w) X.A (pyIter v) (A_ X pins σ tg Rr) X.xe s1) X.xe s
def D0(K:ao):GK->Value->Prop
 |.i i,u=>RelV (.int i) u
structure Lk(X:Cx)(S:Sx)(k:Nat)(Φ:aX):Prop where
 sc:X.env.scope=S.sc
 N:X.N=S.N
 nd:X.N.Nodup
 calm:X.calm=true
 room:e_ k X.A
 bl:∀x∈S.bl,X.mg x=none
 fn:∀f x,S.fn f=some x->Js X k x (Φ f)
 cs:∀x i,(x,i)∈S.cs->∃u,X.mg x=some u/\D0 X.K i u
 pr:tX S.px Φ
variable {S:Sx}{Φ:aX}
theorem Lk.pX{k:Nat}(L:Lk X S k Φ):PX X S.sc S.bl k:=⟨L.sc,L.calm,L.room,L.bl⟩
variable {Q:VK}{p' p1 p2 pos pos':Pos}
section
variable {X:Cx}{S:Sx}{k:Nat}{F:ag}{Φ:aX}
theorem Lk.gl(L:Lk X S k Φ){x:Str}(h:mF S.sc x=true):Gl X x:=by
 unfold Gl;show X.env.scope.names.lookup x=some .globalImplicit;rw[L.sc];exact Yn h
theorem Lk.NW(L:Lk X S k Φ){x:Str}(h:Fx S.sc x=true):Jn X.env.scope x:=by
 unfold Jn;rw[L.sc];unfold Fx at h;rw[Bool.or_eq_true,Bool.or_eq_true]at h;rcases h with (h|h)|h
 ·exact .inl (Yn h)
 ·exact .inr (.inl (Yn h))
 ·exact .inr (.inr (Yn h))
theorem tD.intro{c:CE}{d:D}(Si:SI X F R τ ρ σ H)(e:bj Φ c ρ=ok d)(h:∀v H',aG H H'->bM X.K (gP X F) R τ (fI c) H H' v d->Q v H'):tD X F Φ c σ H Q:=⟨R,τ,ρ,d,Si,e,h⟩
theorem P8(L:Lk X S k Φ){i:Nat}{x:Str}(h:bL S (.v i) (.Name x pos)=true):PE X (.Name x pos) (tD X F Φ (.v i)):=by
 replace h:=aH h;replace h:=And.intro (aH h.1) h.2;obtain⟨⟨h1,h2⟩,h3⟩:=h;unfold jV at h3;simp only[Bool.and_eq_true,Bool.not_eq_true']at h3;refine PE.imp (sA (i:=i) (by rw[L.N];exact Yn h1) (L.NW h2) h3.1.1 h3.1.2) λσ H Q hq=>?_;obtain⟨R,τ,ρ,d,Si,ev,hq⟩:=hq;obtain⟨d',hd,rfl⟩:=yA ev
 ·obtain⟨v,hv,hr⟩:=Si.rep i d' hd;refine⟨v,hv,hq v H (aG.refl H) ⟨λ_=>none,λ_ _ h=>by simp at h,?_⟩⟩;refine Rep.map (q:=[i]) (q':=[]) (λ_ _ h=>h) (λc p xs f h=>?_) hr [] rfl;cases f with
  |ow =>
   refine⟨h.1,.inr (Si.t0 p _ h.2),λc' j e=>?_⟩;rw[h.2]at e;have e':=YB e;have:=Zw List.getLast? e';simp at this;show _∈[i];simp[this]
  |fz=>exact h
  |al=>exact h.2.elim
  |sc=>exact h
theorem kC{op:D3}{x y d:D}(Mu:op≠.add/\op≠.mul)(h:bV op x y=ok d):∃i j,x=.int i/\y=.int j:=by
 cases x with
 |int i=>cases y with
  |int j=>exact⟨i,j,rfl,rfl⟩
  |_=>cases op<;>first|exact nk h | (simp at Mu;done)
 |_=>cases op<;>first|exact nk h | (simp at Mu;done)
theorem F9(L:Lk X S k Φ){op:D3}{a b:CE}{l r:Expr}(ha:PE X l (tD X F Φ a))(hb:PE X r (tD X F Φ b)):PE X (.BinOp l (Lv op) r pos) (tD X F Φ (.bin op a b)):=by
 have two:∀{σ:St} {H:Hp} {Q:VK} {r2:R2},(∃R τ ρ d,SI X F R τ ρ σ H/\bj Φ (.bin op a b) ρ=ok d/\(∀v H',aG H H'->bM X.K (gP X F) R τ (fI (.bin op a b)) H H' v d->Q v H') /\
   ∀x y v u H',bV op x y=ok d->aG H H'->bM X.K (gP X F) R τ (fI (.bin op a b)) H H' v x->bM X.K (gP X F) R τ (fI (.bin op a b)) H H' u y->r2 v u H' Q)->FH r2 (tD X F Φ a) (tD X F Φ b) σ H Q:=by
  rintro σ H Q r2 ⟨R,τ,ρ,d,Si,ev,hq,hr⟩;obtain⟨x,ex,ev⟩:=aB ev;obtain⟨y,ey,ev⟩:=aB ev;refine tD.intro Si ex λv H1 e1 r1=>tD.intro (Si.go e1) ey λu H2 e2 r2=>?_;exact hr x y v u H2 ev (e1.trans e2) ((r1.go e2).mono λi hi=>YN _ hi) ((r2.old e1).mono λi hi=>Yx _ hi)
 have qT:∀{C:Int->Int->Prop} {g:Int->Int->Int},iI X (binaryOp (Lv op)) (rI C λi j=>.int (g i j))->(∀x y d,bV op x y=ok d->∃i j,x=.int i/\y=.int j/\C i j/\d=.int (g i j)) ->
   PE X (.BinOp l (Lv op) r pos) (tD X F Φ (.bin op a b)):=by
  intro C g ho hd;refine PE.imp (Es ho ha hb) λσ H Q hq=>?_;obtain⟨R,τ,ρ,d,Si,ev,hq⟩:=hq;refine two ⟨R,τ,ρ,d,Si,ev,hq,λx y v u H' eb e rv ru=>?_⟩;obtain⟨i,j,rfl,rfl,c,rfl⟩:=hd x y d eb;exact⟨i,j,rv.isInt,ru.isInt,c,hq _ H' e .int⟩
 cases op with
 |sub =>
  refine qT (C:=λ_ _=>True) (g:=λi j=>i - j) (Jx λ_ _ _ _ _ _ _ _ q=>sub_int q) λx y d h=>?_;obtain⟨i,j,rfl,rfl⟩:=kC (by simp) h;cases h;exact⟨_,_,rfl,rfl,trivial,rfl⟩
 |mod =>
  refine qT (C:=λ_ j=>j≠0) (g:=λi j=>i.fmod j) Cr λx y d h=>?_;obtain⟨i,j,rfl,rfl⟩:=kC (by simp) h;obtain⟨h1,h⟩:=qU h;subst h;exact⟨_,_,rfl,rfl,h1,rfl⟩
 |fdiv =>
  refine qT (C:=λ_ j=>nH j=true) (g:=λi j=>i.fdiv j) (Jx λi j _ _ _ _ _ hc q=>?_) λx y d h=>?_
  ·unfold nH at hc;rw[Bool.and_eq_true]at hc;have h1:j≠0:=Yn hc.1;have h2:j.natAbs<big:=Yn hc.2;exact floordiv_int h1 q (.inl (PyProof.noPylong_of_log2 ((Nat.log2_lt (by left)).mpr h2)))
  ·obtain⟨i,j,rfl,rfl⟩:=kC (by simp) h;obtain⟨h1,h⟩:=qU h;subst h;exact⟨_,_,rfl,rfl,h1,rfl⟩
 |pow =>
  refine qT (C:=λi j=>uC i j=true) (g:=λi j=>i ^ j.toNat) (Jx λi j _ _ _ _ _ hc q=>?_) λx y d h=>?_
  ·unfold uC at hc;simp only[Bool.and_eq_true,decide_eq_true_eq]at hc;exact pow_int_small hc.1.1 hc.1.2 hc.2 q
  ·obtain⟨i,j,rfl,rfl⟩:=kC (by simp) h;obtain⟨h1,h⟩:=qU h;subst h;exact⟨_,_,rfl,rfl,h1,rfl⟩
 |mul =>
  have hi:iI X (binaryOp .Mult) (rI (λi j=>fD i j=true) λi j=>.int (i*j)):=Jx λi j _ _ _ _ _ hc q=>mul_int q (zm hc);exact qT (C:=λi j=>fD i j=true) (g:=λi j=>i*j) hi λx y d h=>by
   obtain⟨i,j,rfl,rfl⟩:∃i j,x=.int i/\y=.int j:=by cases x<;>first | (cases h;done) | (cases y<;>first|exact⟨_,_,rfl,rfl⟩ | (cases h;done))
   obtain⟨h1,h⟩:=qU h;subst h;exact⟨_,_,rfl,rfl,h1,rfl⟩
 |add =>
  refine PE.imp (Es ((GX.or GW).or Ct) ha hb) λσ H Q hq=>?_;obtain⟨R,τ,ρ,d,Si,ev,hq⟩:=hq;refine two ⟨R,τ,ρ,d,Si,ev,hq,λx y v u H' eb e rv ru=>?_⟩;have hz:sizeLine=16777216:=Zx;have oX:eO=1000000:=rfl;cases x with
  |int i =>
   cases y with
   |int j =>
    cases eb;exact .inl (.inl ⟨i,j,rv.isInt,ru.isInt,hq _ H' e .int⟩)
   |_=>cases eb
  |lst f a =>
   cases y with
   |lst g b =>
    obtain⟨hc,eb⟩:=qU eb
    ·subst eb;obtain⟨τt,fr,rp⟩:=rv;obtain⟨Pj,JQ,Qb⟩:=ru;obtain⟨p,xs,rfl,hn,rs⟩:=rp.rW;cases Qb with
     | @lst _ p2 Fq _ _ JK B_ =>
      refine .inl (.inr ⟨p,p2,xs,Fq,rfl,rfl,hn.lst hc.1,JK.lst hc.2.1,by rw[rs.length,B_.length];left,λp' xG=>?_⟩);have es:aG H' (upd H' p' (.lst (xs++Fq))):=aG.upd xG;refine hq _ _ (e.trans es) (bM.qJ (e.free xG) (e.trans es) (aW) ?_);rw[bg,List.map_append,<- bg,<- bg];exact(az.pM nd.ra (n:=0) (m:=0) (rs.fF Si fr) (B_.fF Si JQ)).imp (λ_ _ h=>aN.same es h) λ_ _ _ _ h=>nd.same es h
   |_=>cases eb
  |tup a =>
   cases y with
   |tup b =>
    obtain⟨hc,eb⟩:=qU eb;subst eb;obtain⟨τt,fr,rp⟩:=rv;obtain⟨Pj,JQ,Qb⟩:=ru;cases rp with
    | @tup _ p xs _ hn rs =>
     cases Qb with
     | @tup _ p2 Fq _ JK B_ =>
      have hl:=rs.length;have Ue:=B_.length;refine .inr ⟨p,p2,xs,Fq,rfl,rfl,hn,JK,by rw[hl,Ue];left,λz=>?_,λz=>?_,λp' xG=>?_⟩
      ·subst z;cases rs;exact hq _ H' e ⟨λ_=>none,λ_ _ h=>by simp at h,.tup JK (B_.fF Si JQ)⟩
      ·subst z;cases B_;refine hq _ H' e ⟨λ_=>none,λ_ _ h=>by simp at h,.tup hn ?_⟩;rw[List.append_nil];exact rs.fF Si fr
      ·have es:aG H' (upd H' p' (.tup (xs++Fq))):=aG.upd xG;refine hq _ _ (e.trans es) ⟨λ_=>none,λ_ _ h=>by simp at h,.tup (aN.of aW) ?_⟩;rw[bg,List.map_append,<- bg,<- bg];exact(az.pM nd.ra (n:=0) (m:=0) (rs.fF Si fr) (B_.fF Si JQ)).imp (λ_ _ h=>aN.same es h) λ_ _ _ _ h=>nd.same es h
   |_=>cases eb
  |_=>cases y<;>cases eb
end
section
variable {T T':kJ}{N N':gL}{P:Fl->Bool}
theorem Rep.without(hT:∀p xs,T p xs->T' p xs)(hN:∀k k' p xs f,P f=false->N k p xs f->N' k' p xs f){k:aU}{v:V}{d:D}(h:Rep T N k v d)(e:aP P d=false)(k':aU):Rep T' N' k' v d:=by
 have:=Rep.gen (g:=id) (P:=P) (N':=N') (C:=λ_ _=>True) (I:=λ_ _=>True) hT trivial (λ_ _ e=>e) (λ_ _ _ _ e _=>e) (λk k' p xs f _ e h=>hN k k' p xs f e h) h (k':=k') trivial e;rw[dF]at this;exact this
theorem az.without(hT:∀p xs,T p xs->T' p xs)(hN:∀k k' p xs f,P f=false->N k p xs f->N' k' p xs f){k:aU}{n:Nat}(h:az T N k n vs ds)(e:aK P ds=false)(k':aU)(n':Nat):az T' N' k' n' vs ds:=by
 have:=az.gen (g:=id) (P:=P) (N':=N') (C:=λ_ _=>True) (I:=λ_ _=>True) hT trivial (λ_ _ e=>e) (λ_ _ _ _ e _=>e) (λk k' p xs f _ e h=>hN k k' p xs f e h) h (k':=k') (n':=n') trivial trivial e;rw[di]at this;exact this
theorem Rep.iK(hT:∀p xs,T p xs->T' p xs)(hN:∀k p xs f,P f=false->N k p xs f->N' k p xs f){k:aU}{v:V}{d:D}(h:Rep T N k v d)(e:aP P d=false):Rep T' N' k v d:=by
 have:=Rep.gen (g:=id) (P:=P) (N':=N') (C:=λa b=>a=b) (I:=λa b=>a=b) hT rfl (λ_ _ e=>by rw[e]) (λ_ _ _ _ a b=>by rw[a,b]) (λk k' p xs f c e h=>by subst c;exact hN k p xs f e h) h rfl e;rw[dF]at this;exact this
theorem az.iK(hT:∀p xs,T p xs->T' p xs)(hN:∀k p xs f,P f=false->N k p xs f->N' k p xs f){k:aU}{n:Nat}(h:az T N k n vs ds)(e:aK P ds=false):az T' N' k n vs ds:=by
 have:=az.gen (g:=id) (P:=P) (N':=N') (C:=λa b=>a=b) (I:=λa b=>a=b) hT rfl (λ_ _ e=>by rw[e]) (λ_ _ _ _ a b=>by rw[a,b]) (λk k' p xs f c e h=>by subst c;exact hN k p xs f e h) h rfl rfl e;rw[di]at this;exact this
end
theorem Rep.oN{k:aU}{v:V}{d:D}(h:Rep (aN K H) (nd K R (λ_=>False) (λ_=>none) H) k v d):Rep (aN K H) (nd K R (λ_=>False) (λ_=>none) H) k' v d:=by
 have:=Rep.ie (g:=id) (λ_ _ h=>h) nd.ra h k';rw[dF]at this;exact this
def fK(X:Cx)(R:ag)(τ:Addr->Option aU)(H:Hp)(v:V)(d:D):Prop :=
 ∃τt:Addr->Option aU,(∀p q,τt p=some q->τ p=none/\¬ R p/\X.H₀ p=none/\H p≠none)/\Rep (aN X.K H) (nd X.K R (λ_=>False) τt H) [] v d
section
variable {X:Cx}{F R:ag}{τ:Addr->Option aU}{ρ:aV}{σ:St}{H H':Hp}
noncomputable def r_(i:Nat)(τt τ:Addr->Option aU):Addr->Option aU:=λp=>match τt p with|some q=>some (q++[i])|none=>τ p
theorem SI.KH{i:Nat}{v:V}{d:D}(Si:SI X F R τ ρ σ H)(ht:∀p q,τt p=some q->τ p=none/\¬ R p/\X.H₀ p=none/\H p≠none)(rp:Rep (aN X.K H) (nd X.K R (λ_=>False) τt H) [] v d)(hi:i<ρ.length):SI X F R (r_ i τt τ) (ρ.set i (some d)) (σ.set i (some v)) H:=by
 refine⟨by simp[Si.len],λj d' hj=>?_,λp hp=>?_,Si.rh,Si.rf,λp q hq=>?_,λp q hq=>?_,Si.same⟩
 ·by_cases gU:j=i
  ·subst gU;rw[List.getElem?_set_self hi]at hj;cases hj;refine⟨v,List.getElem?_set_self (by rw[<- Si.len];exact hi),rp.imp (q':=[j]) (λ_ _ h=>h) λc p xs f h=>?_⟩;cases f with
   |ow=>rw[List.append_nil]at h;exact⟨h.1,by simp only[r_,h.2]⟩
   |fz=>exact h
   |al=>exact h
   |sc=>exact h
  ·rw[List.getElem?_set_ne (Ne.symm gU)]at hj;obtain⟨w,hw,iT⟩:=Si.rep j d' hj;refine⟨w,by rw[List.getElem?_set_ne (Ne.symm gU)];exact hw,iT.imp (λ_ _ h=>h) λc p xs f h=>?_⟩;cases f with
   |ow =>
    refine⟨h.1,?_⟩;cases q:τt p with
    |none=>simp only[r_,q];exact h.2
    |some k=>have:=(ht p k q).1;rw[h.2]at this;cases this
   |fz=>exact h
   |al=>exact h
   |sc=>exact h
 ·cases q:τt p with
  |none=>simp only[r_,q];exact Si.rt p hp
  |some k=>exact absurd hp (ht p k q).2.1
 ·cases z:τt p with
  |none=>simp only[r_,z]at hq;exact Si.th p q hq
  |some k=>exact(ht p k z).2.2.2
 ·cases z:τt p with
  |none=>simp only[r_,z]at hq;exact Si.t0 p q hq
  |some k=>exact(ht p k z).2.2.1
theorem SI.set{i:Nat}{v:V}{d:D}(Si:SI X F R τ ρ σ H)(r:fK X R τ H v d)(hi:i<ρ.length):∃τ',SI X F R τ' (ρ.set i (some d)) (σ.set i (some v)) H:=by
 obtain⟨τt,ht,rp⟩:=r;exact⟨_,Si.KH ht rp hi⟩
theorem wW{k:aU}{v:V}{d:D}(h:Rep (aN X.K H) (nd X.K R (λ_=>False) τ H) k v d)(ho:aP cw d=false):fK X R τ H v d :=
 ⟨λ_=>none,λ_ _ h=>by simp at h,Rep.without (P:=cw) (λ_ _ h=>h) (λk k' p xs f hf h=>by
  cases f with
  |ow=>cases hf
  |fz=>exact h
  |al=>exact h.2.elim
  |sc=>exact h) h ho _⟩
open Classical in
theorem SI.move{i:Nat}{d:D}(Si:SI X F R τ ρ σ H)(hd:ρ[i]?=some (some d)):∃v τ',σ[i]?=some (some v)/\SI X F R τ' (ρ.set i none) σ H/\fK X R τ' H v d:=by
 obtain⟨v,hv,rp⟩:=Si.rep i d hd;refine⟨v,λp=>match τ p with|some q=>if q.getLast?=some i then none else some q|none=>none,hv,⟨by simp[Si.len],λj d' hj=>?_,λp hp=>?_,Si.rh,Si.rf,λp q hq=>?_,λp q hq=>?_,Si.same⟩,
  λp=>match τ p with|some q=>if q.getLast?=some i then(if H p=none then none else some q.dropLast)else none|none=>none,λp q hq=>?_,rp.imp (q:=[i]) (q':=[]) (λ_ _ h=>h) λc p xs f h=>?_⟩
 ·by_cases gU:j=i
  ·subst gU;rw[List.getElem?_set]at hj;simp at hj
  ·rw[List.getElem?_set_ne (Ne.symm gU)]at hj;obtain⟨w,hw,iT⟩:=Si.rep j d' hj;refine⟨w,hw,iT.imp (q:=[j]) (q':=[j]) (λ_ _ h=>h) λc p xs f h=>?_⟩;cases f with
   |ow =>
    refine⟨h.1,?_⟩;simp only[h.2];rw[if_neg (by simp;exact gU)]
   |fz=>exact h
   |al=>exact h
   |sc=>exact h
 ·simp only[Si.rt p hp]
 ·cases z:τ p with
  |none=>simp only[z]at hq;cases hq
  |some k=>exact Si.th p k z
 ·cases z:τ p with
  |none=>simp only[z]at hq;cases hq
  |some k=>exact Si.t0 p k z
 ·cases z:τ p with
  |none=>simp only[z]at hq;cases hq
  |some k =>
   simp only[z]at hq ⊢;by_cases hl:k.getLast?=some i
   ·rw[if_pos hl];exact⟨rfl,(λhR=>by have:=Si.rt p hR;rw[z]at this;cases this),Si.t0 p k z,Si.th p k z⟩
   ·rw[if_neg hl]at hq;cases hq
 ·cases f with
  |ow =>
   refine⟨h.1,?_⟩;have hn:H p≠none:=h.1.ne;simp only[h.2];rw[if_pos (by simp),if_neg hn];simp
  |fz=>exact h
  |al=>exact h.2.elim
  |sc=>exact h
theorem vm(is:aF)(ρ:aV)(j:Nat)(d:D)(h:(fM is ρ)[j]?=some (some d)):∃d',ρ[j]?=some (some d')/\d=(if j∈is then aZ a_ d' else d'):=by
 unfold fM at h;rw[List.getElem?_mapIdx]at h;cases q:ρ[j]? with
 |none=>rw[q]at h;exact nk h
 |some o =>
  rw[q]at h;cases o with
  |none=>simp at h
  |some d' =>
   refine⟨d',rfl,?_⟩;by_cases hj:j∈is
   ·simp[hj]at h ⊢;exact h.symm
   ·simp[hj]at h ⊢;exact h.symm
open Classical in
theorem vn(Si:SI X F R τ ρ σ H)(es:aG H H'):
  ∃R' τ',(∀p,R p->R' p)/\SI X F R' τ' (fM fv ρ) σ H'/\∀τt:Addr->Option aU,(∀p q,τt p=some q->H p=none)->∀(k k':aU) (p:Addr) (xs:Nd) (f:Fl),nd X.K R (iy (gP X F) τ fv) τt H' k p xs f->nd X.K R' (λ_=>False) (λ_=>none) H' k' p xs (a_ f):=by
 have fG:=Si.go es;have fresh:∀p,H p=none->iy (gP X F) τ fv p:=λp hp=>⟨.inr (Si.same.free hp),λc i e=>absurd hp (Si.th p _ e)⟩
 refine⟨λp=>R p\/(H' p≠none/\iy (gP X F) τ fv p),λp=>if iy (gP X F) τ fv p then none else τ p,λp h=>.inl h,⟨by simp[fM,Si.len],λj d' hj=>?_,λp hp=>?_,λp hp=>?_,λp hp=>?_,λp q hq=>?_,λp q hq=>?_,fG.same⟩,λτt fr k k' p xs f h=>?_⟩
 ·obtain⟨d0,h0,e0⟩:=vm _ _ _ _ hj;obtain⟨w,hw,iT⟩:=fG.rep j d0 h0;refine⟨w,hw,?_⟩;by_cases OI:j∈fv
  ·rw[if_pos OI]at e0;subst e0;refine Rep.map (q:=[j]) (q':=[j]) (λ_ _ h=>h) (λc p xs f h=>?_) iT [] rfl;cases f with
   |ow =>
    refine⟨h.1,.inr ⟨h.1.ne,.inr (Si.t0 p _ h.2),λc' i' e'=>?_⟩⟩;rw[h.2]at e';have:=Zw List.getLast? (YB e');simp at this;subst this;exact OI
   |fz=>exact⟨h.1,.inl h.2⟩
   |al=>exact h.2.elim
   |sc=>exact h
  ·rw[if_neg OI]at e0;subst e0;refine iT.imp (q:=[j]) (q':=[j]) (λ_ _ h=>h) λc p xs f h=>?_;cases f with
   |ow =>
    refine⟨h.1,?_⟩;show(if iy (gP X F) τ fv p then none else τ p)=some (c++[j]);rw[if_neg (λz=>OI (z.2 c j h.2))];exact h.2
   |fz=>exact⟨h.1,.inl h.2⟩
   |al=>exact h.2.elim
   |sc=>exact h
 ·rcases hp with hp|hp
  ·simp only[Si.rt p hp];split<;>rfl
  ·rw[if_pos hp.2]
 ·rcases hp with hp|hp
  ·exact fG.rh p hp
  ·exact hp.1
 ·rcases hp with hp|hp
  ·exact Si.rf p hp
  ·exact hp.2.1
 ·split at hq
  ·cases hq
  ·exact fG.th p q hq
 ·split at hq
  ·cases hq
  ·exact Si.t0 p q hq
 ·cases f with
  |ow=>exact⟨h.1,.inr ⟨h.1.ne,fresh p (fr p _ h.2)⟩⟩
  |fz=>exact⟨h.1,.inl h.2⟩
  |al=>exact⟨h.1,.inr ⟨h.1.ne,h.2⟩⟩
  |sc=>exact h
theorem o4{v:V}{d:D}(Si:SI X F R τ ρ σ H)(es:aG H H')(r:bM X.K (gP X F) R τ fv H H' v d):
  ∃R' τ',(∀p,R p->R' p)/\SI X F R' τ' (fM fv ρ) σ H'/\Rep (aN X.K H') (nd X.K R' (λ_=>False) (λ_=>none) H') [] v (aZ a_ d):=by
 obtain⟨τt,fr,rp⟩:=r;obtain⟨R',τ',h1,h2,h3⟩:=vn (fv:=fv) Si es;exact⟨R',τ',h1,h2,Rep.ie (λ_ _ h=>h) (h3 τt fr) rp _⟩
theorem q_(Si:SI X F R τ ρ σ H)(es:aG H H')(r:b0 X.K (gP X F) R τ fv H H' vs ds):
  ∃R' τ',(∀p,R p->R' p)/\SI X F R' τ' (fM fv ρ) σ H'/\az (aN X.K H') (nd X.K R' (λ_=>False) (λ_=>none) H') [] 0 vs (aD a_ ds):=by
 obtain⟨τt,fr,rp⟩:=r;obtain⟨R',τ',h1,h2,h3⟩:=vn (fv:=fv) Si es;exact⟨R',τ',h1,h2,az.ie (λ_ _ h=>h) (h3 τt fr) rp _ _⟩
theorem ka{v:V}{d:D}(h:Rep (aN X.K H) (nd X.K R (λ_=>False) (λ_=>none) H) [] v d):fK X R τ' H v d:=⟨λ_=>none,λ_ _ h=>by simp at h,h⟩
open Classical in
theorem ED{e:CE}{v:V}{d:D}(Si:SI X F R τ ρ σ H)(es:aG H H')(r:bM X.K (gP X F) R τ (fI e) H H' v d):
  ∃R' τ',(∀p,R p->R' p)/\SI X F R' τ' (keep e d ρ).2 σ H'/\fK X R' τ' H' v (keep e d ρ).1:=by
 unfold keep;by_cases ha:aP bR d=true
 ·rw[if_pos ha];obtain⟨R',τ',h1,h2,h3⟩:=o4 Si es r;exact⟨R',τ',h1,h2,ka h3⟩
 ·obtain⟨τt,fr,rp⟩:=r;rw[if_neg ha];refine⟨R,τ,λ_ h=>h,Si.go es,λp=>if H' p=none then none else τt p,λp q hq=>?_,?_⟩
  ·dsimp only at hq;split at hq
   ·cases hq
   ·rename_i hn;have hf:=fr p q hq;refine⟨?_,λhR=>Si.rh p hR hf,Si.same.free hf,hn⟩;cases z:τ p with
    |none=>rfl
    |some k=>exact absurd hf (Si.th p k z)
  ·have WI:aP bR d=false:=by simpa using ha
   have st:∀{k:aU} {v:V} {d:D},Rep (aN X.K H') (nd X.K R (iy (gP X F) τ (fI e)) τt H') k v d->aP bR d=false->Rep (aN X.K H') (nd X.K R (λ_=>False) (λp=>if H' p=none then none else τt p) H') k v d:=by
    intro k v d h ha;exact Rep.iK (P:=bR) (λ_ _ h=>h) (λk p xs f hf h=>by
     cases f with
     |ow=>exact⟨h.1,by show(if H' p=none then none else τt p)=_;rw[if_neg (h.1.ne)];exact h.2⟩
     |fz=>exact h
     |al=>cases hf
     |sc=>exact h) h ha
   exact st rp WI
open Classical in
def tK(X:Cx)(F:ag)(Φ:aX)(c:CE):TE:=λσ H Q=>∃R τ ρ r,SI X F R τ ρ σ H/\gJ Φ c ρ=ok r/\∀v H' R' τ',aG H H'->(∀p,R p->R' p)->SI X F R' τ' r.2 σ H'->fK X R' τ' H' v r.1->Q v H'
end
theorem iw{env:Env}:∀(names:List (Str×NameKind)) (acc:List (Str×Addr)),(∀x,(x,NameKind.free)∈names->∃c,env.cells.lookup x=some c) ->
  ∃cl,(forIn names acc (λ(y:Str×NameKind) (cs:List (Str×Addr))=>do
    let (name,kind):=y
    let mut cs:=cs
    if kind==.free then cs:=(name,<- cellOf env name)::cs
    pure (ForInStep.yield cs)):Sem (List (Str×Addr)))=pure cl /\
   (∀x c,cl.lookup x=some c->acc.lookup x=some c\/(env.cells.lookup x=some c/\(x,NameKind.free)∈names))/\(∀x,((x,NameKind.free)∈names\/(∃c,acc.lookup x=some c))->∃c,cl.lookup x=some c)
 |[],acc,_=>⟨acc,rfl,λx c h=>.inl h,λx h=>h.elim (λh=>nomatch h) id⟩
 | (n,kd)::names,acc,h=>by
  by_cases hk:kd=.free
  ·subst hk;obtain⟨c,hc⟩:=h n Yo;obtain⟨cl,e,h1,h2⟩:=iw names ((n,c)::acc) (λx hx=>h x (Yq _ hx));refine⟨cl,?_,λx c' hx=>?_,λx hx=>?_⟩
   ·rw[List.forIn_cons];have e0:cellOf env n=pure c:=by unfold cellOf;rw[hc]
    simp only[beq_self_eq_true,if_true,e0,pure_bind];exact e
   ·rcases h1 x c' hx with z|z
    ·by_cases Mg:x=n
     ·subst Mg;simp at z;subst z;exact .inr ⟨hc,Yo⟩
     ·rw[List.lookup_cons]at z;have:(x==n)=false:=by simpa using Mg
      rw[this]at z;exact .inl z
    ·exact .inr ⟨z.1,Yq _ z.2⟩
   ·refine h2 x ?_;rcases hx with hx|⟨c',hx⟩
    ·rcases List.mem_cons.mp hx with z|z
     ·cases z;exact .inr ⟨c,by simp⟩
     ·exact .inl z
    ·by_cases Mg:x=n
     ·subst Mg;exact .inr ⟨c,by simp⟩
     ·refine .inr ⟨c',?_⟩;rw[List.lookup_cons];have:(x==n)=false:=by simpa using Mg
      rw[this];exact hx
  ·obtain⟨cl,e,h1,h2⟩:=iw names acc (λx hx=>h x (Yq _ hx));have hb:(kd==NameKind.free)=false:=by simpa using hk
   refine⟨cl,?_,λx c' hx=>(h1 x c' hx).imp id λz=>⟨z.1,Yq _ z.2⟩,λx hx=>h2 x ?_⟩
   ·rw[List.forIn_cons];simp only[hb,Bool.false_eq_true,if_false,pure_bind];exact e
   ·rcases hx with hx|hx
    ·rcases List.mem_cons.mp hx with z|z
     ·cases z;exact absurd rfl hk
     ·exact .inl z
    ·exact .inr hx
variable {env:Env}
theorem tJ{sc:Scope}(h:∀x,(x,NameKind.free)∈sc.names->∃c,env.cells.lookup x=some c):
  ∃cl,closureFor sc env=pure cl/\(∀x c,cl.lookup x=some c->env.cells.lookup x=some c)/\(∀x,(x,NameKind.free)∈sc.names->∃c,cl.lookup x=some c):=by
 obtain⟨cl,e,h1,h2⟩:=iw (env:=env) sc.names [] h;refine⟨cl,?_,λx c hx=>(h1 x c hx).elim (λz=>by simp at z) (·.1),λx hx=>h2 x (.inl hx)⟩;unfold closureFor;simp only[bind_pure];exact e
variable {P prog:ax}{gN iter o target tg value:Expr}{w:World}
theorem o9{A:ay}{R:Result->Shared->Prop}{s:Shared}{elt:Expr}{ifs:au}{scope:Scope}{it acc:Value}(I:Nat->Shared->Prop)
  (turn:∀n s,I n s->wpAny (model prog w) A (pyNext it) (λr s₁=>match r with
   |none=>R (.ok .next) s₁
   |some v=>wpAny (model prog w) A (letOwnedTupleGo target it v) (λ_ s₁=>wpAny (model prog w) A (assign target env v) (λ_ s₂ =>
     wpAny (model prog w) A (forIn ifs true λc r=>if r=true then do let ok <- isTrue c env (eval c env);pure (ForInStep.yield ok)else pure (ForInStep.yield r)) (λok s₃ =>
      if ok=true then wpAny (model prog w) A (eval elt env) (λx s₄ =>
       wpAny (model prog w) A (call (.builtin "list.append") [acc,x]) (λ_ s₅=>∃m,m<n/\I m s₅) (λ_ _=>False) s₄) (λ_ _=>False) s₃
      else ∃m,m<n/\I m s₃) (λ_ _=>False) s₂) (λ_ _=>False) s₁) (λ_ _=>False) s₁) (λ_ _=>False) s)
  (n:Nat) (h:I n s) :
  codeAny (model prog w) A (.compLoop (.ListComp elt [⟨target,iter,ifs,0⟩] scope pos) 0 it acc env) R s:=by
 refine codeAny_loop rfl I (λn s hI=>?_) n h;show wpAny _ A ((compTurn (.ListComp elt [⟨target,iter,ifs,0⟩] scope pos) 0 it acc env).onRaise (λx=>do noteFrame x env;theTreesLotGoes x)) _ _ s;refine wpAny_noted ?_;rw[compTurn_list];refine Yj (aaC (Yj (YC (turn n s hI) (λr s₁ h₁=>?_) λ_ _ h'=>h'.elim)));cases r with
 |none=>exact Yk h₁
 |some v =>
  refine Yj (YC h₁ (λ_ s₂ h₂=>?_) λ_ _ h'=>h'.elim);refine Yj (YC h₂ (λ_ s₂ h₂=>Yj (YC h₂ (λok s₃ h₃=>?_) λ_ _ h'=>h'.elim)) λ_ _ h'=>h'.elim);cases ok with
  |false=>exact Yk ⟨rfl,h₃⟩
  |true =>
   exact Yj (Yj (YC h₃ (λx s₄ h₄=>Yj (YC h₄ (λ_ s₅ h₅=>Yk (Yk ⟨rfl,h₅⟩)) λ_ _ h'=>h'.elim)) λ_ _ h'=>h'.elim))
noncomputable def c_(X:Cx)(N':aw)(scope:Scope)(cl:List (Str×Addr))(C:Addr)(s₀:Shared)(H₀:Hp)(fp:aM):Cx :=
 { X with N:=N',s₀:=s₀,H₀:=H₀,env:=compEnvC scope cl C X.env,outer:=X.stack,stack:=X.stack,ex:=fp,fn:=λ_=>false,pn:=[],xe:=λ_ _=>False }
theorem dU{env:Env}:∀{names:List (Str×NameKind)} {x:Str} {kd:NameKind},(names.map λ(n,k)=>if (k==NameKind.free&&env.scope.kind==.function&&env.kindOf n==some .cell)then(n,NameKind.cell)else(n,k)).lookup x=some kd ->
  names.lookup x=some kd\/(kd=.cell/\names.lookup x=some .free)
 |[],_,_,h=>by simp at h
 | (n,k)::r,x,kd,h=>by
  rw[List.map_cons]at h;cases hx:x==n with
  |true =>
   by_cases hc:(k==NameKind.free&&env.scope.kind==.function&&env.kindOf n==some .cell)=true
   ·simp only[hc,if_true,List.lookup_cons,hx]at h;cases h;simp only[Bool.and_eq_true,beq_iff_eq]at hc;refine .inr ⟨rfl,?_⟩;rw[List.lookup_cons,hx,hc.1.1]
   ·have xM:(k==NameKind.free&&env.scope.kind==.function&&env.kindOf n==some .cell)=false:=by simpa using hc
    simp only[xM,Bool.false_eq_true,if_false,List.lookup_cons,hx]at h;cases h;exact .inl (by rw[List.lookup_cons,hx])
  |false =>
   have:List.lookup x (r.map λ(n,k)=>if (k==NameKind.free&&env.scope.kind==.function&&env.kindOf n==some .cell)then(n,NameKind.cell)else(n,k))=some kd:=by
    by_cases hc:(k==NameKind.free&&env.scope.kind==.function&&env.kindOf n==some .cell)=true
    ·simp only[hc,if_true,List.lookup_cons,hx]at h;exact h
    ·have xM:(k==NameKind.free&&env.scope.kind==.function&&env.kindOf n==some .cell)=false:=by simpa using hc
     simp only[xM,Bool.false_eq_true,if_false,List.lookup_cons,hx]at h;exact h
   rw[List.lookup_cons,hx];exact dU this
theorem cE{env:Env}:∀{names:List (Str×NameKind)} {x:Str},names.lookup x=some .free ->
  (names.map λ(n,k)=>if (k==NameKind.free&&env.scope.kind==.function&&env.kindOf n==some .cell)then(n,NameKind.cell)else(n,k)).lookup x=some .free \/
  (names.map λ(n,k)=>if (k==NameKind.free&&env.scope.kind==.function&&env.kindOf n==some .cell)then(n,NameKind.cell)else(n,k)).lookup x=some .cell
 |[],_,h=>by simp at h
 | (n,k)::r,x,h=>by
  rw[List.map_cons];cases hx:x==n with
  |true =>
   rw[List.lookup_cons,hx]at h;cases h;by_cases hc:(NameKind.free==NameKind.free&&env.scope.kind==.function&&env.kindOf n==some .cell)=true
   ·simp only[hc,if_true,List.lookup_cons,hx];exact .inr trivial
   ·have xM:(NameKind.free==NameKind.free&&env.scope.kind==.function&&env.kindOf n==some .cell)=false:=by simpa using hc
    simp only[xM,Bool.false_eq_true,if_false,List.lookup_cons,hx];exact .inl trivial
  |false =>
   rw[List.lookup_cons,hx]at h;by_cases hc:(k==NameKind.free&&env.scope.kind==.function&&env.kindOf n==some .cell)=true
   ·simp only[hc,if_true,List.lookup_cons,hx];exact cE h
   ·have xM:(k==NameKind.free&&env.scope.kind==.function&&env.kindOf n==some .cell)=false:=by simpa using hc
    simp only[xM,Bool.false_eq_true,if_false,List.lookup_cons,hx];exact cE h
theorem cR{names:List (Str×NameKind)}{x:Str}{kd:NameKind}(h:names.lookup x=some kd):(x,kd)∈names:=Zb h
structure iG(S:Sx)(n:Nat)(t:Tg)(caps:aF)(target:Expr)(sc:Scope):Prop where
 kind:sc.kind=.function
 zc:∀y∈sc.names,y.2≠.cell
 loc:∀y∈sc.names,y.2=.local->sc.names.lookup y.1=some .local
 free:∀x,(x,NameKind.free)∈sc.names->S.sc.names.lookup x=some .cell\/S.sc.names.lookup x=some .free
 n:n=(bI target).length
 tl:∀x∈bI target,sc.names.lookup x=some .local
 nd:(bI target++eJ S caps).Nodup
 eO:∀i∈caps,∃x,S.N[i]?=some x/\sc.names.lookup x=some .free
 tg:(∃x p,t=.nm 0/\target=.Name x p)\/(∃es k p,t=.tp (List.range es.length)/\target=.Tuple es k p/\es.all isNm=true)
theorem nJ{n:Nat}{t:Tg}{sc:Scope}(h:pA S n t caps target sc=true):iG S n t caps target sc:=by
 unfold pA at h;simp only[Bool.and_eq_true,decide_eq_true_eq,List.all_eq_true,Bool.or_eq_true]at h;obtain⟨⟨⟨⟨⟨⟨h1,h2⟩,h3⟩,h4⟩,h5⟩,h6⟩,h7⟩:=h;refine⟨h1,λy hy=>(h2 y hy).1.1,λy hy hk=>?_,λx hx=>?_,h3,h4,h5,λi hi=>?_,?_⟩
 ·rcases(h2 y hy).1.2 with z|z
  ·exact absurd hk z
  ·exact z
 ·rcases(h2 _ hx).2 with (z|z)|z
  ·exact absurd rfl z
  ·exact .inl z
  ·exact .inr z
 ·have:=h6 i hi;split at this
  ·rename_i x e;exact⟨x,e,Yn this⟩
  ·cases this
 ·cases t with
  |nm i =>
   obtain⟨g1,g2⟩:=aH h7;obtain rfl:i=0:=Yn g1;obtain⟨x,p,rfl⟩:=km g2;exact .inl ⟨x,p,rfl,rfl⟩
  |tp is =>
   obtain⟨es,hv,g⟩:=bo h7;obtain⟨k,p,rfl⟩:=iM hv;obtain⟨g1,g2⟩:=aH g;obtain rfl:is=_:=Yn g1;exact .inr ⟨es,k,p,rfl,rfl,g2⟩
theorem rH{S:Sx}:∀{caps:aF},(∀i∈caps,∃x,S.N[i]?=some x)->(eJ S caps).length=caps.length/\∀(j i:Nat),caps[j]?=some i->(eJ S caps)[j]?=S.N[i]?
 |[],_=>⟨rfl,λj i h=>by simp at h⟩
 |i::caps,h=>by
  obtain⟨x,hx⟩:=h i Yo;obtain⟨h1,h2⟩:=rH (caps:=caps) λj hj=>h j (Yq _ hj);have e:eJ S (i::caps)=x::eJ S caps:=by unfold eJ;rw[List.filterMap_cons,hx]
  rw[e];refine⟨by simp[h1],λj k hj=>?_⟩;cases j with
  |zero=>simp at hj;subst hj;simp[hx]
  |succ j=>simp at hj ⊢;exact h2 j k hj
section
variable {X:Cx}{S:Sx}{k:Nat}{Φ:aX}{pins:ak}{σ:St}{H2:Hp}{s₂:Shared}
noncomputable def mx(n:Nat)(caps:aF)(σ:St):St:=List.replicate n none++caps.map λi=>σ[i]?.getD none
noncomputable def du(aC:ai)(n:Nat):Obj:={ cls:=.type "list",data:=.seq aC.toArray n }
theorem DE{n:Nat}{t:Tg}{sc:Scope}{cl:List (Str×Addr)}(L:Lk X S k Φ)(co:iG S n t caps target sc)(I2:Inv X pins σ H2 s₂)
  (jY:∀x c,cl.lookup x=some c->X.env.cells.lookup x=some c) (sW:∀x,(x,NameKind.free)∈sc.names->∃c,cl.lookup x=some c) (C5:∀b∈fp,me X pins H2 b) (HK:∀b∈fp,b<s₂.heap.objs.size) :
  (c_ X (bI target++eJ S caps) sc cl (s₂.heap.objs.size+1) s₂ H2 fp).Ok:=by
 have Q_:=I2.jk;refine⟨I2.ok.mod,co.kind,I2.ok.glob,I2.ok.blt,Y8 _,λx y c h1 h2=>I2.ok.inj x y c (jY x c h1) (jY y c h2),λx hx=>?_,(λ_ _ z=>by cases z),I2.ok.hd,I2.ok.frames,.inl rfl,λb hb=>⟨?_,λx c e=>(C5 b hb).2.2.2.2.1 x c (jY x c e)⟩,I2.bs,YL I2.ok.EY I2.sz,λb o e hb=>?_,λb hb z=>?_,I2.stack,I2.uf⟩
 ·have EI:(relabel sc X.env).names.lookup x=some .cell\/(relabel sc X.env).names.lookup x=some .free:=hx;rcases EI with EI|EI
  ·rcases dU EI with z|z
   ·exact absurd rfl (co.zc _ (cR z))
   ·exact sW x (cR z.2)
  ·rcases dU EI with z|z
   ·exact sW x (cR z)
   ·cases z.1
 ·exact Yv (YA (HK b hb))
 ·rcases(C5 b hb).2.2.2.1 with z|z
  ·exact I2.ok.zb b o e z
  ·exact absurd (Yu (Yr e) (YL I2.ok.EY z)) (YG _)
 ·rcases List.mem_cons.mp (Q_ b z)with w|w
  ·exact(C5 b hb).2.1 w
  ·exact(C5 b hb).2.2.1 w
theorem zT{n:Nat}{t:Tg}{sc:Scope}{cl:List (Str×Addr)}{h₁:Heap}{tk:Nat}(L:Lk X S k Φ)(co:iG S n t caps target sc)(I2:Inv X pins σ H2 s₂)
  (jY:∀x c,cl.lookup x=some c->X.env.cells.lookup x=some c) (sW:∀x,(x,NameKind.free)∈sc.names->∃c,cl.lookup x=some c) (C5:∀b∈fp,me X pins H2 b) (HK:∀b∈fp,b<s₂.heap.objs.size)
  (xI:h₁.Ns (s₂.heap.objs.size+1) λ_=>none) (old:∀b o,s₂.heap.get? b=some o->h₁.get? b=some o) (sZ:h₁.get? s₂.heap.objs.size=some (du [] 0)) :
  Inv (c_ X (bI target++eJ S caps) sc cl (s₂.heap.objs.size+1) s₂ H2 fp) [(s₂.heap.objs.size,du [] 0)] (mx n caps σ) H2 { s₂ with heap:=h₁,toks:=tk }:=by
 have oX:∀i∈caps,∃x,S.N[i]?=some x:=λi hi=>let ⟨x,e,_⟩:=co.eO i hi;⟨x,e⟩;obtain⟨Xy,Xx⟩:=rH oX;refine⟨DE L co I2 jY sW C5 HK,rfl,I2.bare,Un.kept old,⟨_,xI,λi x v e1 e2 e3=>?_⟩,λx c e=>?_,I2.cD.fresh (Y8 _),λx c e=>I2.gd x c (jY x c e),λp hp=>?_,I2.cD.kept old,?_⟩
 ·unfold mx at e2;have hi:n<=i:=by
   by_cases hi:i<n
   ·rw[List.getElem?_append_left (by simpa using hi),List.getElem?_replicate,if_pos hi]at e2;cases e2
   ·left
  have EW:(bI target++eJ S caps)[i]?=some x:=e1;rw[List.getElem?_append_right (by rw[<- co.n];exact hi),<- co.n]at EW;rw[List.getElem?_append_right (by simpa using hi),List.length_replicate,List.getElem?_map]at e2;cases hc:caps[i - n]? with
  |none=>rw[hc]at e2;cases e2
  |some ci =>
   rw[hc]at e2;rw[Xx _ _ hc]at EW;obtain⟨x',Nj,OK⟩:=co.eO ci (Yz hc);rw[Nj]at EW;cases EW;have Xs:σ[ci]?=some (some v):=by
    have Np:σ[ci]?.getD none=some v:=YB e2;cases q:σ[ci]? with
    |none=>rw[q]at Np;cases Np
    |some o=>rw[q]at Np;simp at Np;rw[Np]
   have OE:Jn X.env.scope x:=by
    unfold Jn;rw[L.sc];rcases co.free x (cR OK)with z|z
    ·exact .inr (.inl z)
    ·exact .inr (.inr z)
   obtain⟨m,hn,hl⟩:=I2.loc;obtain⟨u,r,lk⟩:=hl ci x v (by rw[L.N];exact Nj) Xs OE;refine⟨u,r,.inr ⟨?_,?_⟩⟩
   ·rcases cE (env:=X.env) OK with z|z
    ·exact .inr z
    ·exact .inl z
   ·have WA:∃c,X.env.cells.lookup x=some c/\s₂.heap.IsCell c (some u):=by
     rcases lk with ⟨z,_⟩|⟨_,z⟩
     ·have z':X.env.scope.names.lookup x=some .local:=z;rw[L.sc]at z';rcases co.free x (cR OK)with w|w<;>(rw[w]at z';cases z')
     ·exact z
    obtain⟨c,ec,o,ho,hd⟩:=WA;obtain⟨c',UE⟩:=sW x (cR OK);have:=jY x c' UE;rw[ec]at this;cases this;exact⟨c,UE,o,old _ _ ho,hd⟩
 ·obtain⟨v,o,ho,hd⟩:=I2.cell x c (jY x c e);exact⟨v,o,old _ _ ho,hd⟩
 ·have xG:p=(s₂.heap.objs.size,du [] 0):=by simpa [c_]using hp
  subst xG;refine⟨sZ,I2.cD.fresh (Ys _),Yv (YJ _),λz=>?_,λv z=>by cases z⟩;rcases List.mem_cons.mp (I2.jk _ z)with w|w
  ·exact absurd w (Y3 I2.lt)
  ·exact I2.G3 (Ys _) w
 ·show(mx n caps σ).length=(bI target++eJ S caps).length;unfold mx;rw[List.length_append,List.length_append,List.length_replicate,List.length_map,Xy,co.n]
end
theorem az.snoc{T:kJ}{N:gL}{k:aU}:∀{n:Nat} {vs:af} {ds:ae} {v:V} {d:D},az T N k n vs ds->Rep T N ((n+ds.length)::k) v d->az T N k n (vs++[v]) (ds++[d])
 |n,_,_,_,_,.nil,h=>.cons h .nil
 |n,_,_,_,_,.cons (ds:=ds) h t,r=>.cons h (az.snoc t (by
  have e:n+(ds.length+1)=n+1+ds.length:=by left
  rw[List.length_cons,e]at r;exact r))
open Classical in
theorem b0.snoc{K:ao}{G R:ag}{τ:Addr->Option aU}{fv:aF}{H H1 H2:Hp}{v:V}{d:D}{vs:af}{ds:ae}(e1:aG H H1)(e2:aG H1 H2)(h:b0 K G R τ fv H H1 vs ds)(t:bM K G R τ fv H1 H2 v d):
  b0 K G R τ fv H H2 (vs++[v]) (ds++[d]):=by
 obtain⟨τ1,f1,h1⟩:=h;obtain⟨τ2,f2,h2⟩:=t;refine⟨λp=>if H1 p=none then(τ2 p).map (· ++ [ds.length])else τ1 p,λp q hq=>?_,az.snoc (h1.imp (q:=[]) (q':=[]) (λ_ _ h=>aN.same e2 h) λc p xs f h=>?_) ((Nat.zero_add ds.length).symm▸h2.imp (q:=[]) (q':=[ds.length]) (λ_ _ h=>h) λc p xs f h=>?_)⟩
 ·dsimp only at hq;by_cases hp:H1 p=none
  ·exact e1.free hp
  ·rw[if_neg hp]at hq;exact f1 p q hq
 ·have h':=nd.same e2 h;cases f with
  |ow =>
   refine⟨h'.1,?_⟩;show(if H1 p=none then(τ2 p).map (· ++ [ds.length])else τ1 p)=_;rw[if_neg (h.1.ne)];exact h.2
  |fz=>exact h'
  |al=>exact h'
  |sc=>exact h'
 ·cases f with
  |ow =>
   refine⟨h.1,?_⟩;show(if H1 p=none then(τ2 p).map (· ++ [ds.length])else τ1 p)=_;rw[if_pos (f2 p _ h.2),h.2];simp
  |fz=>exact h
  |al=>exact h
  |sc=>exact h
structure Yl(K:ao)(J:It)(R:ag)(H1:Hp)(items:ae):Prop where
 go:∀i H',aG H1 H'->i<items.length->J.go i H'
 rQ:∀i H' x j5,aG H1 H'->i<items.length->J.rQ i H' x j5->aG H' j5/\∃d,items[i]?=some d/\Rep (aN K j5) (nd K R (λ_=>False) (λ_=>none) j5) [] x d
 stop:∀i H',aG H1 H'->items.length<=i->J.stop i H'
variable {C:Addr}{s₂:Shared}
section
variable {X:Cx}{S:Sx}{k:Nat}{F:ag}{Φ:aX}
def jn(X:Cx)(F:ag)(τ:Addr->Option aU)(fv:aF)(H2:Hp)(p:Addr):Prop:=H2 p≠none/\iy (gP X F) τ fv p
theorem sr(Si:SI X F R τ ρ σ H)(fr:∀p q,τt p=some q->H p=none)(hs:∀i∈fv,i∈fv')(kp kq:aU)(p:Addr)(xs:Nd)(f:Fl)
  (h:nd X.K R (iy (gP X F) τ fv) τt H2 kp p xs f):nd X.K (jn X F τ fv' H2) (λ_=>False) (λ_=>none) H2 kq p xs (a_ f):=by
 cases f with
 |ow=>exact⟨h.1,h.1.ne,.inr (Si.same.free (fr p _ h.2)),λc i e=>absurd (fr p _ h.2) (Si.th p _ e)⟩
 |fz=>exact⟨h.1,h.1.ne,Si.rf p h.2,λc i e=>by rw[Si.rt p h.2]at e;cases e⟩
 |al=>exact⟨h.1,h.1.ne,h.2.mono hs⟩
 |sc=>exact h
theorem Bu{a:Addr}{q:aU}(hl:cH X.K H1 a xs)(rs:az (aN X.K H1) (nd X.K R (λ_=>False) (λ_=>none) H1) q 0 xs items):Yl X.K (JX X.K a) R H1 items where
 go:=λi H' e hi=>⟨xs,xs[i]'(by rw[rs.length];exact hi),e.seq hl,Yw _⟩
 rQ:=λi H' x j5 e hi y=>by
  obtain⟨rfl,y⟩:=y;obtain⟨d,hd,rd⟩:=rs.s_ (y xs (e.seq hl));refine⟨aG.refl _,d,hd,?_⟩;have:=Rep.ie (g:=id) (λ_ _ h=>h) nd.ra rd [];rw[dF]at this;exact this.imp (λ_ _ h=>aN.same e h) λ_ _ _ _ h=>nd.same e h
 stop:=λi H' e hi=>⟨xs,e.seq hl,by rw[rs.length];exact hi⟩
theorem Fn{a:Addr}{q:aU}(hl:aN X.K H1 a xs)(rs:az (aN X.K H1) (nd X.K R (λ_=>False) (λ_=>none) H1) q 0 xs items):Yl X.K (JW X.K a) R H1 items where
 go:=λi H' e hi=>⟨xs,xs[i]'(by rw[rs.length];exact hi),aN.same e hl,Yw _⟩
 rQ:=λi H' x j5 e hi y=>by
  obtain⟨rfl,y⟩:=y;obtain⟨d,hd,rd⟩:=rs.s_ (y xs (aN.same e hl));refine⟨aG.refl _,d,hd,?_⟩;have:=Rep.ie (g:=id) (λ_ _ h=>h) nd.ra rd [];rw[dF]at this;exact this.imp (λ_ _ h=>aN.same e h) λ_ _ _ _ h=>nd.same e h
 stop:=λi H' e hi=>⟨xs,aN.same e hl,by rw[rs.length];exact hi⟩
theorem Fp{lo:Int}{n:Nat}:Yl X.K (xB lo n) R H1 ((List.range n).map λ(k:Nat)=>D.int (lo+(k:Int))) where
 go:=λi H' e hi=>by simpa [xB]using hi
 rQ:=λi H' x j5 e hi y=>by
  obtain⟨rfl,rfl⟩:=y;have fb:i<n:=by simpa using hi
  exact⟨aG.refl _,.int (lo+i),by rw[List.getElem?_map,List.getElem?_range fb];rfl,.int _⟩
 stop:=λi H' e hi=>by simpa [xB]using hi
theorem yB{n:Nat}{t:Tg}{sc:Scope}{cl:List (Str×Addr)}(Si:SI X F R τ ρ σ H2)(hs:∀i∈caps,i∈fv):
  SI (c_ X (bI target++eJ S caps) sc cl C s₂ H2 fp) (iy (gP X F) τ fv) (jn X F τ fv H2) (λ_=>none) (bK n caps ρ) (mx n caps σ) H2:=by
 refine⟨by simp[bK,mx],λi d hi=>?_,λ_ _=>rfl,λp h=>h.1,λp h=>.inl h.2,λ_ _ h=>by simp at h,λ_ _ h=>by simp at h,aG.refl _⟩;unfold bK at hi;have hn:n<=i:=by
  by_cases hn:i<n
  ·rw[List.getElem?_append_left (by simpa using hn),List.getElem?_replicate,if_pos hn]at hi;cases hi
  ·left
 rw[List.getElem?_append_right (by simpa using hn),List.length_replicate,List.getElem?_map]at hi;cases hc:caps[i - n]? with
 |none=>rw[hc]at hi;exact nk hi
 |some ci =>
  rw[hc]at hi;have fb:(ρ[ci]?.getD none).map (aZ a_)=some d:=YB hi;have hr:∃d0,ρ[ci]?=some (some d0)/\aZ a_ d0=d:=by
   cases q:ρ[ci]? with
   |none=>rw[q]at fb;cases fb
   |some o =>
    cases o with
    |none=>rw[q]at fb;cases fb
    |some d0=>rw[q]at fb;exact⟨d0,rfl,YB fb⟩
  obtain⟨d0,h0,rfl⟩:=hr;obtain⟨v,hv,rv⟩:=Si.rep ci d0 h0;refine⟨v,?_,Rep.ie (λ_ _ h=>h) (λkp kq p xs f h=>?_) ((rv.imp (q:=[ci]) (q':=[ci]) (N':=λq p xs f=>nd X.K R (λ_=>False) τ H2 q p xs f/\(f=.ow->∃c,q=c++[ci])) (λ_ _ h=>h) λc p xs f h=>⟨h,λ_=>⟨c,rfl⟩⟩)) [i]⟩
  ·unfold mx;rw[List.getElem?_append_right (by simpa using hn),List.length_replicate,List.getElem?_map,hc];simp[hv]
  ·obtain⟨h,hq⟩:=h;cases f with
   |ow =>
    obtain⟨c,rfl⟩:=hq rfl;refine⟨h.1,h.1.ne,.inr (Si.t0 p _ h.2),λc' i' e=>?_⟩;rw[h.2]at e;have:=Zw List.getLast? (YB e);simp at this;subst this;exact hs _ (Yz hc)
   |fz=>exact⟨h.1,h.1.ne,Si.rf p h.2,λc i e=>by rw[Si.rt p h.2]at e;cases e⟩
   |al=>exact h.2.elim
   |sc=>exact h
theorem ze:∀{es:au},es.all isNm=true->∃xs:List (Str×Pos),es=xs.map λx=>Expr.Name x.1 x.2
 |[],_=>⟨[],rfl⟩
 |e::es,h=>by
  rw[List.all_cons,Bool.and_eq_true]at h;obtain⟨xs,rfl⟩:=ze h.2;obtain⟨x,p,rfl⟩:=km h.1;exact⟨(x,p)::xs,rfl⟩
theorem se(xs:List (Str×Pos)):(xs.map λx=>Expr.Name x.1 x.2).filterMap (λe=>match e with|.Name x _=>some x|_=>none)=xs.map (·.1):=by
 induction xs with
 |nil=>rfl
 |cons x xs ih=>simp[ih]
def An(i:Nat):Nat->DX
 |0=>Ih
 |n+1=>Ao (nB i) (An (i+1) n)
theorem uJ{X:Cx}(hN:X.N.Nodup):∀(xs:List (Str×Pos)) (i:Nat),(∀(j:Nat) x,xs[j]?=some x->X.N[i+j]?=some x.1/\X.env.scope.names.lookup x.1=some .local) ->
  JV X (xs.map λx=>Expr.Name x.1 x.2) (An i xs.length)/\(assignEach (xs.map λx=>Expr.Name x.1 x.2) X.env).length=xs.length/\(assignEach (xs.map λx=>Expr.Name x.1 x.2) X.env).findIdx? (·.1)=none
 |[],_,_=>⟨uI,rfl,rfl⟩
 |x::xs,i,h=>by
  obtain⟨h1,h2,h3⟩:=uJ hN xs (i+1) λj y hy=>by
   have:=h (j+1) y (by simpa using hy)
   rwa [show i+(j+1)=i+1+j by left]at this
  obtain⟨g1,g2⟩:=h 0 x rfl;refine⟨qE (oA hN g1 (.inl g2) (.inr g2)) h1 rfl,?_,?_⟩
  ·show(_::assignEach _ X.env).length=_;rw[List.length_cons,h2];rfl
  ·show(((false,assign (.Name x.1 x.2) X.env)::assignEach (xs.map λx=>Expr.Name x.1 x.2) X.env)).findIdx? (·.1)=none;rw[List.findIdx?_cons];simp[h3]
end
section
variable {X:Cx}{F R:ag}{τ:Addr->Option aU}{ρ:aV}{σ σ':St}{H:Hp}
theorem SI.yC{i:Nat}{v:V}{d:D}(Si:SI X F R τ ρ σ H)(rp:Rep (aN X.K H) (nd X.K R (λ_=>False) (λ_=>none) H) [] v d)(hi:i<ρ.length):SI X F R τ (ρ.set i (some d)) (σ.set i (some v)) H:=by
 refine⟨by simp[Si.len],λj d' hj=>?_,Si.rt,Si.rh,Si.rf,Si.th,Si.t0,Si.same⟩;by_cases gU:j=i
 ·subst gU;rw[List.getElem?_set_self hi]at hj;cases hj;refine⟨v,List.getElem?_set_self (by rw[<- Si.len];exact hi),rp.imp (q':=[j]) (λ_ _ h=>h) λc p xs f h=>?_⟩;cases f with
  |ow=>exact nomatch h.2
  |fz=>exact h
  |al=>exact h
  |sc=>exact h
 ·rw[List.getElem?_set_ne (Ne.symm gU)]at hj;obtain⟨w,hw,iT⟩:=Si.rep j d' hj;exact⟨w,by rw[List.getElem?_set_ne (Ne.symm gU)];exact hw,iT⟩
theorem SI.sig(Si:SI X F R τ ρ σ H)(hl:σ'.length=σ.length)(h:∀(i:Nat) d,ρ[i]?=some (some d)->σ'[i]?=σ[i]?):SI X F R τ ρ σ' H :=
 ⟨by rw[hl];exact Si.len,λi d hi=>let ⟨v,hv,r⟩:=Si.rep i d hi;⟨v,by rw[h i d hi];exact hv,r⟩,Si.rt,Si.rh,Si.rf,Si.th,Si.t0,Si.same⟩
theorem k8{Q:St->Hp->Prop}(σ0:St)(hi:Nat):∀{m i:Nat} {vs:af} {ds:ae} {kp:aU} {q:Nat} {σ:St} {ρ ρ':aV},i+m=hi->az (aN X.K H) (nd X.K R (λ_=>False) (λ_=>none) H) kp q vs ds->SI X F R τ ρ σ H->eQ (List.range' i m) ds ρ=ok ρ' ->
  σ.length=σ0.length->(∀j,hi<=j->σ[j]?=σ0[j]?)->(∀σ',σ'.length=σ0.length->(∀j,hi<=j->σ'[j]?=σ0[j]?)->SI X F R τ ρ' σ' H->Q σ' H)->An i m vs σ H Q
 |0,_,_,_,_,_,σ,_,_,_,.nil,Si,e,h1,h2,hq=>by
  cases e;exact⟨rfl,hq σ h1 h2 Si⟩
 |0,_,_,_,_,_,_,_,_,_,.cons _ _,_,e,_,_,_=>by cases e
 |m+1,_,_,_,_,_,_,_,_,_,.nil,_,e,_,_,_=>by cases e
 |m+1,i,_,_,_,_,σ,ρ,_,him,.cons (v:=v) (d:=d) h t,Si,e,h1,h2,hq=>by
  change (if _ then _ else _)=_ at e;split at e
  ·rename_i fb;have fG:=Si.yC (i:=i) (Rep.oN h) fb;refine⟨_,_,rfl,k8 σ0 hi (by left) t fG e (by simpa using h1) (λj hj=>?_) hq⟩;rw[List.getElem?_set_ne (by left)];exact h2 j hj
  ·cases e
end
section
variable {X:Cx}{S:Sx}{k:Nat}{F:ag}{Φ:aX}
theorem FE{n:Nat}{t:Tg}{sc:Scope}{cl:List (Str×Addr)}(MS:X.calm=true)(co:iG S n t caps target sc):
  ∃g,PG (c_ X (bI target++eJ S caps) sc cl C s₂ H2 fp) target g/\∀(F' R':ag) (x:V) (d:D) (σ':St) (j5:Hp) (Q:St->Hp->Prop) (ρb ρ1:aV),
   SI (c_ X (bI target++eJ S caps) sc cl C s₂ H2 fp) F' R' (λ_=>none) ρb σ' j5->Rep (aN X.K j5) (nd X.K R' (λ_=>False) (λ_=>none) j5) [] x d->aP cw d=false->cg t d ρb=ok ρ1 ->
   (∀σ2,σ2.length=σ'.length->(∀j,n<=j->σ2[j]?=σ'[j]?)->SI (c_ X (bI target++eJ S caps) sc cl C s₂ H2 fp) F' R' (λ_=>none) ρ1 σ2 j5->Q σ2 j5)->g x σ' j5 Q:=by
 have HG:∀x∈bI target,(relabel sc X.env).names.lookup x=some .local:=λx hx=>lookup_relabel_local (co.tl x hx);rcases co.tg with ⟨x,p,rfl,rfl⟩|⟨es,kk,p,rfl,rfl,wV⟩
 ·have hn:n=1:=co.n;subst hn;refine⟨nB 0,oA co.nd rfl (.inl (HG x (List.mem_singleton.mpr rfl:x∈[x]))) (.inr (HG x (List.mem_singleton.mpr rfl:x∈[x]))),λF' R' v d σ' j5 Q ρb ρ1 Si rp _ e hq=>?_⟩;simp only[cg]at e;split at e
  ·rename_i hi;cases e;refine hq _ (by simp) (λj hj=>?_) (Si.yC rp hi);rw[List.getElem?_set_ne (by left)]
  ·cases e
 ·obtain⟨xs,rfl⟩:=ze wV;have hN:bI (.Tuple (xs.map λx=>Expr.Name x.1 x.2) kk p)=xs.map (·.1):=se xs;have hn:n=xs.length:=by rw[co.n,hN,List.length_map]
  have:=uJ (X:=c_ X (bI (.Tuple (xs.map λx=>Expr.Name x.1 x.2) kk p)++eJ S caps) sc cl C s₂ H2 fp) co.nd xs 0 (λj y hy=>by
   refine⟨?_,HG y.1 (by rw[hN];exact List.mem_map.mpr ⟨y,Yz hy,rfl⟩)⟩;show(bI (.Tuple (xs.map λx=>Expr.Name x.1 x.2) kk p)++eJ S caps)[0+j]?=_;have hj:j<xs.length:=by
    by_cases hj:j<xs.length
    ·exact hj
    ·rw[List.getElem?_eq_none (by left)]at hy;cases hy
   rw[hN,Nat.zero_add,List.getElem?_append_left (by simpa using hj),List.getElem?_map,hy];rfl)
  obtain⟨h1,h2,h3⟩:=this;refine⟨_,yU MS h1 h2 h3,λF' R' v d σ' j5 Q ρb ρ1 Si rp ho e hq=>?_⟩;cases d<;>try (simp[cg]at e;done)
  rename_i ds;simp only[cg]at e;split at e
  ·cases e
  ·cases rp with
   | @tup _ a ys _ hp rs =>
    rw[List.length_map]at e;have e':eQ (List.range' 0 xs.length) ds ρb=ok ρ1:=by rw[<- List.range_eq_range'];exact e
    refine⟨a,ys,rfl,hp,?_,k8 (X:=c_ X (bI (.Tuple (xs.map λx=>Expr.Name x.1 x.2) kk p)++eJ S caps) sc cl C s₂ H2 fp) σ' n (by left) rs Si e' rfl (λ_ _=>rfl) hq⟩;rw[rs.length];have:∀(is:aF) (ds:ae) (ρ ρ':aV),eQ is ds ρ=ok ρ'->ds.length=is.length:=by
     intro is;induction is with
     |nil=>intro ds ρ ρ' e;cases ds with|nil=>rfl|cons _ _=>cases e
     |cons i is ih=>intro ds ρ ρ' e;cases ds with
      |nil=>cases e
      |cons d ds =>
       change (if _ then _ else _)=_ at e;split at e
       ·simp[ih ds _ _ e]
       ·cases e
    rw[this _ _ _ _ e',List.length_range']
theorem Te:∀f:Fl,cw (a_ f)=false:=by intro f;cases f<;>rfl
mutual
theorem CB:∀d:D,aP cw (aZ a_ d)=false
 |.bD=>by simp[aZ,aP]
 |.bl _=>by simp[aZ,aP]
 |.int _=>by simp[aZ,aP]
 |.tup ds=>by simp[aZ,aP,eR ds]
 |.lst f ds=>by simp[aZ,aP,eR ds,Te]
 |.cy f ks vs=>by simp[aZ,aP,eR vs,Te]
theorem eR:∀ds:ae,aK cw (aD a_ ds)=false
 |[]=>by simp[aD,aK]
 |d::ds=>by simp[aD,aK,CB d,eR ds]
end
theorem vh{h:Heap}{a:Addr}{o:HO}(x:jD P w H h)(hn:H a=none)(new:cv P w (upd H a o) h a o):jD P w (upd H a o) h:=λb u e=>by
 by_cases hb:b=a
 ·subst hb;rw[aW]at e;cases e;exact new
 ·rw[aS hb]at e;exact(x b u e).mq (λc v _ q=>q) (λc q=>by rw[aS (bU q hn)];exact q) λc xs q=>by rw[aS (bU q hn)];exact q
structure XY(X X':Cx)(F' R':ag)(n:Nat)(base:aV)(σ0:St)(fp:aM)(tn:Nat->Heap->Prop)(H2:Hp)(D:Addr)(items:List DI.D)(bind:DI.D->O aV)(test:aV->O Bool)(el:aV->O DI.D)(all:List DI.D)(m:Nat)(s':Shared):Prop where
 ex:∃(i:Nat) (vs:af) (aC:ai) (nn:Nat) (σ':St) (H':Hp) (dn rest:List DI.D),m=items.length - i/\i<=items.length/\Inv X' [(D,du aC nn)] σ' H' s'/\tn i s'.heap/\(∀b∈fp,H' b=none)/\Vals vs aC/\aG H2 H' /\
  SI X' F' R' (λ_=>none) base σ' H'/\b0 X.K (gP X' F') R' (λ_=>none) [] H2 H' vs dn/\gj bind test el (items.drop i)=ok rest/\dn++rest=all
end
theorem b0.go(h:b0 K G R τ fv H H1 vs ds)(e:aG H1 H2):b0 K G R τ fv H H2 vs ds :=
 let ⟨τt,h1,h2⟩:=h;⟨τt,h1,h2.imp (λ_ _ h=>aN.same e h) λ_ _ _ _ h=>nd.same e h⟩
theorem lq:∀{ds:ae} {d:D},aK cw ds=false->d∈ds->aP cw d=false
 |[],_,_,h=>nomatch h
 |e::ds,d,h,hm=>by
  rw[aK,Bool.or_eq_false_iff]at h;rcases List.mem_cons.mp hm with rfl|z
  ·exact h.1
  ·exact lq h.2 z
theorem wx{d:D}(h:my d=ok items):∀d∈items,aP cw d=false:=by
 unfold my at h;split at h
 ·cases h;exact λd hd=>lq (eR _) hd
 ·cases h
theorem sQ{ik:IK}{xs:ae}(h:dv Φ ik xs=ok items):∀d∈items,aP cw d=false:=by
 cases ik with
 |cj p=>obtain⟨d,_,h⟩:=aB h;exact wx h
 |jr =>
  cases xs with
  |nil=>cases h
  |cons x t=>cases x<;>first | (cases h;done) | (cases t with
   |cons _ _=>cases h
   |nil =>
    obtain⟨_,h⟩:=qU h;subst h;intro d hd;obtain⟨k,_,rfl⟩:=List.mem_map.mp hd;rfl)
 |seq =>
  cases xs with
  |nil=>cases h
  |cons x t=>cases x<;>first | (cases h;done) | (cases t with
   |cons _ _=>cases h
   |nil=>cases h;exact λd hd=>lq (eR _) hd)
theorem sR{n:Nat}{i:Nat}{d:D}(h:(bK n caps ρ)[i]?=some (some d)):n<=i:=by
 unfold bK at h;by_cases hn:i<n
 ·rw[List.getElem?_append_left (by simpa using hn),List.getElem?_replicate,if_pos hn]at h;cases h
 ·left
variable {c' elt:CE}{bx cs es:aA}
section
variable {X:Cx}{S:Sx}{k:Nat}{F:ag}{Φ:aX}
theorem zA{n:Nat}{t:Tg}{sc:Scope}{cl:List (Str×Addr)}(L:Lk X S k Φ)(co:iG S n t caps target sc):
  Lk (c_ X (bI target++eJ S caps) sc cl C s₂ H2 fp) (S.inner target caps sc) k Φ:=by
 refine⟨?_,rfl,co.nd,L.calm,L.room,L.bl,λf x h=>⟨(L.fn f x h).ex⟩,L.cs,L.pr⟩;show relabel sc X.env=qx sc S.sc;rw[<- L.sc];rfl
theorem rC(L:Lk X S k Φ){n:Nat}{t:Tg}{ik:IK}{ifs:au}{sc:Scope}(co:iG S n t caps target sc)(xI:nh iter=true)
    (hE:∀(X':Cx) (F':ag),Lk X' (S.inner target caps sc) k Φ->PE X' gN (tD X' F' Φ elt))
    (hC:(bx=[]/\ifs=[])\/∃c e,bx=[c]/\ifs=[e]/\∀(X':Cx) (F':ag),Lk X' (S.inner target caps sc) k Φ->PT X' e (eN X' F' Φ c))
    (hI:∀(pins:ak) (s:Shared) (σ:St) (H:Hp) (R:ag) (τ:Addr->Option aU) (ρ:aV) (xs items:ae),Inv X pins σ H s->SI X F R τ ρ σ H->cc Φ es ρ=ok xs->dv Φ ik xs=ok items->∀Rr:It->Hp->Prop,
      (∀J H2,aG H H2->Yl X.K J (jn X F τ (caps++cL es) H2) H2 items->Rr J H2)->wpAny (model X.prog X.w) X.A (eval iter X.env) (λv s1=>wpAny (model X.prog X.w) X.A (pyIter v) (A_ X pins σ target Rr) X.xe s1) X.xe s)
    {use:Option (Value->Sem Unit)} {Post:av} {pins:ak} {s:Shared} {d:D} {R4:Pos} (I:Inv X pins σ H s) (Si:SI X F R τ ρ σ H) (ev:bj Φ (.comp n t caps ik es bx elt) ρ=ok d)
    (Mt:∀(acc C:Addr) (H1:Hp) (s1:Shared) (m:aO),s1.heap.Ns C m->(C≠X.env.locals/\X.s₀.heap.objs.size<=C/\(∀x c,X.env.cells.lookup x=some c->c≠C)/\(∀p∈X.pn++pins,p.1≠C)/\H1 C=none)->(∀h',Heap.SameBut C s1.heap h'->Inv X pins σ H1 { s1 with heap:=h' })->aG H H1 ->
      bM X.K (gP X F) R τ (fI (.comp n t caps ik es bx elt)) H H1 (.ref acc) d->compPost (model X.prog X.w) X.A X.xe use Post (.ref acc) C (.ok .next) s1) :
    wpAny (model X.prog X.w) X.A (comprehension (.ListComp gN [⟨target,iter,ifs,0⟩] sc pos) sc X.env R4 (newList []) false (eval iter X.env) use) Post X.xe s:=by
  obtain⟨xs,cS,ev⟩:=aB ev;obtain⟨items,tE,ev⟩:=aB ev;obtain⟨ds,IT,ev⟩:=aB ev;simp only[EG]at ev;obtain⟨oX,rfl⟩:=ev;have Mx:=sQ tE;obtain⟨cl,MR,jY,sW⟩:=tJ (env:=X.env) (sc:=sc) (λx hx=>I.ok.has x (by
    show X.env.scope.names.lookup x=some .cell\/X.env.scope.names.lookup x=some .free;rw[L.sc];exact co.free x hx))
  have lH:∀x,foldedSetIterable iter X.env x=pure x:=by intro x;cases iter<;>first|rfl | (cases xI;done)
  refine wpAny_comprehension_free (use:=use) rfl lH MR co.kind co.loc (YC (hI pins s σ H R τ ρ xs items I Si cS tE (λJ H2=>aG H H2/\Yl X.K J (jn X F τ (caps++cL es) H2) H2 items) (λJ H2 e y=>⟨e,y⟩)) (λxv s₁ h₁=>YC h₁ (λQR s₂ h₂=>?_) λ_ _ e=>e) λ_ _ e=>e);obtain⟨it,fp,tn,J,H2,rfl,I2,T,Kw,f2,e2,yl⟩:=h₂;have tV:=Si.go e2;have HK:∀b∈fp,b<s₂.heap.objs.size:=λb hb=>let ⟨o,ho,_⟩:=T.obj 0 _ Kw b hb;Yr ho;refine YO (wpAny_newFunctionEnv co.zc (by intro y hy;simp at hy) (λh₁ oT lG=>?_) co.kind);dsimp only at oT lG ⊢;generalize RI:s₂.heap.push { cls:=.type "list",dict:=none,data:=.seq ([]:ai).toArray }=G2 at oT lG ⊢;have Uu:G2.objs.size=s₂.heap.objs.size+1:=by rw[<- RI,Heap.size_push]
  have OO:s₂.heap.objs.size≠s₂.heap.objs.size+1:=Yv (YJ _);rw[Uu]at oT lG;have old:∀b o,s₂.heap.get? b=some o->h₁.get? b=some o:=λb o e=>lG.extBut b o (Yv (YA (Yr e))) (Ym _ (RI▸Ym _ e));have sZ:h₁.get? s₂.heap.objs.size=some (du [] 0):=lG.extBut _ _ OO (Ym _ (RI▸Yt _ rfl))
  let X':=c_ X (bI target++eJ S caps) sc cl (s₂.heap.objs.size+1) s₂ H2 fp
  let F':=iy (gP X F) τ (caps++cL es)
  let R':=jn X F τ (caps++cL es) H2
  have L':Lk X' (S.inner target caps sc) k Φ:=zA L co;have I4:=λtk=>zT (h₁:=h₁) (tk:=tk) L co I2 jY sW f2 HK (by simpa using oT) old sZ;have S4:SI X' F' R' (λ_=>none) (bK n caps ρ) (mx n caps σ) H2:=yB (t:=t) tV (λi hi=>by simp[hi]);obtain⟨g,hg,Aa⟩:=FE (X:=X) (S:=S) (cl:=cl) (fp:=fp) (s₂:=s₂) (H2:=H2) (C:=s₂.heap.objs.size+1) L.calm co;have RJ:s₂.heap.objs.size∉X'.fs:=λz=>by
    rcases List.mem_cons.mp (I2.jk _ z)with w|w
    · exact absurd w (Y3 I2.lt)
    · exact I2.G3 (Ys _) w
  have HP:∀x c,cl.lookup x=some c->c≠s₂.heap.objs.size:=λx c e=>by
    obtain⟨v,q⟩:=I2.cell x c (jY x c e);exact Yv q.lt
  have C4:∀b∈fp,b≠X'.env.locals/\b∉X'.fs/\(b∈X'.ex\/X'.s₀.heap.objs.size<=b)/\(∀x c,X'.env.cells.lookup x=some c->c≠b):=λb hb =>
    ⟨Yv (YA (HK b hb)),λz=>by
      rcases List.mem_cons.mp (I2.jk b z)with w|w
      · exact(f2 b hb).2.1 w
      · exact(f2 b hb).2.2.1 w,.inl hb,λx c e=>(f2 b hb).2.2.2.2.1 x c (jY x c e)⟩
  have MK:∀b∈fp,b≠s₂.heap.objs.size:=λb hb=>Yv (HK b hb);have fin:∀(vs:af) (aC:ai) (nn:Nat) (σ':St) (H':Hp) (s1:Shared),Inv X' [(s₂.heap.objs.size,du aC nn)] σ' H' s1->Vals vs aC->aG H2 H'->b0 X.K (gP X' F') R' (λ_=>none) [] H2 H' vs ds ->
      compPost (model X.prog X.w) X.A X.xe use Post (.ref s₂.heap.objs.size) (s₂.heap.objs.size+1) (.ok .next) s1:=by
    intro vs aC nn σ' H' s1 I1 rv sm B9;obtain⟨m,hn,_⟩:=I1.loc;obtain⟨pD,nD,_,_,_⟩:=I1.pin (s₂.heap.objs.size,du aC nn) (Yx _ Yo);have bs:=I1.base;have EA:∀b o,s₂.heap.get? b=some o->b≠s₂.heap.objs.size+1:=λb o e=>Yv (YA (Yr e));have VP:∀b o,s₂.heap.get? b=some o->b≠s₂.heap.objs.size:=λb o e=>Yv (Yr e);have Pn:∀b u,H' b=some u->upd H' s₂.heap.objs.size (.lst vs) b=some u:=λb u e=>by rw[aS (bU e nD)];exact e
    have hlen:vs.length<=sizeLine:=by
      obtain⟨_,_,rr⟩:=B9;have hz:sizeLine=16777216:=Zx;have hc:eO=1000000:=rfl;rw[rr.length];left
    have IX:∀h',Heap.SameBut (s₂.heap.objs.size+1) s1.heap h'->Inv X pins σ (upd H' s₂.heap.objs.size (.lst vs)) { s1 with heap:=h' }:=λh' zX=>by
      have un:Un (xN X.stack) fp H2 (upd H' s₂.heap.objs.size (.lst vs)) s₂.heap h' :=
        ⟨λb o e n hb hx=>zX.extBut b o (EA b o e) (bs.keep b o e n hb hx),
         λb o e n hb hx=>let ⟨sl,q⟩:=bs.slot b o e n hb hx;⟨sl,zX.extBut b _ (EA b o e) q⟩,
         λb o e n hx=>by rw[aS (VP b o e)];exact bs.free b o e n hx,
         λb o e hx=>let ⟨o',q⟩:=bs.there b o e hx;⟨o',zX.extBut b _ (EA b o e) q⟩,
         λb xs e=>Pn b _ (bs.nY b xs e),λb o u e=>Pn b _ (bs.mH b o u e),λb ps e=>let ⟨more,q⟩:=bs.nZ b ps e;⟨more,Pn b _ q⟩⟩
      have Rk:jD X.prog X.w H' h':=λa o e=>(I1.cD a o e).mq (λb u hb q=>zX.extBut b u (by
        rintro rfl;have hf:H' (s₂.heap.objs.size+1)=none:=I1.free;rcases hb with z|z
        · rw[<- z,hf]at e;cases e
        · rw[hf]at z;cases z) q) (λ_ q=>q) λ_ _ q=>q
      have Rj:jD X.prog X.w (upd H' s₂.heap.objs.size (.lst vs)) h':=vh Rk nD ⟨hlen,aC,nn,rv,zX.extBut _ _ OO pD⟩;exact I2.NB (ch:=fp) I1.os un Rj I1.bare λb hb=>⟨(f2 b hb).2.2.2.1,(f2 b hb).2.1,(f2 b hb).2.2.2.2.1,(f2 b hb).2.2.2.2.2⟩
    have eS:aG H' (upd H' s₂.heap.objs.size (.lst vs)):=aG.upd nD;obtain⟨τt,fr,rs⟩:=B9;have QC:s₂.heap.objs.size+1≠s₂.heap.objs.size:=Nat.succ_ne_self _;refine Mt s₂.heap.objs.size (s₂.heap.objs.size+1) _ s1 m hn ⟨Y3 (YA I2.lt),ZW I2.sz,λx c e=>?_,λp hp=>?_,?_⟩ IX ((e2.trans sm).trans eS) ⟨λq=>if q=s₂.heap.objs.size then some []else τt q,λq z hz=>?_,.lst ⟨aW,by simp⟩ (az.map (q:=[]) (q':=[]) (λ_ _ h=>aN.same eS h) (λc p ys f h=>?_) rs [] rfl)⟩
    · obtain⟨v,z⟩:=I2.cell x c e
      exact Yv (YA z.lt)
    · exact Yv (YA (Yr (I2.pin p hp).1))
    · rw[aS QC];exact I1.free
    · by_cases sT:q=s₂.heap.objs.size
      · rw[sT];exact e2.free (sm.free nD)
      · simp only[sT,if_false]at hz;exact e2.free (fr q z hz)
    · have h':=nd.same eS h
      have SF:∀p,gP X' F' p->iy (gP X F) τ (caps++cL es) p:=λp hp=>hp.elim id λz=>⟨.inr (tV.same.free z),λc i e=>absurd z (tV.th p _ e)⟩
      cases f with
      |ow =>
        have sT:p≠s₂.heap.objs.size:=by
          intro z;subst z;exact h.1.ne nD
        refine⟨h'.1,?_⟩;show(if p=s₂.heap.objs.size then some []else τt p)=_;rw[if_neg sT];exact h'.2
      |fz=>exact⟨h'.1,h'.2.2⟩
      |al=>exact⟨h'.1,SF p h'.2.1⟩
      |sc=>exact h'
  have Kc:∀(P:ak) (ρ1:aV) (b:Bool) (σ2:St) (H5:Hp) (s6:Shared),fE Φ bx ρ1=ok b->Inv X' P σ2 H5 s6->SI X' F' R' (λ_=>none) ρ1 σ2 H5 ->
      wpAny (model X.prog X.w) X.A (forIn ifs true λc r=>if r=true then do let ok <- isTrue c X'.env (eval c X'.env);pure (ForInStep.yield ok)else pure (ForInStep.yield r)) (λQw s7=>Qw=b/\∃H7,Inv X' P σ2 H7 s7/\aG H5 H7) (λ_ _=>False) s6:=by
    intro P ρ1 b σ2 H5 s6 eb I6 S6;rcases hC with ⟨rfl,rfl⟩|⟨c,e,rfl,rfl,hPT⟩
    · rw[fE]at eb;cases eb
      exact wpAny_tests_nil ⟨rfl,H5,I6,aG.refl _⟩
    · rw[fE]at eb
      obtain⟨b',Xl,eb⟩:=aB eb;have hb:b'=b:=by
        cases b' with
        |true=>rw[if_pos rfl,fE]at eb;cases eb;rfl
        |false=>rw[if_neg (by simp)]at eb;cases eb;rfl
      subst hb;refine wpAny_tests_one (YC (hPT X' F' L' P s6 σ2 H5 (λU2 H7=>U2=b'/\aG H5 H7) I6 ⟨R',_,ρ1,b',S6,Xl,λH7 e7=>⟨rfl,e7⟩⟩) (λU2 s7 ⟨H7,I7,hb,e7⟩=>⟨hb,H7,I7,e7⟩) λ_ _ e=>e)
  have loop:∀tk,codeAny (model X.prog X.w) X.A (.compLoop (.ListComp gN [⟨target,iter,ifs,0⟩] sc pos) 0 (.ref it) (.ref s₂.heap.objs.size) X'.env)
      (compPost (model X.prog X.w) X.A X.xe use Post (.ref s₂.heap.objs.size) (s₂.heap.objs.size+1)) { s₂ with heap:=h₁,toks:=tk }:=by
    intro tk;refine o9 (XY X X' F' R' n (bK n caps ρ) (mx n caps σ) fp tn H2 s₂.heap.objs.size items (λd=>cg t d (bK n caps ρ)) (λρ'=>fE Φ bx ρ') (λρ'=>bj Φ elt ρ') ds) ?_ items.length
      ⟨0,[],[],0,mx n caps σ,H2,[],ds,rfl,YQ _,I4 tk,T.keep _ _ _ Kw (λb _ o e=>old b o e),λb hb=>(f2 b hb).1,.nil,aG.refl _,S4,.nil,by rw[List.drop_zero];exact IT,rfl⟩
    rintro m s' ⟨i,vs,aC,nn,σ',H',dn,rest,hm,hi,I',kY,fr',rv,sm,fG,B9,dX,eall⟩;have Ij:∀b∈fp,me X' [(s₂.heap.objs.size,du aC nn)] H' b:=λb hb=>⟨fr' b hb,(C4 b hb).1,(C4 b hb).2.1,(C4 b hb).2.2.1,(C4 b hb).2.2.2,λp hp=>by
      have xG:p=(s₂.heap.objs.size,du aC nn):=by simpa [X',c_]using hp
      rw[xG];exact(MK b hb).symm⟩
    by_cases fL:i<items.length
    · refine YC (T.item X' rfl rfl rfl L.calm i _ s' σ' H' (λ_ _=>False) I' Ij kY (yl.go i H' sm fL)) (λr s1 h4=>?_) λ_ _ e=>e
      obtain⟨u,hr,h4⟩:=h4;subst hr;refine YC h4 (λ_ s5 h5=>?_) λ_ _ e=>e;obtain⟨x,H5,I5,r5,y5,FQ,RZ⟩:=h5;obtain⟨e5,dd,hd,rd⟩:=yl.rQ i H' x H5 sm fL y5;have SR:=I5.pinned (fp:=fp) (λb hb=>⟨RZ b hb,(Ij b hb).2⟩) (T.obj _ _ FQ);have qY:items.drop i=dd::items.drop (i+1):=by
        rw[List.drop_eq_getElem_cons fL];rw[List.getElem?_eq_getElem fL]at hd;cases hd;rfl
      rw[qY,gj]at dX;obtain⟨ρ1,eb,dX⟩:=aB dX;obtain⟨bb,et,dX⟩:=aB dX;refine YC (hg _ s5 σ' H5 x u (λσ2 H6=>H6=H5/\σ2.length=σ'.length/\(∀j,n<=j->σ2[j]?=σ'[j]?)/\SI X' F' R' (λ_=>none) ρ1 σ2 H5) SR r5
        (Aa F' R' x dd σ' H5 _ (bK n caps ρ) ρ1 (fG.go e5) rd (Mx dd (Yz hd)) eb λσ2 g1 g2 g3=>⟨rfl,g1,g2,g3⟩)) (λ_ s6 h6=>?_) λ_ _ e=>e
      obtain⟨σ2,H6,I6,rfl,g1,g2,S6⟩:=h6;refine YC (Kc _ ρ1 bb σ2 H6 s6 et I6 S6) (λQw s7 h7=>?_) λ_ _ e=>e;obtain⟨rfl,H7,I7,e7⟩:=h7;have Pu:∀{P:ak} {σ3:St} {H8:Hp} {s8:Shared},Inv X' (P++fW fp s5.heap) σ3 H8 s8->tn (i+1) s8.heap/\∀b∈fp,H8 b=none:=λ{P σ3 H8 s8} I8 =>
        ⟨T.keep _ _ _ FQ λb hb o e=>(I8.pin (b,o) (Yx _ (Yx _ (fg hb e)))).1,λb hb=>by
          obtain⟨o,e,_⟩:=T.obj _ _ FQ b hb;exact(I8.pin (b,o) (Yx _ (Yx _ (fg hb e)))).2.1⟩
      have EZ:∀{H8:Hp},aG H7 H8->SI X' F' R' (λ_=>none) (bK n caps ρ) σ2 H8:=λ{H8} e8=>(fG.go ((e5.trans e7).trans e8)).sig g1 λj d hj=>g2 j (sR hj);cases Qw with
      |false =>
        rw[if_neg (by simp)]at dX ⊢;exact⟨items.length - (i+1),by left,i+1,vs,aC,nn,σ2,H7,dn,rest,rfl,fL,I7.iO,(Pu I7).1,(Pu I7).2,rv,(sm.trans e5).trans e7,EZ (aG.refl _),B9.go (e5.trans e7),dX,eall⟩
      |true =>
        rw[if_pos rfl]at dX ⊢;obtain⟨y,ey,dX⟩:=aB dX;obtain⟨ys,Av,dX⟩:=aB dX;cases dX;refine YC (hE X' F' L' _ s7 σ2 H7 (λv H8=>aG H7 H8/\bM X.K (gP X' F') R' (λ_=>none) [] H7 H8 v y) I7 ⟨R',_,ρ1,y,S6.go e7,ey,λv H8 e8 r8=>⟨e8,?_⟩⟩) (λu8 s8 h8=>?_) λ_ _ e=>e
        · obtain⟨τt,fr,rr⟩:=r8
          exact⟨τt,fr,rr.imp (q:=[]) (q':=[]) (λ_ _ h=>h) λc p ys f h=>h.mono id (λh=>⟨h.1,λ_ _ e=>by cases e⟩) id⟩
        · obtain⟨v8,H8,I8,Vv,e8,r8⟩:=h8
          obtain⟨pD,nD,_,_,_⟩:=I8.pin (s₂.heap.objs.size,du aC nn) (Yx _ (YN _ Yo));have hlen:aC.length<=1000000:=by
            obtain⟨_,_,rr⟩:=B9;have h1:dn.length<=ds.length:=by rw[<- eall,List.length_append];left
            have hc:eO=1000000:=rfl;rw[<- rv.length,rr.length];left
          have hz:sizeLine=16777216:=Zx;refine ZG PySem.F.slot_list_append ⟨_,pD,rfl⟩ PySem.F.entry_list_append (PySem.F.args_list_append_2 _ _) (PySem.list_append s₂.heap.objs.size aC.toArray nn u8 (by rw[List.size_toArray];left)) ⟨pD,?_⟩;have q:=PySem.IsL.update pD (λx=>x.push u8);have Mr:aC.toArray.push u8=(aC++[u8]).toArray:=by simp
          rw[Mr]at q;obtain⟨Ow,q'⟩:∃Ow,(s8.heap.update s₂.heap.objs.size (Obj.mapSeq λx=>x.push u8)).get? s₂.heap.objs.size=some (du (aC++[u8]) Ow):=⟨_,q⟩
          have XH:Inv X' (fW fp s5.heap) σ2 H8 s8:=I8.gG λp hp=>I8.pin p (Yx _ (Yx _ hp));have U5:Inv X' (fW fp s5.heap) σ2 H8 { s8 with heap:=s8.heap.update s₂.heap.objs.size (Obj.mapSeq λx=>x.push u8),toks:=s8.toks } :=
            XH.turned (it:=s₂.heap.objs.size) (λb o hb e=>(Ze s8.heap (Obj.mapSeq λx=>x.push u8) (aat hb)).trans e) nD OO (.inr (Ys _)) HP λp hp=>by
              have xG:p∈fW fp s5.heap:=by simpa [X',c_]using hp
              exact MK p.1 (ng xG).1
          have kp:=Pu (P:=[]) (by rw[List.nil_append];exact U5);refine⟨items.length - (i+1),by left,i+1,vs++[v8],aC++[u8],Ow,σ2,H8,dn++[y],ys,rfl,fL,U5.gG (λp hp=>?_),kp.1,kp.2,rv.append (.cons Vv .nil),((sm.trans e5).trans e7).trans e8,EZ e8,b0.snoc ((sm.trans e5).trans e7) e8 (B9.go (e5.trans e7)) r8,Av,by rw[List.append_assoc];exact eall⟩;have xG:p=(s₂.heap.objs.size,du (aC++[u8]) Ow):=by simpa using hp
          rw[xG];exact⟨q',nD,OO,RJ,λv z=>by cases z⟩
    · refine YC (T.done X' rfl rfl rfl L.calm i _ s' σ' H' (λ_ _=>False) I' Ij kY (yl.stop i H' sm (by left))) (λr s1 h1=>?_) λ_ _ e=>e
      obtain⟨hr,I1⟩:=h1;subst hr;have Ro:items.drop i=[]:=List.drop_eq_nil_of_le (by left);rw[Ro,gj]at dX;cases dX;rw[List.append_nil]at eall;subst eall;exact fin vs aC nn σ' H' s1 I1 rv sm B9
  have key:=λtk=>codeAny_compStart_list (loop tk) (T.self X.A 0 _ _ _ (T.keep _ _ _ Kw λb _ o e=>old b o e) (loop tk));rw[Uu];exact key _
theorem B2(L:Lk X S k Φ){n:Nat}{t:Tg}{ik:IK}{ifs:au}{sc:Scope}(co:iG S n t caps target sc)(xI:nh iter=true)
  (hE:∀(X':Cx) (F':ag),Lk X' (S.inner target caps sc) k Φ->PE X' gN (tD X' F' Φ elt))
  (hC:(bx=[]/\ifs=[])\/∃c e,bx=[c]/\ifs=[e]/\∀(X':Cx) (F':ag),Lk X' (S.inner target caps sc) k Φ->PT X' e (eN X' F' Φ c))
  (hI:∀(pins:ak) (s:Shared) (σ:St) (H:Hp) (R:ag) (τ:Addr->Option aU) (ρ:aV) (xs items:ae),Inv X pins σ H s->SI X F R τ ρ σ H->cc Φ es ρ=ok xs->dv Φ ik xs=ok items->∀Rr:It->Hp->Prop,
   (∀J H2,aG H H2->Yl X.K J (jn X F τ (caps++cL es) H2) H2 items->Rr J H2)->wpAny (model X.prog X.w) X.A (eval iter X.env) (λv s1=>wpAny (model X.prog X.w) X.A (pyIter v) (A_ X pins σ target Rr) X.xe s1) X.xe s) :
  PE X (.ListComp gN [⟨target,iter,ifs,0⟩] sc pos) (tD X F Φ (.comp n t caps ik es bx elt)):=by
 intro pins s σ H Q I hq;obtain⟨R,τ,ρ,d,Si,ev,hq⟩:=hq;rw[eval_ListComp];refine rC L co xI hE hC hI (use:=none) (Post:=EP X pins σ Q) I Si ev λacc C H1 s1 m hn _ IX sm rt=>?_;exact⟨m,hn,λh' zX=>⟨.ref acc,H1,IX h' zX,rfl,hq _ _ sm rt⟩⟩
end
variable {base h':Heap}
section
variable {X:Cx}{pins:ak}{s:Shared}{σ:L2.St}{H:Hp}
theorem qR{A:ay}{E:av}{l:Addr}{items:aQ}{Q:av}{s:Shared}(hl:s.heap.IsList l items)
  (h:∀s₂:Shared,s₂={ s with heap:=s.heap.push { cls:=.type "list_iterator",data:=.fields #[.ref l,.int 0 0] } }->s₂.heap.IsListIter s.heap.objs.size l 0/\s₂.heap.IsList l items->(∀b∈[s.heap.objs.size,l],b<s₂.heap.objs.size)->l≠s.heap.objs.size->Q (.ref s.heap.objs.size) s₂) :
  wpAny (model prog w) A (pyIter (.ref l)) Q E s:=by
 have fL:l<s.heap.objs.size:=by obtain⟨_,e,_⟩:=hl;exact Yr e
 refine aaE hl (h _ rfl ⟨⟨_,Yt _ rfl,rfl,rfl⟩,hl.push _⟩ (λb hb=>?_) (Yv fL));have hz:(s.heap.push { cls:=.type "list_iterator",data:=.fields #[.ref l,.int 0 0] }).objs.size=s.heap.objs.size+1:=ZT ..;have sX:b=s.heap.objs.size\/b=l:=by simpa using hb
 show b<_;rw[hz];rcases sX with e|e
 ·rw[e];exact YJ _
 ·rw[e];exact YA fL
theorem qP{o₀:Obj}{s:Shared}(hk:∀b o,b∉[s.heap.objs.size]->(s.heap.push o₀).get? b=some o->h'.get? b=some o):∀b o,s.heap.get? b=some o->h'.get? b=some o:=λb o e =>
 hk b o (λhm=>absurd ((by simpa using hm:b=s.heap.objs.size)▸Yr e) (YG _)) (Ym _ e)
theorem b9{h:Heap}{a:Addr}{aC:aQ}(p:PlainL h a aC):h.IsList a aC:=let ⟨o,n,h1,h2,_,h4⟩:=p;⟨o,h1,h2,n,h4⟩
theorem jK(val:Nat->Int)(ns:aa)(hv:∀i,val i=ns.getD i 0):∀k,k<=ns.length->preSum val k=(ns.take k).sum
 |0,_=>by simp[preSum]
 |k+1,h=>by
  have hk:k<ns.length:=by left
  rw[preSum,jK val ns hv k (by left),hv k,List.take_add_one,List.sum_append];simp[List.getD,hk]
theorem xk(hc:X.calm=true):eE X (.builtin "sum") (λxs H Q=>∃(p:Addr) (ns:aa),xs=[.ref p]/\cH X.K H p (ns.map V.int)/\Q (.int ns.sum) H):=by
 intro pins s σ H xs us Q I r h;obtain⟨p,ns,rfl,hq,q⟩:=h;obtain⟨u,rfl,ru⟩:=r.one;cases ru;obtain⟨aC,rv,pl,hz⟩:=I.list hq;have hlen:aC.length=ns.length:=by have:=rv.length;simpa using this.symm
 refine call_sum_walkG (qR (b9 pl) λs₂ e st C5 Rx=>?_);subst e;refine⟨_,_,_,_,_,_,λi=>ns.getD i 0,rfl,Walks.list (A:=X.A.in1) (I.ok.hd hc) _ p Rx aC.toArray,st,C5,λi v hP=>?_,λh' tk t' hk=>?_⟩
 ·have hv:aC[i]?=some v:=by simpa using hP
  have hi:i<aC.length:=by
   by_cases z:i<aC.length
   ·exact z
   ·rw[List.getElem?_eq_none (by left)]at hv;cases hv
  have hn:(ns.map V.int)[i]?=some (.int (ns.getD i 0)):=by
   rw[List.getElem?_map,List.getElem?_eq_getElem (by left)];simp[List.getD,show i<ns.length by left]
  obtain⟨u,hu,ru⟩:=rv.get hn;rw[hv]at hu;cases hu;exact ru
 ·refine⟨.int ns.sum,H,I.kept (t':=tk) (qP hk),⟨t',?_⟩,q⟩;have hz:preSum (λi=>ns.getD i 0) aC.toArray.size=ns.sum:=by
   rw[List.size_toArray,hlen,jK _ ns (λ_=>rfl) _ (Nat.le_refl _),List.take_length]
  rw[hz]
theorem range_all{α:Type}(l:List α)(f:α->Bool)(tr:Nat->Bool)(h:∀i a,l[i]?=some a->tr i=f a):(List.range l.length).all tr=l.all f:=by
 rw[Bool.eq_iff_iff,List.all_eq_true,List.all_eq_true];constructor
 ·intro z a ha;obtain⟨i,hi,e⟩:=List.mem_iff_getElem.mp ha;have:=z i (List.mem_range.mpr hi);rw[h i a (by rw[List.getElem?_eq_getElem hi,e])]at this;exact this
 ·intro z i hi;have hi:=List.mem_range.mp hi;rw[h i l[i] (List.getElem?_eq_getElem hi)];exact z _ (Y4 hi)
theorem xn(hc:X.calm=true):eE X (.builtin "all") (λxs H Q=>∃(p:Addr) (bs:List Bool),xs=[.ref p]/\cH X.K H p (bs.map V.bl)/\Q (.bl (bs.all id)) H):=by
 intro pins s σ H xs us Q I r h;obtain⟨p,bs,rfl,hq,q⟩:=h;obtain⟨u,rfl,ru⟩:=r.one;cases ru;obtain⟨aC,rv,pl,hz⟩:=I.list hq;have hlen:aC.length=bs.length:=by have:=rv.length;simpa using this.symm
 refine call_all_walk (qR (b9 pl) λs₂ e st C5 Rx=>?_);subst e;refine⟨_,_,_,_,_,_,λi=>bs.getD i false,rfl,Walks.list (A:=X.A.in1) (I.ok.hd hc) _ p Rx aC.toArray,st,λi v s' Q' E' hP hQ=>?_,λh' tk hk=>?_⟩
 ·have hv:aC[i]?=some v:=by simpa using hP
  have hi:i<aC.length:=by
   by_cases z:i<aC.length
   ·exact z
   ·rw[List.getElem?_eq_none (by left)]at hv;cases hv
  have hn:(bs.map V.bl)[i]?=some (.bl (bs.getD i false)):=by
   rw[List.getElem?_map,List.getElem?_eq_getElem (by left)];simp[List.getD,show i<bs.length by left]
  obtain⟨u,hu,ru⟩:=rv.get hn;rw[hv]at hu;cases hu;cases ru;exact Y0 hQ
 ·refine⟨.bl (bs.all id),H,I.kept (t':=tk) (qP hk),?_,q⟩;show Value.bool _=Value.bool _;rw[List.size_toArray,hlen,range_all bs id _ λi a e=>by simp[List.getD,e]]
end
variable {ns:aa}
section
variable {prog:ax}{w:World}{A:ay}{E:av}{s:Shared}
theorem lZ{l:Addr}{vs:ai}{Q:ai->Shared->Prop}{o:Obj}{n:Nat}(ho:s.heap.get? l=some o)(hc:o.cls=.type "tuple")(hd:o.data=.seq vs.toArray n)
  (h:Q vs { s with heap:=(s.heap.push (seqObj "list" #[] 0)).update s.heap.objs.size (Obj.mapSeq (· ++ vs.toArray)) }) (hsz:vs.length<=sizeLine):wpAny (model prog w) A (collect (.ref l)) Q E s:=by
 unfold collect;refine Yj (aau (Y2 entry_proto_collect' ?_));show wpAny _ _ (newList [] >>= λz=>again (.builtin "list.__iadd__" ⟨[z,.ref l],[]⟩)) _ _ s;refine Yj (ZI (Yk ⟨aax _ (by decide +kernel),Y2 entry_list_iadd' ?_⟩));have z1:(s.heap.push (seqObj "list" #[] 0)).get? l=some o:=Ym _ ho;have z2:(s.heap.push (seqObj "list" #[] 0)).get? s.heap.objs.size=some (seqObj "list" #[] 0):=Yt _ rfl;show wpAny _ _ (Builtin.List.listExtendWith (.ref s.heap.objs.size) (.ref l) (.ref s.heap.objs.size)) _ _ ({ s with heap:=s.heap.push (seqObj "list" #[] 0) }:Shared);unfold Builtin.List.listExtendWith;refine Yj (aag (T:="tuple") ⟨o,z1,hc⟩ ?_);rw[YV (by rw[show(Value.type "tuple" == Value.type "tuple")=true from rfl,Bool.or_true])];refine Yj (listItems_at z1 hd (Yj (listItems_at z2 rfl ?_)));rw[if_neg (by simp)];refine Yj (listUpdate_at z2 rfl ?_ (YQ _) (by
  show(#[]++vs.toArray).size<=sizeLine+1;rw[Array.size_append,List.size_toArray];exact ZW (by simpa using hsz)))
 refine Yk ?_;show wpAny (model prog w) A (load s.heap.objs.size >>= λo=>match o.data with
   |.seq xs _=>pure xs.toList
   |_=>unsupported "internal:collect") Q E ({ s with heap:=(s.heap.push (seqObj "list" #[] 0)).update s.heap.objs.size (Obj.mapSeq (· ++ vs.toArray)) }:Shared)
 refine Yj (wpAny_load (get?_update_seq z2 _) ?_);show wpAny _ _ (pure ((#[]:aQ)++vs.toArray).toList) Q E _;rw[show((#[]:aQ)++vs.toArray).toList=vs by simp];exact Yk h
theorem mr{l:Addr}{vs:ai}{Q:av}{o:Obj}{n:Nat}(ho:s.heap.get? l=some o)(hc:o.cls=.type "tuple")(hd:o.data=.seq vs.toArray n)(hI:IntsAre vs ns)(nz:vs.length<64)
  (h:∀(out:aQ) (jM:aa),IntsAre out.toList jM->jM.Perm ns->jM.Pairwise (· <= ·)->Q (.ref (s.heap.objs.size+1)) { s with heap:=sortedAll s.heap vs out }):wpAny (model prog w) A (call (.builtin "sorted") [.ref l]) Q E s:=by
 refine Zk kind_sorted plain_sorted entry_sorted (args_sorted1 _) ?_;unfold Builtin.«sorted»;have hz:vs.length<=sizeLine:=by rw[sizeLine_eq];left
 refine Yj (m:=checkCount "sorted" 1 1 _) (Yk (Yj (lZ ho hc hd (Yj (ZI ?_)) hz)));have e1:((s.heap.push (seqObj "list" #[] 0)).update s.heap.objs.size (Obj.mapSeq (· ++ vs.toArray))).objs.size=s.heap.objs.size+1:=by rw[Heap.size_update,size_push']
 have e2:(((s.heap.push (seqObj "list" #[] 0)).update s.heap.objs.size (Obj.mapSeq (· ++ vs.toArray))).push (seqObj "list" vs.toArray 0)).get? (s.heap.objs.size+1)=some (seqObj "list" vs.toArray 0):=by
  rw[<- e1];exact Yt _ rfl
 show wpAny _ _ _ _ _ ({ s with heap:=((s.heap.push (seqObj "list" #[] 0)).update s.heap.objs.size (Obj.mapSeq (· ++ vs.toArray))).push (seqObj "list" vs.toArray 0) }:Shared);rw[e1];refine Yj (YD (YE slot_list_sort ⟨_,e2,rfl⟩ aah (list_sort_tree e2 hI nz λout jM a1 a2 a3=>⟨_,rfl,Yk ⟨_,rfl,h out jM a1 a2 a3⟩⟩) (args_list_sort _)))
end
theorem sortI_perm(ns:aa):(sortI ns).Perm ns:=YT ..
theorem fP(ns:aa):(sortI ns).Pairwise (· <= ·):=by
 have:=List.pairwise_mergeSort (le:=λa b:Int=>decide (a<=b)) (by intro a b c;simp;left) (by intro a b;simp;left) ns;unfold sortI;simpa using this
theorem cx:∀{vs:ai} {ns:aa},Vals (ns.map V.int) vs->IntsAre vs ns
 |_,[],h=>by cases h;exact .nil
 |_,n::ns,h=>by
  cases h with
  |cons r t=>obtain⟨tk,rfl⟩:=r;exact .cons n tk (cx t)
theorem pB:eE X (.builtin "sorted") (λxs H Q=>∃(p:Addr) (ns:aa),xs=[.ref p]/\(cH X.K H p (ns.map V.int)\/aN X.K H p (ns.map V.int))/\ns.length<64/\∀l,H l=none->Q (.ref l) (upd H l (.lst ((sortI ns).map V.int)))):=by
 intro pins s σ H xs us Q I r h;obtain⟨p,ns,rfl,hq,nz,q⟩:=h;obtain⟨u,rfl,ru⟩:=r.one;cases ru;have fin:∀(vs:ai) (out:aQ) (jM:aa),IntsAre out.toList jM->jM.Perm ns->jM.Pairwise (· <= ·)->EP X pins σ Q (.ref (s.heap.objs.size+1)) { s with heap:=sortedAll s.heap vs out }:=by
  intro vs out jM h1 h2 h3;obtain rfl:jM=sortI ns:=Z_ (h2.trans (sortI_perm ns).symm) h3 (fP ns);obtain⟨e,he⟩:=sortedAll_at s.heap vs out;have hn:H (s.heap.objs.size+1)=none:=I.cD.fresh (Y8 _);refine⟨.ref (s.heap.objs.size+1),upd H (s.heap.objs.size+1) (.lst ((sortI ns).map V.int)),I.laid (t':=s.toks) (λb u z=>sortedAll_old z) (Y8 _) ⟨?_,out.toList,e,gx h1,by simpa using he⟩,rfl,q _ hn⟩;rw[List.length_map,(sortI_perm ns).length_eq,sizeLine_eq];left
 rcases hq with hq|hq
 ·obtain⟨aC,rv,pl,hz⟩:=I.list hq;have hl:aC.length<64:=by rw[<- rv.length];simpa using nz
  exact sorted_ints (b9 pl) (cx rv) hl λout jM h1 h2 h3=>fin aC out jM h1 h2 h3
 ·obtain⟨aC,rv,⟨o,ho,hc,n,hd⟩,hz⟩:=I.tuple hq;have hl:aC.length<64:=by rw[<- rv.length];simpa using nz
  exact mr ho hc hd (cx rv) hl λout jM h1 h2 h3=>fin aC out jM h1 h2 h3
theorem yh:isSubtype (.type "tuple") (.type "set")=pure false:=by rw[isSubtype_type];kernel_rfl
theorem p5:isSubtype (.type "tuple") (.type "frozenset")=pure false:=by rw[isSubtype_type];kernel_rfl
noncomputable abbrev jT(led:Bool):Obj:={ cls:=.type "set",dict:=none,data:=.set #[] 0 (.fresh 0 0 led) }
noncomputable abbrev dist(ns:aa):aa:=firstMet (λi=>ns.getD i 0) ns.length
section
variable {prog:ax}{w:World}{A:ay}{E:av}{s:Shared}
theorem so{l:Addr}{aC:ai}{Q:av}(hh:A.handled=none)(hl:s.heap.IsTuple l aC.toArray)(hi:IntsAre aC ns)(hb:aC.length+1<scanBound)
  (h:∀(h':Heap) (tk:Nat),h'.SetOf (intKind prog w) s.heap.objs.size (λk=>(dist ns).any (· == k)) (dist ns).length->(∀b o,b<s.heap.objs.size->s.heap.get? b=some o->h'.get? b=some o)->Q (.ref s.heap.objs.size) { s with heap:=h',toks:=tk }) :
  wpAny (model prog w) A (call (.type "set") [.ref l]) Q E s:=by
 have My:aC.length=ns.length:=hi.length;obtain⟨c,tl,k1⟩:=F.called_set.mro;have k2:=F.called_set.made;have k3:=F.called_set.sub;have k4:=F.called_set.notType;have k5:=F.called_set.canCreate;have k6:=F.typeCall_set_1 (.ref l);refine wpAny_call (codeAny_of_tree (show wpAny _ _ (callAny (.type "set") _) _ _ _ from Yk ⟨aax _ (by decide +kernel),Y2 F.entry_type_call ?_⟩));rw[Around.under_plain (weight_type_call_type "set" [.ref l] []) rfl]
 repeat (any_goals (first|assumption|wp_step))
 refine ZA (code_set_new_1 (.ref l) (E:=E) (Q₁:=λz s₁=>∃led:Bool,z=.ref s.heap.objs.size/\s₁={ s with heap:=s.heap.push (jT led) }) λled=>⟨led,rfl,rfl⟩) λr s₁ hr=>?_;cases r with
 |error e=>exact hr
 |ok fl =>
  cases fl with
  |next=>exact hr.elim
  |brk=>exact hr.elim
  |cont=>exact hr.elim
  |ret z =>
   obtain⟨led,rfl,rfl⟩:=hr;have g1:(s.heap.push (jT led)).get? s.heap.objs.size=some (jT led):=Yt _ rfl;have g2:Shared.TypeIs { s with heap:=s.heap.push (jT led) } (.ref s.heap.objs.size) "set":=⟨_,g1,rfl⟩
   have g3:=F.called_set.init.lookup;have g4:=F.called_set.init.bind (.ref s.heap.objs.size)
   repeat (any_goals (first|assumption|wp_step))
   refine ZA (codeAny_call_builtin (R:=wants (λr s₂=>r=.none/\∃h' tk,s₂={ s with heap:=h',toks:=tk }/\h'.SetOf (intKind prog w) s.heap.objs.size (λk=>(dist ns).any (· == k)) (dist ns).length/\∀b o,b<s.heap.objs.size->s.heap.get? b=some o->h'.get? b=some o) E) F.called_set.init.plain F.entry_set_init (check_set_init_1 g2 ?_)) λr₂ s₂ gc=>?_
   ·obtain⟨ot,C1,MP,nt,C6⟩:=hl;obtain⟨oc,od,VM,xD⟩:=ot;simp only at MP C6;subst MP;subst C6;have u1:(s.heap.push (jT led)).get? l=some { cls:=.type "tuple",dict:=od,data:=.seq aC.toArray nt,slots:=xD }:=Ym _ C1;have u2:=yh;have u3:=p5;have u4:(Value.type "tuple" == Value.type "dict")=false:=by decide
    have u5:(s.heap.push (jT led)).IsTuple l aC.toArray:=⟨_,u1,rfl,nt,rfl⟩
    unfold Builtin.«set.__init__» noKeywords Builtin.Frozenset.updateFrom;generalize RH:pyIter=PI
    wp_walk
    subst RH;refine wpAny_pyIter_tuple u5 (Yj (aau ?_));have u6:l<s.heap.objs.size:=Yr C1;have u7:A.in1.in1.in1.handled=none:=by simp[hh]
    have hz:(s.heap.push (jT led)).objs.size=s.heap.objs.size+1:=ZT ..;have u8:l≠(s.heap.push (jT led)).objs.size:=by rw[hz];exact Yv (YA u6)
    have u9:s.heap.objs.size∉[(s.heap.push (jT led)).objs.size,l]:=by
     rw[hz];intro m;simp at m;exact absurd m (Y3 u6)
    have v1:∀(i:Nat) (v:Value),aC.toArray[i]?=some v->∃t,v=.int ((λi=>ns.getD i 0) i) t:=λi v hv=>hi.int_at i v (by simpa using hv);refine codeAny_set_update_loopS ((Walks.tuple u7 _ l u8 aC.toArray).toS) s.heap.objs.size u9 (λi=>ns.getD i 0) v1 (by rw[List.size_toArray];exact hb) (aC.toArray.size - 0) 0 _ (by left) (YQ _) ⟨⟨_,Yt _ rfl,rfl,rfl⟩,u5.push _⟩ ?hS0 ?hR
    case hS0 =>
     have y1:((s.heap.push (jT led)).push { cls:=.type "tuple_iterator",data:=.fields #[.ref l,.int 0 0] }).get? s.heap.objs.size=some (jT led):=Ym _ g1;exact SetOf_congr ((setObjOf_fresh (knd:=intKind prog w) led).setOf y1 (by unfold scanBound;left)) (λ_=>rfl) rfl
    case hR =>
     intro s' hm Ag;obtain⟨h',g',d',Kh,Lp⟩:=s';cases (show g'=s.gens from hm.gens);cases (show d'=s.drawn from hm.drawn);cases (show Lp=s.os from hm.os);have Ag:h'.SetOf (intKind prog w) s.heap.objs.size (λk=>(dist ns).any (· == k)) (dist ns).length:=by
      have e:aC.toArray.size=ns.length:=by rw[List.size_toArray,My]
      rw[e]at Ag;exact Ag
     refine Yk (show wpAny _ _ (ret Value.none) _ _ _ from Yk ⟨rfl,h',Kh,rfl,Ag,λb o hb e=>hm.heap b o (λm=>?_) (Ym _ (Ym _ e))⟩);rcases List.mem_cons.mp m with m|m
     ·exact Yv hb m
     ·have m:b=(s.heap.push (jT led)).objs.size:=by simpa using m
      rw[hz]at m;exact Yv (YA hb) m
   ·cases r₂ with
    |error e=>exact gc
    |ok As =>
     cases As with
     |ret r =>
      obtain⟨rfl,h',tk,rfl,Ag,EK⟩:=gc
      repeat (any_goals (first|assumption|wp_step))
      exact h _ _ Ag EK
     |next=>exact gc.elim
     |brk=>exact gc.elim
     |cont=>exact gc.elim
end
theorem lX(ns:aa):dist ns=dG ns:=by
 unfold dist firstMet dG;have e:(List.range ns.length).map (λi=>ns.getD i 0)=ns:=by
  refine Zo (by simp) λi h1 h2=>?_;simp at h1;simp[h1]
 rw[e];rfl
def VB(K:ao):af->Hp->VK->Prop:=λxs H Q=>∃(p:Addr) (ns:aa),xs=[.ref p]/\aN K H p (ns.map V.int)/\ns.length<4000/\Q (.int (dG ns).length) H
theorem boot_set:bootBuiltins ("set" : Str)=some (.type "set"):=by decide +kernel
theorem Oj{e:Expr}{t:TA}{p:Pos}(hc:X.calm=true)(HJ:Gl X ("len" : Str))(MA:X.mg ("len" : Str)=none)(MJ:Gl X ("set" : Str))(Mz:X.mg ("set" : Str)=none)(ha:PA X [e] t)
  (mE:∀es,starEach (e::es) X.env=(false,eval e X.env)::starEach es X.env):PE X (.Call (.Name ("len" : Str) p) [.Call (.Name ("set" : Str) p') [e] [] pos'] [] pos) (FI (VB X.K) t):=by
 intro pins s σ H Q I h;refine YR (cZ I HJ MA PySem.boot_len ?_ (by decide) (by decide));refine Y9 ?_ rfl rfl;show wpAny _ _ (spliced ((false,eval (.Call (.Name ("set" : Str) p') [e] [] pos') X.env)::[])) _ _ s;refine ZP ?_;refine YR (cZ I MJ Mz boot_set ?_ (by decide) (by decide));refine YK (cA (ha pos' pins s σ H _ I h) λus s1 bz=>?_) (mE _) rfl;obtain⟨vs,H1,I1,r1,q1⟩:=bz;obtain⟨a,ns,rfl,hq,hl,q⟩:=q1;obtain⟨u,rfl,ru⟩:=r1.one;cases ru;obtain⟨aC,rv,it,hz⟩:=I1.tuple hq;have hle:aC.length=ns.length:=by rw[<- rv.length];simp
 refine so (I1.ok.hd hc) it (cx rv) (by unfold scanBound;left) λh' tk hS kp=>ZV ?_;rw[lX]at hS;obtain⟨o,es,ep,tb,g1,g2,g3,_,_,g6,g7,g8⟩:=hS;refine call_len_set g1 g2 g3 g7 (by unfold scanBound at g6;omega) ?_;exact⟨.int (dG ns).length,H1,I1.kept (t':=tk+1+1) λb u z=>kp b u (Yr z) z,⟨_,by rw[g8]⟩,q⟩
variable {args elts:au}
section
variable {X:Cx}{S:Sx}{k:Nat}{F:ag}{Φ:aX}
theorem Lk.S8(L:Lk X S k Φ):X.A.units+40<cLine:=by have:=L.room.units;left
def Oa(K:ao)(neg:Bool):R2:=λv u H Q=>∃(d d':D) (N N':gL) (k k':aU),Rep (aN K H) N k v d/\Rep (aN K H) N' k' u d'/\(∀q p xs f,N q p (.l xs) f->cH K H p xs)/\(∀q p xs f,N' q p (.l xs) f->cH K H p xs)/\eG 40 d=true/\eG 40 d'=true /\
 Q (.bl (if neg then !jQ d d' else jQ d d')) H
theorem GV(hu:X.A.units+40<cLine):iI X (compareOp .Eq) (Oa X.K false):=by
 intro pins s σ H x y v u Q I rx ry h;obtain⟨d,d',N,N',k,k',r1,r2,n1,n2,o1,o2,q⟩:=h;exact(alike I n1 n2 40 X.A r1 r2 o1 o2 rx ry hu).rc X.prog X.w X.xe _ ⟨.bl _,H,I,rfl,q⟩
theorem GS(hu:X.A.units+40<cLine):iI X (compareOp .NotEq) (Oa X.K true):=by
 intro pins s σ H x y v u Q I rx ry h;obtain⟨d,d',N,N',k,k',r1,r2,n1,n2,o1,o2,q⟩:=h;exact(alike I n1 n2 40 X.A r1 r2 o1 o2 rx ry hu).ne X.prog X.w X.xe _ ⟨.bl _,H,I,rfl,q⟩
theorem yJ{k:aU}{v v':V}{d d':D}(h:Rep T N k v d)(h':Rep T' N' k' v' d')(f:i8 d=true)(f':i8 d'=true):gg v=true/\Dh v v'=jQ d d':=by
 cases h<;>first | (cases f;done) | (cases h'<;>first | (cases f';done)|exact⟨rfl,rfl⟩)
theorem gF{k:aU}{v:V}{d:D}(h:Rep T N k v d)(f:i8 d=true):gg v=true:=by
 cases h<;>first | (cases f;done)|rfl
theorem iV{T T':kJ}{N N':gL}{k':aU}{v:V}{d:D}(hv:Rep T' N' k' v d)(f:i8 d=true):∀{k:aU} {n:Nat} {xs:af} {ds:ae},az T N k n xs ds->ds.all i8=true->xs.all gg=true/\OB v xs=inD d ds
 |_,_,_,_,.nil,_=>⟨rfl,rfl⟩
 |_,_,_,_,.cons h t,fs=>by
  rw[List.all_cons,Bool.and_eq_true]at fs;obtain⟨h1,h2⟩:=iV hv f t fs.2;obtain⟨g1,g2⟩:=yJ h hv fs.1 f;refine⟨by rw[List.all_cons,g1,h1];rfl,?_⟩;unfold OB at h2 ⊢;rw[List.any_cons,g2,h2];rfl
def Gh(K:ao)(op:xR):R2:=match op with
 |.eq=>Oa K false
 |.ne=>Oa K true
 |.lt=>yL λi j=>.bl (decide (i<j))
 |.le=>yL λi j=>.bl (decide (i<=j))
 |.gt=>yL λi j=>.bl (decide (j<i))
 |.ge=>yL λi j=>.bl (decide (j<=i))
 |.Hv=>λx y H Q=>y=.bD/\Q (.bl (decide (x=.bD))) H
 |.y_=>λx y H Q=>y=.bD/\Q (.bl (!decide (x=.bD))) H
 |.wQ=>N_ K false
 |.zh=>N_ K true
theorem y6(L:Lk X S k Φ)(op:xR):iI X (compareOp (Qv op)) (Gh X.K op):=by
 cases op with
 |eq=>exact GV L.S8
 |ne=>exact GS L.S8
 |lt=>exact Lq
 |le=>exact Lr
 |gt=>exact Ls
 |ge=>exact Lu
 |Hv=>exact GU
 |y_=>exact Cq
 |wQ=>exact wF
 |zh=>exact oE
theorem zd{op:CmpOp}{r:Expr}(h:nh r=true):behindInMarks op r=false:=by
 cases r<;>first|rfl | (cases h;done)
theorem kA{op:xR}{x y d:D}(Mu:op=.lt\/op=.le\/op=.gt\/op=.ge)(h:eZ op x y=ok d):∃i j,x=.int i/\y=.int j:=by
 cases x with
 |int i=>cases y with
  |int j=>exact⟨i,j,rfl,rfl⟩
  |_=>rcases Mu with rfl|rfl|rfl|rfl<;>exact nk h
 |_=>rcases Mu with rfl|rfl|rfl|rfl<;>exact nk h
theorem rE{op:xR}{a b:CE}(hq:tD X F Φ (.cmp op a b) σ H Q):FH (Gh X.K op) (tD X F Φ a) (tD X F Φ b) σ H Q:=by
 obtain⟨R,τ,ρ,d,Si,ev,hq⟩:=hq;obtain⟨x,ex,ev⟩:=aB ev;obtain⟨y,ey,ev⟩:=aB ev;refine tD.intro Si ex λv H1 e1 r1=>tD.intro (Si.go e1) ey λu H2 e2 r2=>?_;have e:=e1.trans e2;have rv:=r1.go e2;have ru:=r2;obtain⟨τ1,f1,p1⟩:=rv;obtain⟨τ2,f2,p2⟩:=ru;have sq:∀{A:ag} {τ:Addr->Option aU} (q:aU) (p:Addr) (xs:af) (f:Fl),nd X.K R A τ H2 q p (.l xs) f->cH X.K H2 p xs:=λq p xs f h=>h.sq;cases op with
 |eq =>
  obtain⟨hc,ev⟩:=qU ev
  ·subst ev;rw[Bool.and_eq_true]at hc;exact⟨x,y,_,_,_,_,p1,p2,sq,sq,hc.1,hc.2,hq _ H2 e .bl⟩
 |ne =>
  obtain⟨hc,ev⟩:=qU ev
  ·subst ev;rw[Bool.and_eq_true]at hc;exact⟨x,y,_,_,_,_,p1,p2,sq,sq,hc.1,hc.2,hq _ H2 e .bl⟩
 |lt=>obtain⟨i,j,rfl,rfl⟩:=kA (by simp) ev;cases ev;exact⟨_,_,(r1.go e2).isInt,r2.isInt,hq _ H2 e .bl⟩
 |le=>obtain⟨i,j,rfl,rfl⟩:=kA (by simp) ev;cases ev;exact⟨_,_,(r1.go e2).isInt,r2.isInt,hq _ H2 e .bl⟩
 |gt=>obtain⟨i,j,rfl,rfl⟩:=kA (by simp) ev;cases ev;exact⟨_,_,(r1.go e2).isInt,r2.isInt,hq _ H2 e .bl⟩
 |ge=>obtain⟨i,j,rfl,rfl⟩:=kA (by simp) ev;cases ev;exact⟨_,_,(r1.go e2).isInt,r2.isInt,hq _ H2 e .bl⟩
 |Hv =>
  cases y<;>simp[eZ]at ev;cases p2;refine⟨rfl,hq _ H2 e ?_⟩;cases ev;cases p1<;>exact .bl
 |y_ =>
  cases y<;>simp[eZ]at ev;cases p2;refine⟨rfl,hq _ H2 e ?_⟩;cases ev;cases p1<;>exact .bl
 |wQ =>
  simp only[eZ]at ev;split at ev
  ·rename_i ds hi;split at ev
   ·rename_i hc;rw[Bool.and_eq_true]at hc;cases ev;cases p2 with
    |tup h rs=>cases hi;obtain⟨g1,g2⟩:=iV p1 hc.1 rs hc.2;exact⟨_,_,rfl,.inr h,gF p1 hc.1,g1,by rw[g2];exact hq _ H2 e .bl⟩
    |lst h rs=>cases hi;obtain⟨g1,g2⟩:=iV p1 hc.1 rs hc.2;exact⟨_,_,rfl,.inl h.sq,gF p1 hc.1,g1,by rw[g2];exact hq _ H2 e .bl⟩
    |_=>cases hi
   ·cases ev
  ·cases ev
 |zh =>
  simp only[eZ]at ev;split at ev
  ·rename_i ds hi;split at ev
   ·rename_i hc;rw[Bool.and_eq_true]at hc;cases ev;cases p2 with
    |tup h rs=>cases hi;obtain⟨g1,g2⟩:=iV p1 hc.1 rs hc.2;exact⟨_,_,rfl,.inr h,gF p1 hc.1,g1,by rw[g2];exact hq _ H2 e .bl⟩
    |lst h rs=>cases hi;obtain⟨g1,g2⟩:=iV p1 hc.1 rs hc.2;exact⟨_,_,rfl,.inl h.sq,gF p1 hc.1,g1,by rw[g2];exact hq _ H2 e .bl⟩
    |_=>cases hi
   ·cases ev
  ·cases ev
theorem yt{c:CE}{Q:Bool->Hp->Prop}(h:eN X F Φ c σ H Q):tB (tD X F Φ c) σ H Q:=by
 obtain⟨R,τ,ρ,b,Si,ev,hq⟩:=h;unfold rS at ev;obtain⟨d,ed,et⟩:=aB ev;refine tD.intro Si ed λv H' e r=>?_;cases d<;>simp[fe]at et;cases et;exact⟨_,r.wN,hq H' e⟩
theorem cI{c:CE}{e:Expr}(h:PE X e (tD X F Φ c))(he:∀whole,isTrue e X.env whole=(do let v <- whole;standAt e.pos;holding [v] (truthy v))):PT X e (eN X F Φ c) :=
 PT.imp (Gu h he) λ_ _ _ h=>yt h
theorem wg{op:xR}{a b:CE}{Q:Bool->Hp->Prop}(h:eN X F Φ (.cmp op a b) σ H Q):Eb (FH (Gh X.K op) (tD X F Φ a) (tD X F Φ b)) σ H Q :=
 rE (yt h)
theorem dictAt{pins:ak}{s:Shared}{p:Addr}{cs:aq}(I:Inv X pins σ H s)(h:H p=some (.ext (DO p cs as xs ep))):∃o,s.heap.get? p=some o/\o.cls=.type "dict":=by
 obtain⟨⟨zs,o,es,_,_,_,ho,hx,_⟩,_⟩:=(show cv X.prog X.w H s.heap p (.ext (DO p cs as xs ep)) from I.cD p _ h)
 exact⟨o,ho,hx.1⟩
theorem Hg(L:Lk X S k Φ)(t:Ty):eE X (.builtin "isinstance") (λxs H Q=>∃(x:V) (d:D) (N:gL) (k:aU),xs=[x,.ty (tyName t)]/\Rep (aN X.K H) N k x d/\(∀q p xs f,N q p (.l xs) f->cH X.K H p xs)/\(∀q p cs as xs ep f,N q p (.d cs as xs ep) f->H p=some (.ext (DO p cs as xs ep)))/\Q (.bl (fi t d)) H):=by
 intro pins s σ H xs us Q I r h;obtain⟨x,d,N,k,rfl,rp,hN,WR,q⟩:=h;obtain⟨u,w',rfl,ru,iT⟩:=vals2 r;cases (show w'=Value.type (tyName t) from iT);have kt:=CN X.K t;have fin:∀b:Bool,b=fi t d->∀tk,EP X pins σ Q (.bool b) { s with toks:=tk }:=λb e tk=>⟨.bl b,H,I.tok tk,rfl,by rw[e];exact q⟩
 cases rp with
 |bD=>cases ru;exact Zt PySem.W.kitx_none I.xF True.intro (kt "NoneType" (by simp[kinds])) (λz=>nomatch z) (fin _ (by cases t<;>rfl))
 |bl b=>cases ru;exact Zt PySem.W.kitx_bool I.xF True.intro (kt "bool" (by simp[kinds])) (λz=>nomatch z) (fin _ (by cases t<;>rfl))
 |int i=>obtain⟨t',rfl⟩:=ru;exact Zt PySem.W.kitx_int I.xF True.intro (kt "int" (by simp[kinds])) (λz=>nomatch z) (fin _ (by cases t<;>rfl))
 |tup h _ =>
  cases ru;obtain⟨aC,_,⟨o,h1,h2,_⟩,_⟩:=I.tuple h;exact Zt PySem.W.kitx_tuple I.xF ⟨o,h1,h2⟩ (kt "tuple" (by simp[kinds])) (λz=>nomatch z) (fin _ (by cases t<;>rfl))
 |lst h _ =>
  cases ru;obtain⟨aC,_,⟨o,n,h1,h2,_⟩,_⟩:=I.list (hN _ _ _ _ h);exact Zt PySem.W.kitx_list I.xF ⟨o,h1,h2⟩ (kt "list" (by simp[kinds])) (λz=>nomatch z) (fin _ (by cases t<;>rfl))
 |cy h _ _ =>
  cases ru;obtain⟨o,h1,h2⟩:∃o,s.heap.get? _=some o/\o.cls=.type "dict":=dictAt I (WR _ _ _ _ _ _ _ h);exact Zt PySem.W.kitx_dict I.xF ⟨o,h1,h2⟩ (kt "dict" (by simp[kinds])) (λz=>nomatch z) (fin _ (by cases t<;>rfl))
theorem DM(t:Ty):bootBuiltins (tyName t:Str)=some (.type (tyName t)):=by
 cases t<;>decide +kernel
theorem mS(t:Ty):(tyName t:Str) ≠ "__name__" /\ ((tyName t:Str)==("__debug__" : Str))=false:=by
 cases t<;>decide +kernel
theorem F8(L:Lk X S k Φ){a:CE}{t:Ty}{e:Expr}{p:Pos}(hf:mF S.sc ("isinstance" : Str)=true)(Wt:("isinstance" : Str)∈S.bl)(hg:mF S.sc (tyName t:Str)=true)(Wr:(tyName t:Str)∈S.bl)
  (ha:PE X e (tD X F Φ a)) (mE:∀es,starEach (e::es) X.env=(false,eval e X.env)::starEach es X.env):PE X (.Call (.Name ("isinstance" : Str) p) [e,.Name (tyName t:Str) p'] [] pos) (tD X F Φ (.vc a t)):=by
 have hT:PE X (.Name (tyName t:Str) p') (tC (.ty (tyName t))):=Cn (L.gl hg) (L.bl _ Wr) (DM t) rfl (mS t).1 (mS t).2;refine PE.imp (dh (Hg L t) (L.gl hf) (L.bl _ Wt) PyProof.Rows.boot_isinstance (dC ha (dC hT ib) (mE _)) (he:=mE _)) λσ H Q hq=>?_;obtain⟨R,τ,ρ,d,Si,ev,hq⟩:=hq;obtain⟨x,ex,ev⟩:=aB ev;cases ev;refine tD.intro Si ex λv H1 e1 r1=>?_;obtain⟨τ1,f1,p1⟩:=r1;exact⟨v,x,_,_,rfl,p1,λq p xs f h=>h.sq,λq p cs as xs ep f h=>h.dat,hq _ H1 e1 .bl⟩
theorem Hm:@DI.nq=@L2.nq:=rfl
theorem KN(L:Lk X S k Φ){a b:CE}{e i:Expr}(ha:PE X e (tD X F Φ a))(hb:PE X i (tD X F Φ b))(hp:kM i):PE X (.Subscript e i pos) (tD X F Φ (.ix a b)):=by
 refine PE.imp (yZ (u_.or zH) ha hb hp) λσ H Q hq=>?_;obtain⟨R,τ,ρ,d,Si,ev,hq⟩:=hq;obtain⟨x,ex,ev⟩:=aB ev;obtain⟨y,ey,ev⟩:=aB ev;refine tD.intro Si ex λv H1 e1 r1=>tD.intro (Si.go e1) ey λu H2 e2 r2=>?_;have ee:=e1.trans e2;have rv:=(r1.go e2).mono (fv':=fI (.ix a b)) λj hj=>YN _ hj;have item:∀{q:aU} {xs:af} {ds:ae} {τt:Addr->Option aU} {j:Int},(∀p q,τt p=some q->H p=none)->az (aN X.K H2) (nd X.K R (iy (gP X F) τ (fI (.ix a b))) τt H2) q 0 xs ds->kH ds j=ok d->∃w,L2.Fe xs j=some w/\Q w H2:=by
  intro q xs ds τt j fr rs h;unfold kH at h;split at h
  ·rename_i d' hd;cases h;cases hx:DI.nq ds.length j with
   |none=>rw[hx]at hd;cases hd
   |some m =>
    rw[hx]at hd;obtain⟨w,hw,iT⟩:=rs.get (show ds[m]?=some d' from hd);refine⟨w,?_,hq w H2 ee ⟨λ_=>none,λ_ _ h=>by simp at h,iT.fF Si fr⟩⟩;unfold L2.Fe;rw[<- Hm,rs.length,hx];exact hw
  ·cases h
 cases y with
 |int j =>
  obtain⟨τt,fr,rp⟩:=rv;cases r2.isInt;cases x with
  |tup ds =>
   cases rp with
   | @tup _ p xs _ h rs=>obtain⟨w,h1,h2⟩:=item fr rs ev;exact .inr ⟨p,xs,j,w,rfl,rfl,h,h1,h2⟩
  |lst f ds =>
   cases rp with
   | @lst _ p xs _ _ h rs=>obtain⟨w,h1,h2⟩:=item fr rs ev;exact .inl ⟨p,xs,j,w,rfl,rfl,h.sq,h1,h2⟩
  |_=>exact nk ev
 |_=>cases x<;>cases ev
theorem lO:∀(cs:aA) {ρ:aV} {ds:ae},cc Φ cs ρ=ok ds->ds.length=cs.length
 |[],_,_,h=>by cases h;rfl
 |c::cs,_,_,h=>by
  obtain⟨x,_,h⟩:=aB h;obtain⟨xs,hx,h⟩:=aB h;cases h;simp[lO cs hx]
theorem F3{es:au}{n:Nat}(h:PA X es (qb X F Φ cs))(hl:cs.length<=1000):PE X (.Tuple es n pos) (tD X F Φ (.tup cs)):=by
 refine PE.imp (GD h) λσ H Q hq=>?_;obtain⟨R,τ,ρ,d,Si,ev,hq⟩:=hq;obtain⟨ds,IT,ev⟩:=aB ev;cases ev;refine⟨R,τ,ρ,ds,Si,IT,λvs H1 e1 r1=>?_⟩;obtain⟨τt,fr,rs⟩:=r1;have hz:sizeLine=16777216:=Zx;refine⟨by rw[rs.length,lO cs IT];left,λp hp=>?_⟩;have es:aG H1 (upd H1 p (.tup vs)):=aG.upd hp;exact hq _ _ (e1.trans es) ⟨τt,fr,.tup (aN.of aW) (rs.imp (λ_ _ h=>aN.same es h) λ_ _ _ _ h=>nd.same es h)⟩
theorem F6{es:au}(h:PA X es (qb X F Φ cs))(hl:cs.length<=1000):PE X (.List es pos) (tD X F Φ (.lst cs)):=by
 refine PE.imp (GI h) λσ H Q hq=>?_;obtain⟨R,τ,ρ,d,Si,ev,hq⟩:=hq;obtain⟨ds,IT,ev⟩:=aB ev;cases ev;refine⟨R,τ,ρ,ds,Si,IT,λvs H1 e1 r1=>?_⟩;obtain⟨τt,fr,rs⟩:=r1;have hz:sizeLine=16777216:=Zx;refine⟨by rw[rs.length,lO cs IT];left,λp hp=>?_⟩;have es:aG H1 (upd H1 p (.lst vs)):=aG.upd hp;refine hq _ _ (e1.trans es) ⟨λq=>if q=p then some []else τt q,λq z hq=>?_,.lst ⟨aW,by simp⟩ (rs.imp (λ_ _ h=>aN.same es h) λc q xs f h=>?_)⟩
 ·by_cases sT:q=p
  ·subst sT;exact e1.free hp
  ·simp only[sT,if_false]at hq;exact fr q z hq
 ·have h':=nd.same es h;cases f with
  |ow =>
   have sT:q≠p:=by
    intro z;subst z;exact h.1.ne hp
   exact⟨h'.1,by simp only[sT,if_false];exact h'.2⟩
  |fz=>exact h'
  |al=>exact h'
  |sc=>exact h'
theorem B3(L:Lk X S k Φ){f:Nat}{x:Str}{y:Expr}{ys:au}{p:Pos}(hf:S.fn f=some x)(hg:mF S.sc x=true)(hn:jV x=true)(ha:PA X (y::ys) (qb X F Φ cs))
  (mE:∀es,starEach (y::es) X.env=(false,eval y X.env)::starEach es X.env) (hpl:∀pos,(backTo pos (starEach ys X.env)).any (·.1)=false):PE X (.Call (.Name x p) (y::ys) [] pos) (tD X F Φ (.call f cs)):=by
 obtain⟨a,fd,ps,Fo,hm,hk,hb,hl⟩:=(L.fn f x hf).ex;unfold jV at hn;simp only[Bool.and_eq_true,Bool.not_eq_true']at hn;refine PE.imp (Cm Fo L.room (L.gl hg) hm hk hb .nil (Lm (X:=X)) ha hn.1.1 (mE _) (hpl _)) λσ H Q hq=>?_;obtain⟨R,τ,ρ,d,Si,ev,hq⟩:=hq;obtain⟨xs,cS,ev⟩:=aB ev;obtain⟨r,er,ev⟩:=aB ev;cases ev;refine⟨R,τ,ρ,xs,Si,cS,λvs H1 e1 r1=>?_⟩;obtain⟨τt,fr,rs⟩:=r1;have fresh:∀p,H p=none->iy (gP X F) τ (cL cs) p:=λp hp=>⟨.inr (Si.same.free hp),λc i e=>absurd hp (Si.th p _ e)⟩
 have hR:∀p,R p->iy (gP X F) τ (cL cs) p:=λp hp=>⟨Si.rf p hp,λc i e=>by rw[Si.rt p hp]at e;cases e⟩
 rw[List.append_nil];refine⟨iy (gP X F) τ (cL cs),aD a_ xs,r,by rw[rs.length,<- hl _ _ er,bg,List.length_map],az.ie (λ_ _ h=>h) (λk k' p xs f h=>?_) rs _ _,er,λv H2 e2 rr=>?_⟩
 ·cases f with
  |ow=>exact⟨h.1,fresh p (fr p _ h.2)⟩
  |fz=>exact⟨h.1,hR p h.2⟩
  |al=>exact h
  |sc=>exact h
 ·obtain⟨τ2,JQ,rp⟩:=rr;refine hq v H2 (e1.trans e2) ⟨τ2,λp q h=>e1.free (JQ p q h),Rep.map (q:=[]) (q':=[]) (λ_ _ h=>h) (λc p xs f h=>?_) rp [] rfl⟩;cases f with
  |ow=>exact h
  |fz=>exact⟨h.1,h.2.elim id λz=>fresh p (e1.free z)⟩
  |al=>exact h.2.elim
  |sc=>exact h
def Td(K:ao)(f:Bf):af->Hp->VK->Prop:=match f with
 |.len=>λxs H Q=>∃p ys,xs=[.ref p]/\(cH K H p ys\/aN K H p ys)/\Q (.int ys.length) H
 |.abs=>λxs H Q=>∃i,xs=[.int i]/\Q (.int (if i<0 then -i else i)) H
 |.min2=>λxs H Q=>∃i j,xs=[.int i,.int j]/\Q (.int (if j<i then j else i)) H
 |.list1=>λxs H Q=>∃p ys,xs=[.ref p]/\(cH K H p ys\/aN K H p ys)/\∀l,H l=none->Q (.ref l) (upd H l (.lst ys))
 |.tuple1=>λxs H Q=>∃p ys,xs=[.ref p]/\((cH K H p ys/\∀l,H l=none->Q (.ref l) (upd H l (.tup ys)))\/(aN K H p ys/\Q (.ref p) H))
 |.n9=>λxs H Q=>∃(p:Addr) (ns:aa),xs=[.ref p]/\cH K H p (ns.map V.int)/\Q (.int ns.sum) H
 |.all1=>λxs H Q=>∃(p:Addr) (bs:List Bool),xs=[.ref p]/\cH K H p (bs.map V.bl)/\Q (.bl (bs.all id)) H
 |.gE=>λxs H Q=>∃(p:Addr) (ns:aa),xs=[.ref p]/\(cH K H p (ns.map V.int)\/aN K H p (ns.map V.int))/\ns.length<64/\∀l,H l=none->Q (.ref l) (upd H l (.lst ((sortI ns).map V.int)))
theorem az.one{k:aU}{n:Nat}{d:D}(h:az T N k n vs [d]):∃v,vs=[v]/\Rep T N (n::k) v d:=by
 cases h with
 |cons h t=>cases t;exact⟨_,rfl,h⟩
theorem az.two{k:aU}{n:Nat}{d e:D}(h:az T N k n vs [d,e]):∃v w,vs=[v,w]/\Rep T N (n::k) v d/\Rep T N ((n+1)::k) w e:=by
 cases h with
 |cons h t=>obtain⟨w,rfl,h'⟩:=t.one;exact⟨_,_,rfl,h,h'⟩
theorem az.ints1{k:aU}{n:Nat}{i:Int}(h:az T N k n vs [.int i]):vs=[.int i]:=by
 obtain⟨v,rfl,z⟩:=h.one;cases z;rfl
theorem az.ints2{k:aU}{n:Nat}{i j:Int}(h:az T N k n vs [.int i,.int j]):vs=[.int i,.int j]:=by
 obtain⟨v,w,rfl,z,z'⟩:=h.two;cases z;cases z';rfl
noncomputable def Bf.one:Bf->Bool
 |.min2=>false
 |_=>true
theorem Jh{f:Bf}{xs:ae}{d:D}(hf:f.one=true)(h:vM f xs=ok d):∃x,xs=[x]:=by
 cases xs with
 |nil=>cases f<;>exact nk h
 |cons x xs=>cases xs with
  |nil=>exact⟨x,rfl⟩
  |cons y ys=>cases f<;>first | (cases hf;done) | (cases x<;>exact nk h)
theorem XA{xs:ae}{d:D}(h:vM .min2 xs=ok d):∃i j,xs=[.int i,.int j]:=by
 cases xs with
 |nil=>cases h
 |cons x xs=>cases xs with
  |nil=>cases x<;>cases h
  |cons y ys=>cases ys with
   |cons z zs=>cases x<;>first | (cases h;done) | (cases y<;>cases h)
   |nil=>cases x<;>first | (cases h;done) | (cases y<;>first|exact⟨_,_,rfl⟩ | (cases h;done))
theorem az.ofInts{T:kJ}{N:gL}{k:aU}:∀{ns:aa} {n:Nat} {vs:af},az T N k n vs (ns.map D.int)->vs=ns.map V.int
 |[],_,_,h=>by cases h;rfl
 |i::ns,_,_,h=>by
  cases h with
  |cons h t=>cases h;rw[az.ofInts t];rfl
theorem az.Ex{T:kJ}{N:gL}{k:aU}:∀{ns:List Bool} {n:Nat} {vs:af},az T N k n vs (ns.map D.bl)->vs=ns.map V.bl
 |[],_,_,h=>by cases h;rfl
 |i::ns,_,_,h=>by
  cases h with
  |cons h t=>cases h;rw[az.Ex t];rfl
theorem jw{T:kJ}{N:gL}{k:aU}:∀(ns:aa) {n:Nat},az T N k n (ns.map V.int) (ns.map D.int)
 |[],_=>.nil
 |i::ns,_=>.cons (.int i) (jw ns)
theorem DN{f:Bf}(hq:tD X F Φ (.bf f cs) σ H Q):FI (Td X.K f) (qb X F Φ cs) σ H Q:=by
 obtain⟨R,τ,ρ,d,Si,ev,hq⟩:=hq;obtain⟨xs,cS,ev⟩:=aB ev;refine⟨R,τ,ρ,xs,Si,cS,λvs H1 e1 r1=>?_⟩;obtain⟨τt,fr,rs⟩:=r1;cases f with
 |len =>
  obtain⟨x,rfl⟩:=Jh rfl ev;obtain⟨v,rfl,rv⟩:=rs.one;cases x with
  |tup ds=>cases ev;obtain⟨_,_,rfl,h,r⟩:=rv.xY;exact⟨_,_,rfl,.inr h,by rw[r.length];exact hq _ H1 e1 .int⟩
  |lst f ds=>cases ev;obtain⟨_,_,rfl,h,r⟩:=rv.rW;exact⟨_,_,rfl,.inl h.sq,by rw[r.length];exact hq _ H1 e1 .int⟩
  |_=>exact nk ev
 |abs =>
  obtain⟨x,rfl⟩:=Jh rfl ev;cases x with
  |int i=>cases ev;cases rs.ints1;exact⟨_,rfl,hq _ H1 e1 .int⟩
  |_=>exact nk ev
 |min2 =>
  obtain⟨i,j,rfl⟩:=XA ev;cases ev;cases rs.ints2;exact⟨_,_,rfl,hq _ H1 e1 .int⟩
 |list1 =>
  obtain⟨x,rfl⟩:=Jh rfl ev;obtain⟨v,rfl,rv⟩:=rs.one;cases x with
  |tup ds =>
   cases ev;obtain⟨_,_,rfl,h,r⟩:=rv.xY;refine⟨_,_,rfl,.inr h,λl hl=>?_⟩;exact hq _ _ (e1.trans (aG.upd hl)) (bM.qJ (e1.free hl) (e1.trans (aG.upd hl)) aW ((r.fF Si fr).imp (λ_ _ h=>aN.same (aG.upd hl) h) λ_ _ _ _ h=>nd.same (aG.upd hl) h))
  |lst f ds =>
   cases ev;obtain⟨_,_,rfl,h,r⟩:=rv.rW;refine⟨_,_,rfl,.inl h.sq,λl hl=>?_⟩;exact hq _ _ (e1.trans (aG.upd hl)) (bM.qJ (e1.free hl) (e1.trans (aG.upd hl)) aW ((r.fF Si fr).imp (λ_ _ h=>aN.same (aG.upd hl) h) λ_ _ _ _ h=>nd.same (aG.upd hl) h))
  |_=>exact nk ev
 |tuple1 =>
  obtain⟨x,rfl⟩:=Jh rfl ev;obtain⟨v,rfl,rv⟩:=rs.one;cases x with
  |lst f ds =>
   cases ev;obtain⟨_,_,rfl,h,r⟩:=rv.rW;refine⟨_,_,rfl,.inl ⟨h.sq,λl hl=>?_⟩⟩;exact hq _ _ (e1.trans (aG.upd hl)) ⟨λ_=>none,λ_ _ h=>by simp at h,.tup (aN.of aW) ((r.fF Si fr).imp (λ_ _ h=>aN.same (aG.upd hl) h) λ_ _ _ _ h=>nd.same (aG.upd hl) h)⟩
  |_=>exact nk ev
 |n9 =>
  obtain⟨x,rfl⟩:=Jh rfl ev;obtain⟨v,rfl,rv⟩:=rs.one;cases x with
  |lst f ds =>
   have ev:(match intsOf ds with|some ns=>ok (.int ns.sum)|none=>none)=ok d:=ev;cases hn:intsOf ds with
   |none=>rw[hn]at ev;cases ev
   |some ns =>
    rw[hn]at ev;cases ev;cases eU hn;cases rv with
    |lst h r=>cases r.ofInts;exact⟨_,ns,rfl,h.sq,hq _ H1 e1 .int⟩
  |_=>exact nk ev
 |all1 =>
  obtain⟨x,rfl⟩:=Jh rfl ev;obtain⟨v,rfl,rv⟩:=rs.one;cases x with
  |lst f ds =>
   have ev:(match gX ds with|some bs=>ok (.bl (bs.all id))|none=>none)=ok d:=ev;cases hn:gX ds with
   |none=>rw[hn]at ev;cases ev
   |some ns =>
    rw[hn]at ev;cases ev;cases rK hn;cases rv with
    |lst h r=>cases r.Ex;exact⟨_,ns,rfl,h.sq,hq _ H1 e1 .bl⟩
  |_=>exact nk ev
 |gE =>
  obtain⟨x,rfl⟩:=Jh rfl ev;obtain⟨v,rfl,rv⟩:=rs.one;have fin:∀ds,mW ds=ok d->∃ns:aa,ds=ns.map D.int/\ns.length<64/\∀l,H1 l=none->Q (.ref l) (upd H1 l (.lst ((sortI ns).map V.int))):=by
   intro ds e;unfold mW at e;split at e
   ·rename_i ns hn;split at e
    ·rename_i nz;cases e;refine⟨ns,eU hn,nz,λl hl=>hq _ _ (e1.trans (aG.upd hl)) (bM.qJ (e1.free hl) (e1.trans (aG.upd hl)) aW (jw _))⟩
    ·cases e
   ·cases e
  cases x with
  |tup ds =>
   obtain⟨ns,rfl,nz,q⟩:=fin ds ev;cases rv with
   |tup h r=>cases r.ofInts;exact⟨_,ns,rfl,.inr h,nz,q⟩
  |lst f ds =>
   obtain⟨ns,rfl,nz,q⟩:=fin ds ev;cases rv with
   |lst h r=>cases r.ofInts;exact⟨_,ns,rfl,.inl h.sq,nz,q⟩
  |_=>exact nk ev
theorem KO(L:Lk X S k Φ){f:Bf}{y:Expr}{ys:au}{p:Pos}(hg:mF S.sc (pH f:Str)=true)(hb:(pH f:Str)∈S.bl)(ha:PA X (y::ys) (qb X F Φ cs))
  (mE:∀es,starEach (y::es) X.env=(false,eval y X.env)::starEach es X.env) (hpl:∀pos,(backTo pos (starEach ys X.env)).any (·.1)=false):PE X (.Call (.Name (pH f:Str) p) (y::ys) [] pos) (tD X F Φ (.bf f cs)):=by
 refine PE.imp (t:=FI (Td X.K f) (qb X F Φ cs)) ?_ λσ H Q hq=>DN hq;cases f with
 |len=>exact dh pE (L.gl hg) (L.bl _ hb) PySem.boot_len ha (he:=mE _) (hpl:=hpl _)
 |abs=>exact dh AQ (L.gl hg) (L.bl _ hb) (by decide +kernel) ha (he:=mE _) (hpl:=hpl _)
 |min2=>exact dh (xl L.calm) (L.gl hg) (L.bl _ hb) (by decide +kernel) ha (he:=mE _) (hpl:=hpl _)
 |list1=>exact m9 pC (L.gl hg) (L.bl _ hb) (by decide +kernel) ha (he:=mE _) (hpl:=hpl _)
 |tuple1=>exact m9 mL (L.gl hg) (L.bl _ hb) (by decide +kernel) ha (he:=mE _) (hpl:=hpl _)
 |n9=>exact dh (xk L.calm) (L.gl hg) (L.bl _ hb) (by decide +kernel) ha (he:=mE _) (hpl:=hpl _)
 |gE=>exact dh pB (L.gl hg) (L.bl _ hb) (by decide +kernel) ha (he:=mE _) (hpl:=hpl _)
 |all1=>exact dh (xn L.calm) (L.gl hg) (L.bl _ hb) (by decide +kernel) ha (he:=mE _) (hpl:=hpl _)
theorem F4{a:CE}{e:Expr}(h:PE X e (tD X F Φ a)):PE X (.UnaryOp .Not e pos) (tD X F Φ (.not a)):=by
 refine PE.imp (GG h) λσ H Q hq=>?_;obtain⟨R,τ,ρ,d,Si,ev,hq⟩:=hq;obtain⟨b,eb,ev⟩:=aB ev;obtain⟨x,ex,eb⟩:=aB eb;cases ev;refine tD.intro Si ex λv H1 e1 r1=>?_;cases x<;>simp[fe]at eb;cases eb;exact⟨_,r1.wN,hq _ H1 e1 .bl⟩
theorem FO{a:CE}{e:Expr}(h:PT X e (eN X F Φ a)):PT X (.UnaryOp .Not e pos) (eN X F Φ (.not a)):=by
 refine PT.imp (Gv h) λσ H Q hq=>?_;obtain⟨R,τ,ρ,b,Si,ev,hq⟩:=hq;unfold rS at ev;obtain⟨d,ed,ev⟩:=aB ev;obtain⟨c,ec,ed⟩:=aB ed;cases ed;have R_:b=!c:=by
  have e2:ok (!c)=ok b:=ev;exact(Except.ok.inj (YB e2)).symm
 subst R_;exact⟨R,τ,ρ,c,Si,ec,λH' e=>hq H' e⟩
theorem F7{c a b:CE}{t x y:Expr}(hc:PT X t (eN X F Φ c))(ha:PE X x (tD X F Φ a))(hb:PE X y (tD X F Φ b)):PE X (.IfExp t x y pos) (tD X F Φ (.ite c a b)):=by
 refine PE.imp (y2 hc ha hb) λσ H Q hq=>?_;obtain⟨R,τ,ρ,d,Si,ev,hq⟩:=hq;obtain⟨w,ew,ev⟩:=aB ev;refine⟨R,τ,ρ,w,Si,ew,λH1 e1=>?_⟩;cases w with
 |true=>exact tD.intro (Si.go e1) ev λv H' e r=>hq v H' (e1.trans e) ((r.old e1).mono λi hi=>by simp[fI,hi])
 |false=>exact tD.intro (Si.go e1) ev λv H' e r=>hq v H' (e1.trans e) ((r.old e1).mono λi hi=>by simp[fI,hi])
theorem FP{c a b:CE}{t x y:Expr}(hc:PT X t (eN X F Φ c))(ha:PT X x (eN X F Φ a))(hb:PT X y (eN X F Φ b)):PT X (.IfExp t x y pos) (eN X F Φ (.ite c a b)):=by
 intro pins s σ H Q I hq;obtain⟨R,τ,ρ,d,Si,ev,hq⟩:=hq;unfold rS at ev;obtain⟨x',Nj,et⟩:=aB ev;obtain⟨w,ew,ev⟩:=aB Nj;refine isTrue_IfExp (cA (hc pins s σ H (λw' H1=>w'=w/\aG H H1) I ⟨R,τ,ρ,w,Si,ew,λH1 e1=>⟨rfl,e1⟩⟩) λw' s1 bz=>?_);obtain⟨H1,I1,hw,e1⟩:=bz;subst hw;cases w' with
 |true=>exact ha pins s1 σ H1 Q I1 ⟨R,τ,ρ,d,Si.go e1,by unfold rS;rw[show bj Φ a ρ=ok x' from ev];exact et,λH' e=>hq H' (e1.trans e)⟩
 |false=>exact hb pins s1 σ H1 Q I1 ⟨R,τ,ρ,d,Si.go e1,by unfold rS;rw[show bj Φ b ρ=ok x' from ev];exact et,λH' e=>hq H' (e1.trans e)⟩
theorem F5{a:CE}{e:Expr}(h:PE X e (tD X F Φ a)):PE X (.UnaryOp .USub e pos) (tD X F Φ (.neg a)):=by
 refine PE.imp (Lg FD h) λσ H Q hq=>?_;obtain⟨R,τ,ρ,d,Si,ev,hq⟩:=hq;obtain⟨x,ex,ev⟩:=aB ev;refine tD.intro Si ex λv H1 e1 r1=>?_;cases x<;>simp[CG]at ev;cases ev;exact⟨_,r1.isInt,hq _ H1 e1 .int⟩
theorem DS{c:CE}(hq:tD X F Φ (.and [c]) σ H Q):tD X F Φ c σ H Q:=by
 obtain⟨R,τ,ρ,d,Si,ev,hq⟩:=hq;obtain⟨b,eb,ev⟩:=aB ev;obtain⟨x,ex,eb⟩:=aB eb;cases ev;refine tD.intro Si ex λv H1 e1 r1=>?_;cases x<;>simp[fe]at eb;cases eb;rw[r1.wN];exact hq _ H1 e1 .bl
theorem GR{c:CE}(hq:tD X F Φ (.or [c]) σ H Q):tD X F Φ c σ H Q:=by
 obtain⟨R,τ,ρ,d,Si,ev,hq⟩:=hq;obtain⟨b,eb,ev⟩:=aB ev;obtain⟨x,ex,eb⟩:=aB eb;cases ev;refine tD.intro Si ex λv H1 e1 r1=>?_;cases x<;>simp[fe]at eb;cases eb;rw[r1.wN];exact hq _ H1 e1 .bl
theorem AY{c:CE}{Q:Bool->Hp->Prop}(hq:eN X F Φ (.and [c]) σ H Q):eN X F Φ c σ H Q:=by
 obtain⟨R,τ,ρ,d,Si,ev,hq⟩:=hq;unfold rS at ev;obtain⟨b,eb,ev⟩:=aB ev;obtain⟨x,ex,eb⟩:=aB eb;cases eb;cases ev;exact⟨R,τ,ρ,_,Si,ex,hq⟩
theorem Co{c:CE}{Q:Bool->Hp->Prop}(hq:eN X F Φ (.or [c]) σ H Q):eN X F Φ c σ H Q:=by
 obtain⟨R,τ,ρ,d,Si,ev,hq⟩:=hq;unfold rS at ev;obtain⟨b,eb,ev⟩:=aB ev;obtain⟨x,ex,eb⟩:=aB eb;cases eb;cases ev;exact⟨R,τ,ρ,_,Si,ex,hq⟩
theorem AZ{c:CE}(hq:tD X F Φ (.and (c::c'::cs)) σ H Q):Ee (tD X F Φ c) (tD X F Φ (.and (c'::cs))) σ H Q:=by
 obtain⟨R,τ,ρ,d,Si,ev,hq⟩:=hq;obtain⟨b,eb,ev⟩:=aB ev;obtain⟨x,ex,eb⟩:=aB eb;refine tD.intro Si ex λv H1 e1 r1=>?_;cases x<;>simp[fe]at eb;cases eb;refine⟨_,r1.wN,?_⟩;cases b with
 |true =>
  rw[if_pos rfl]at ev ⊢;exact tD.intro (Si.go e1) ev λv H' e r=>hq v H' (e1.trans e) ((r.old e1).mono λi hi=>Yx _ hi)
 |false =>
  rw[if_neg (by simp)]at ev ⊢;cases ev;exact hq _ H1 e1 .bl
theorem Cp{c:CE}(hq:tD X F Φ (.or (c::c'::cs)) σ H Q):Km (tD X F Φ c) (tD X F Φ (.or (c'::cs))) σ H Q:=by
 obtain⟨R,τ,ρ,d,Si,ev,hq⟩:=hq;obtain⟨b,eb,ev⟩:=aB ev;obtain⟨x,ex,eb⟩:=aB eb;refine tD.intro Si ex λv H1 e1 r1=>?_;cases x<;>simp[fe]at eb;cases eb;refine⟨_,r1.wN,?_⟩;cases b with
 |false =>
  rw[if_neg (by simp)]at ev ⊢;exact tD.intro (Si.go e1) ev λv H' e r=>hq v H' (e1.trans e) ((r.old e1).mono λi hi=>Yx _ hi)
 |true =>
  rw[if_pos rfl]at ev ⊢;cases ev;exact hq _ H1 e1 .bl
theorem xu{c:CE}{Q:Bool->Hp->Prop}(hq:eN X F Φ (.and (c::c'::cs)) σ H Q):Kt (eN X F Φ c) (eN X F Φ (.and (c'::cs))) σ H Q:=by
 obtain⟨R,τ,ρ,d,Si,ev,hq⟩:=hq;unfold rS at ev;obtain⟨x,ex,et⟩:=aB ev;obtain⟨b,eb,ev⟩:=aB ex;refine⟨R,τ,ρ,b,Si,eb,λH1 e1=>?_⟩;cases b with
 |true =>
  rw[if_pos rfl]at ev ⊢;exact⟨R,τ,ρ,d,Si.go e1,by unfold rS;rw[show bj Φ (.and (c'::cs)) ρ=ok x from ev];exact et,λH' e=>hq H' (e1.trans e)⟩
 |false =>
  rw[if_neg (by simp)]at ev ⊢;cases ev;cases et;exact hq H1 e1
theorem y4{c:CE}{Q:Bool->Hp->Prop}(hq:eN X F Φ (.or (c::c'::cs)) σ H Q):S_ (eN X F Φ c) (eN X F Φ (.or (c'::cs))) σ H Q:=by
 obtain⟨R,τ,ρ,d,Si,ev,hq⟩:=hq;unfold rS at ev;obtain⟨x,ex,et⟩:=aB ev;obtain⟨b,eb,ev⟩:=aB ex;refine⟨R,τ,ρ,b,Si,eb,λH1 e1=>?_⟩;cases b with
 |false =>
  rw[if_neg (by simp)]at ev ⊢;exact⟨R,τ,ρ,d,Si.go e1,by unfold rS;rw[show bj Φ (.or (c'::cs)) ρ=ok x from ev];exact et,λH' e=>hq H' (e1.trans e)⟩
 |true =>
  rw[if_pos rfl]at ev ⊢;cases ev;cases et;exact hq H1 e1
theorem iP{Q:af->Hp->Prop}(hq:qb X F Φ [] σ H Q):Ko σ H Q:=by
 obtain⟨R,τ,ρ,d,Si,ev,hq⟩:=hq;cases ev;exact hq _ H (aG.refl H) .nil
theorem eP{c:CE}{Q:af->Hp->Prop}(hq:qb X F Φ (c::cs) σ H Q):Ed (tD X F Φ c) (qb X F Φ cs) σ H Q:=by
 obtain⟨R,τ,ρ,d,Si,ev,hq⟩:=hq;obtain⟨x,ex,ev⟩:=aB ev;obtain⟨xs,cS,ev⟩:=aB ev;cases ev;refine tD.intro Si ex λv H1 e1 r1=>⟨R,τ,ρ,xs,Si.go e1,cS,λvs H2 e2 r2=>hq _ H2 (e1.trans e2) (b0.cons e1 e2 (r1.mono λi hi=>YN _ hi) (r2.mono λi hi=>Yx _ hi))⟩
theorem b7{c:CE}{e:Expr}(h:bL S c e=true)(es:au)(env:Env):starEach (e::es) env=(false,eval e env)::starEach es env:=by
 cases e<;>first|rfl | (cases c<;>exact(Yp h).elim)
theorem tL:∀{cs:aA} {es:au},bG S cs es=true->∀(pos:Pos) (env:Env),(backTo pos (starEach es env)).any (·.1)=false
 |[],[],_,_,_=>rfl
 |[],_::_,h,_,_=>by exact(Yp h).elim
 |_::_,[],h,_,_=>by exact(Yp h).elim
 |c::cs,e::es,h,pos,env=>by
  replace h:=aH h;rw[b7 h.1];have:=tL h.2 pos env;unfold backTo at this ⊢;simp only[List.map_cons,List.any_cons,Bool.false_or];exact this
theorem nK{c:CE}{e:Expr}(h:bL S c e=true):kM e:=by
 intro o i;cases e<;>first|rfl | (cases c<;>exact(Yp h).elim)
theorem yE{j:Nat}:PE X (.Constant .none j pos) (tD X F Φ .bD):=PE.imp GH λσ H Q bz=>by obtain⟨R,τ,ρ,d,Si,ev,hq⟩:=bz;cases ev;exact hq _ H (aG.refl H) .bD
theorem Ei{b:Bool}{j:Nat}:PE X (.Constant (.bool b) j pos) (tD X F Φ (.bl b)):=PE.imp Ll λσ H Q bz=>by obtain⟨R,τ,ρ,d,Si,ev,hq⟩:=bz;cases ev;exact hq _ H (aG.refl H) .bl
theorem yF{i:Int}{j:Nat}:PE X (.Constant (.int i) j pos) (tD X F Φ (.int i)):=PE.imp GJ λσ H Q bz=>by obtain⟨R,τ,ρ,d,Si,ev,hq⟩:=bz;cases ev;exact hq _ H (aG.refl H) .int
theorem Hr(L:Lk X S k Φ){y:Expr}{p Hw:Pos}(g1:mF S.sc ("range" : Str)=true)(g2:("range" : Str)∈S.bl)(pa:PA X [y] (qb X F Φ es))(wV:bG S es [y]=true)
  (pins:ak) (s:Shared) (σ:St) (H:Hp) (R:ag) (τ:Addr->Option aU) (ρ:aV) (xs items:ae) (I:Inv X pins σ H s) (Si:SI X F R τ ρ σ H) (cS:cc Φ es ρ=ok xs) (tE:dv Φ .jr xs=ok items) (Rr:It->Hp->Prop)
  (hR:∀J H2,aG H H2->Yl X.K J (jn X F τ (caps++cL es) H2) H2 items->Rr J H2) :
  wpAny (model X.prog X.w) X.A (eval (.Call (.Name ("range" : Str) p) [y] [] Hw) X.env) (λv s1=>wpAny (model X.prog X.w) X.A (pyIter v) (A_ X pins σ target Rr) X.xe s1) X.xe s:=by
 match es,wV with
 |[c],wV =>
  replace wV:=aH wV;refine m8 (L.gl g1) (L.bl _ g2) pa (b7 wV.1 _ _) pins s σ H Rr I ⟨R,τ,ρ,xs,Si,cS,λvs H1 e1 rv=>?_⟩;obtain⟨τt,fr,rs⟩:=rv;obtain⟨n,rfl⟩:∃n,xs=[.int n]:=by
   cases xs with
   |nil=>cases tE
   |cons x t=>cases x<;>first | (cases tE;done) | (cases t with|nil=>exact⟨_,rfl⟩|cons _ _=>cases tE)
  cases rs.ints1
  ·obtain⟨⟨c1,c2⟩,tE⟩:=qU tE;subst tE;have oX:(eO:Int)=1000000:=rfl;refine⟨n,rfl,by left,by left,hR _ H1 e1 ?_⟩;have:=Fp (X:=X) (lo:=0) (n:=n.toNat) (R:=jn X F τ (caps++cL [c]) H1) (H1:=H1);simpa using this
 |[],wV=>exact(Yp wV).elim
 |_::_::_,wV=>exact(Yp (aH wV).2).elim
theorem Hq(L:Lk X S k Φ){c:CE}{y:Expr}(pe:PE X y (tD X F Φ c))
  (pins:ak) (s:Shared) (σ:St) (H:Hp) (R:ag) (τ:Addr->Option aU) (ρ:aV) (xs items:ae) (I:Inv X pins σ H s) (Si:SI X F R τ ρ σ H) (cS:cc Φ [c] ρ=ok xs) (tE:dv Φ .seq xs=ok items) (Rr:It->Hp->Prop)
  (hR:∀J H2,aG H H2->Yl X.K J (jn X F τ (caps++cL [c]) H2) H2 items->Rr J H2) :
  wpAny (model X.prog X.w) X.A (eval y X.env) (λv s1=>wpAny (model X.prog X.w) X.A (pyIter v) (A_ X pins σ target Rr) X.xe s1) X.xe s:=by
 obtain⟨x,ex,cS⟩:=aB cS;obtain⟨xs',R7,cS⟩:=aB cS;cases R7;cases cS;have Uj:∀i∈fI c,i∈caps++cL [c]:=λi hi=>Yx _ (YN _ hi);cases x with
 |tup ds =>
  cases tE;refine yS pe pins s σ H Rr I (tD.intro Si ex λv H1 e1 rv=>?_);obtain⟨τt,fr,rp⟩:=rv;cases rp with
  | @tup _ p ys _ hp rs=>exact⟨p,rfl,⟨ys,hp⟩,hR _ H1 e1 (Fn (q:=[]) hp (az.ie (λ_ _ h=>h) (sr Si fr Uj) rs _ _))⟩
 |lst f ds =>
  cases tE;refine uH pe pins s σ H Rr I (tD.intro Si ex λv H1 e1 rv=>?_);obtain⟨τt,fr,rp⟩:=rv;cases rp with
  | @lst _ p ys _ _ hp rs=>exact⟨p,rfl,⟨ys,hp.sq⟩,hR _ H1 e1 (Bu (q:=[]) hp.sq (az.ie (λ_ _ h=>h) (sr Si fr Uj) rs _ _))⟩
 |_=>cases tE
theorem JY{xs:ae}{J:It}(Si:SI X F R τ ρ σ H)(hs:∀i∈fv,i∈fv')(r:b0 X.K (gP X F) R τ fv H H2 vs xs)(y:Jm X.K J H2 vs xs items):
  Yl X.K J (jn X F τ fv' H2) H2 items:=by
 obtain⟨τt,fr,rs⟩:=r;have at':∀H',aG H2 H'->az (aN X.K H') (nd X.K (jn X F τ fv' H2) (λ_=>False) (λ_=>none) H') [] 0 vs (aD a_ xs):=λH' e =>
  (az.ie (T':=aN X.K H2) (λ_ _ h=>h) (sr Si fr hs) rs [] 0).imp (λ_ _ h=>aN.same e h) λ_ _ _ _ h=>nd.same e h
 have st:∀H',aG H2 H'->rP X.K H2 vs xs H':=λH' e=>⟨⟨_,at' H2 (aG.refl H2),λp o _ h=>e p o h⟩,λ_ _ h=>aN.same e h⟩
 exact⟨λi H' e hi=>y.go i H' _ (st H' e) (at' H' e) hi,λi H' x j5 e hi hy=>y.rQ i H' _ x j5 (st H' e) (at' H' e) hi hy,λi H' e hi=>y.stop i H' _ (st H' e) (at' H' e) hi⟩
theorem Hs(L:Lk X S k Φ){p:Nat}{y:Expr}(hp:S.px.pi p S.sc S.bl y=some args)(ht:(decide (1100<=p)||fj target)=true)(hs:mO X F Φ es args)
  (pins:ak) (s:Shared) (σ:St) (H:Hp) (R:ag) (τ:Addr->Option aU) (ρ:aV) (xs items:ae) (I:Inv X pins σ H s) (Si:SI X F R τ ρ σ H) (cS:cc Φ es ρ=ok xs) (tE:dv Φ (.cj p) xs=ok items) (Rr:It->Hp->Prop)
  (hR:∀J H2,aG H H2->Yl X.K J (jn X F τ (caps++cL es) H2) H2 items->Rr J H2) :
  wpAny (model X.prog X.w) X.A (eval y X.env) (λv s1=>wpAny (model X.prog X.w) X.A (pyIter v) (A_ X pins σ target Rr) X.xe s1) X.xe s:=by
 obtain⟨d,ed,ei⟩:=aB (show bd (Φ p xs) my=ok items from tE);exact L.pr.i X _ _ k L.pX p y args hp F es target ht hs pins s σ H R τ ρ xs d items I Si cS ed ei Rr λJ H2 vs e2 r yz=>hR J H2 e2 (JY Si (λi hi=>by simp[hi]) r yz)
theorem rB{S':Sx}{ifs:au}(h3:bx.length<=1)(h4:bG S' bx ifs=true)
  (sV:∀(X':Cx) (F':ag),Lk X' S' k Φ->∀(j:Nat) (c:CE) (e:Expr),bx[j]?=some c->ifs[j]?=some e->PE X' e (tD X' F' Φ c)/\PT X' e (eN X' F' Φ c)) :
  (bx=[]/\ifs=[])\/∃c e,bx=[c]/\ifs=[e]/\∀(X':Cx) (F':ag),Lk X' S' k Φ->PT X' e (eN X' F' Φ c):=by
 cases bx with
 |nil=>cases ifs with
  |nil=>exact .inl ⟨rfl,rfl⟩
  |cons _ _=>exact(Yp h4).elim
 |cons c cs=>cases cs with
  |cons _ _=>simp at h3
  |nil=>cases ifs with
   |nil=>exact(Yp h4).elim
   |cons e ifs=>cases ifs with
    |cons _ _=>exact(Yp (aH h4).2).elim
    |nil=>exact .inr ⟨c,e,rfl,rfl,λX' F' L'=>(sV X' F' L' 0 c e rfl rfl).2⟩
def Nx(S:Sx)(ik:IK)(es:aA)(target iter:Expr):Bool:=match ik with
 |.jr=>bh (iN iter) λw=>decide (w.1=("range" : Str))&&mF S.sc w.1&&decide (w.1∈S.bl)&&bh (one w.2) λy=>bG S es [y]
 |.seq=>bG S es [iter]
 |.cj p=>Oi iter&&(decide (1100<=p)||fj target)&&bh (S.px.pi p S.sc S.bl iter) λxs=>bG S es xs
theorem zP(L:Lk X S k Φ){ik:IK}(wV:∀l,bG S es l=true->PA X l (qb X F Φ es))
  (sV:∀l,bG S es l=true->∀(j:Nat) (c:CE) (e:Expr),es[j]?=some c->l[j]?=some e->PE X e (tD X F Φ c)/\PT X e (eN X F Φ c)) (Wb:∀l,bG S es l=true->mO X F Φ es l) (h6:Nx S ik es target iter=true) :
  ∀(pins:ak) (s:Shared) (σ:St) (H:Hp) (R:ag) (τ:Addr->Option aU) (ρ:aV) (xs items:ae),Inv X pins σ H s->SI X F R τ ρ σ H->cc Φ es ρ=ok xs->dv Φ ik xs=ok items->∀(Rr:It->Hp->Prop),
   (∀J H2,aG H H2->Yl X.K J (jn X F τ (caps++cL es) H2) H2 items->Rr J H2) ->
   wpAny (model X.prog X.w) X.A (eval iter X.env) (λv s1=>wpAny (model X.prog X.w) X.A (pyIter v) (A_ X pins σ target Rr) X.xe s1) X.xe s:=by
 cases ik with
 |jr =>
  obtain⟨⟨x,as⟩,hv,h6⟩:=bo h6;obtain⟨p,Hw,rfl⟩:=dQ hv;obtain⟨Ic,g3⟩:=aH h6;obtain⟨Ib,g2⟩:=aH Ic;obtain⟨Ia,g1⟩:=aH Ib;obtain rfl:x=_:=Yn Ia;obtain⟨y,hu,Dc⟩:=bo g3;obtain rfl:as=[y]:=cU hu;exact Hr L g1 (Yn g2) (wV _ Dc) Dc
 |seq =>
  have Ri:=sV _ h6;cases es with
  |nil=>exact(Yp h6).elim
  |cons c cs=>cases cs with
   |cons _ _=>exact(Yp (aH h6).2).elim
   |nil=>exact Hq L (Ri 0 c _ rfl rfl).1
 |cj p =>
  obtain⟨h6,g3⟩:=aH h6;obtain⟨xs,ha,Dc⟩:=bo g3;exact Hs L ha (aH h6).2 (Wb _ Dc)
mutual
theorem aT:∀(c:CE) (X:Cx) (S:Sx) (F:ag) (L:Lk X S k Φ) (e:Expr),bL S c e=true->PE X e (tD X F Φ c)/\PT X e (eN X F Φ c)
 |.cj p cs,X,S,F,L,e,h=>by
  obtain⟨args,ha,hb⟩:=bo (aH h).2;exact L.pr.e X _ _ k L.pX p e args ha F cs (gD cs X S F L args hb)
 |.bD,X,S,F,L,e,h=>by
  obtain⟨c,hv,ft⟩:=bo h;obtain⟨j,p,rfl⟩:=x9 hv;obtain rfl:=wK ft;exact⟨yE,cI yE λ_=>rfl⟩
 |.bl b,X,S,F,L,e,h=>by
  obtain⟨c,hv,ft⟩:=bo h;obtain⟨j,p,rfl⟩:=x9 hv;obtain rfl:=zS ft;exact⟨Ei,cI Ei λ_=>rfl⟩
 |.int i,X,S,F,L,e,h=>by
  obtain⟨c,hv,ft⟩:=bo h;obtain⟨j,p,rfl⟩:=x9 hv;obtain rfl:=wL ft;exact⟨yF,cI yF λ_=>rfl⟩
 |.v i,X,S,F,L,e,h=>by
  obtain⟨x,hv,h'⟩:=bo h;obtain⟨p,rfl⟩:=kT hv;have:=P8 (F:=F) L h;exact⟨this,cI this λ_=>rfl⟩
 |.glo x i,X,S,F,L,e,h=>by
  obtain⟨y,hv,ft⟩:=bo h;obtain⟨pos,rfl⟩:=kT hv;obtain⟨jy,h3⟩:=aH ft;obtain⟨ny,h2⟩:=aH jy;obtain⟨HZ,h1⟩:=aH ny;obtain rfl:=Yn HZ;obtain⟨u,hm,r⟩:=L.cs _ _ (Yn h2);have this:PE X (.Name y pos) (tD X F Φ (.glo y i)):=PE.imp (Ci (v:=.int i) (L.gl h1) hm r (jN h3)) λσ H Q bz=>by obtain⟨R,τ,ρ,d,Si,ev,hq⟩:=bz;cases ev;exact hq _ H (aG.refl H) .int
  exact⟨this,cI this λ_=>rfl⟩
 |.bin op a b,X,S,F,L,e,h=>by
  obtain⟨⟨l,o,r⟩,hv,ft⟩:=bo h;obtain⟨pos,rfl⟩:=BD hv;obtain⟨jy,h2⟩:=aH ft;obtain⟨ny,h1⟩:=aH jy;obtain rfl:o=Lv op:=Yn ny;have:=F9 (F:=F) (pos:=pos) L (op:=op) (aT a X S F L _ h1).1 (aT b X S F L _ h2).1;exact⟨this,cI this λ_=>rfl⟩
 |.neg a,X,S,F,L,e,h=>by
  obtain⟨⟨o,x⟩,hv,ft⟩:=bo h;obtain⟨pos,rfl⟩:=x4 hv;obtain⟨jy,h1⟩:=aH ft;obtain rfl:o=.USub:=Yn jy;have:=F5 (F:=F) (Φ:=Φ) (pos:=pos) (aT a X S F L _ h1).1;exact⟨this,cI this λ_=>rfl⟩
 |.not a,X,S,F,L,e,h=>by
  obtain⟨⟨o,x⟩,hv,ft⟩:=bo h;obtain⟨pos,rfl⟩:=x4 hv;obtain⟨jy,h1⟩:=aH ft;obtain rfl:o=.Not:=Yn jy;exact⟨F4 (aT a X S F L _ h1).1,FO (aT a X S F L _ h1).2⟩
 |.and cs,X,S,F,L,e,h=>by
  obtain⟨⟨o,vs⟩,hv,ft⟩:=bo h;obtain⟨pos,rfl⟩:=pW hv;obtain⟨jy,h1⟩:=aH ft;obtain rfl:o=.And:=Yn jy;exact⟨(jl cs X S F L vs h1 pos).1,(jl cs X S F L vs h1 pos).2.pt⟩
 |.or cs,X,S,F,L,e,h=>by
  obtain⟨⟨o,vs⟩,hv,ft⟩:=bo h;obtain⟨pos,rfl⟩:=pW hv;obtain⟨jy,h1⟩:=aH ft;obtain rfl:o=.Or:=Yn jy;exact⟨(k0 cs X S F L vs h1 pos).1,(k0 cs X S F L vs h1 pos).2.pt⟩
 |.ite c a b,X,S,F,L,e,h=>by
  obtain⟨⟨t,x,y⟩,hv,ft⟩:=bo h;obtain⟨pos,rfl⟩:=Fz hv;obtain⟨jy,h2⟩:=aH ft;obtain⟨h0,h1⟩:=aH jy;exact⟨F7 (aT c X S F L _ h0).2 (aT a X S F L _ h1).1 (aT b X S F L _ h2).1,FP (aT c X S F L _ h0).2 (aT a X S F L _ h1).2 (aT b X S F L _ h2).2⟩
 |.cmp op a b,X,S,F,L,e,h=>by
  obtain⟨⟨l,os,rs⟩,hv,ft⟩:=bo h;obtain⟨pos,rfl⟩:=BC hv;obtain⟨jy,h2⟩:=aH ft;obtain⟨ny,h1⟩:=aH jy;obtain⟨r,hr,RM⟩:=bo h2;obtain⟨M6,h3⟩:=aH RM;obtain rfl:os=[Qv op]:=Yn ny;obtain rfl:rs=[r]:=cU hr;exact⟨PE.imp (Ck (y6 L op) (aT a X S F L _ h1).1 (aT b X S F L _ M6).1 (zd h3)) λ_ _ _ ny=>rE ny,PT.imp (Ce (y6 L op) (aT a X S F L _ h1).1 (aT b X S F L _ M6).1 (zd h3)) λ_ _ _ ny=>wg ny⟩
 |.vc a t,X,S,F,L,e,h=>by
  obtain⟨⟨f,as⟩,hv,ft⟩:=bo h;obtain⟨p,pos,rfl⟩:=dQ hv;obtain⟨jy,h5⟩:=aH ft;obtain⟨ny,h2⟩:=aH jy;obtain⟨HZ,h1⟩:=aH ny;obtain rfl:f=_:=Yn HZ;obtain⟨⟨e,g⟩,hw,h5_2⟩:=bo h5;obtain rfl:as=[e,g]:=hJ hw;obtain⟨M4,h6⟩:=aH h5_2;obtain⟨x,hn,Ic⟩:=bo h6;obtain⟨p',rfl⟩:∃p,g=.Name x p:=kT hn;obtain⟨Ib,h4⟩:=aH Ic;obtain⟨Ia,h3⟩:=aH Ib;obtain rfl:=Yn Ia;have:=F8 (F:=F) (p:=p) (p':=p') (pos:=pos) L h1 (Yn h2) h3 (Yn h4) (aT a X S F L _ M4).1 (λes=>b7 M4 es _);exact⟨this,cI this λ_=>rfl⟩
 |.call f cs,X,S,F,L,e,h=>by
  obtain⟨⟨x,as⟩,hv,ft⟩:=bo h;obtain⟨p,pos,rfl⟩:=dQ hv;obtain⟨jy,h4⟩:=aH ft;obtain⟨ny,h3⟩:=aH jy;obtain⟨h1,h2⟩:=aH ny;obtain⟨⟨y,ys⟩,hu,h4_2⟩:=bo h4;obtain rfl:as=y::ys:=yd hu;cases cs with
  |nil=>exact(Yp h4_2).elim
  |cons c cs' =>
   have M5:=aH h4_2;have:=B3 (F:=F) (p:=p) (pos:=pos) L (Yn h1) h2 h3 (dS (c::cs') X S F L (y::ys) h4_2) (λes=>b7 M5.1 es _) (λpos=>tL M5.2 pos _);exact⟨this,cI this λ_=>rfl⟩
 |.bf f cs,X,S,F,L,e,h=>by
  obtain⟨⟨x,as⟩,hv,ft⟩:=bo h;obtain⟨p,pos,rfl⟩:=dQ hv;obtain⟨jy,h4⟩:=aH ft;obtain⟨ny,h3⟩:=aH jy;obtain⟨HZ,h2⟩:=aH ny;obtain rfl:x=_:=Yn HZ;obtain⟨⟨y,ys⟩,hu,h4_2⟩:=bo h4;obtain rfl:as=y::ys:=yd hu;cases cs with
  |nil=>exact(Yp h4_2).elim
  |cons c cs' =>
   have M5:=aH h4_2;have:=KO (F:=F) (p:=p) (pos:=pos) L h2 (Yn h3) (dS (c::cs') X S F L (y::ys) h4_2) (λes=>b7 M5.1 es _) (λpos=>tL M5.2 pos _);exact⟨this,cI this λ_=>rfl⟩
 |.ix a b,X,S,F,L,e,h=>by
  obtain⟨⟨l,r⟩,hv,ft⟩:=bo h;obtain⟨pos,rfl⟩:=gy hv;obtain⟨h1,h2⟩:=aH ft;have:=KN (F:=F) (pos:=pos) L (aT a X S F L _ h1).1 (aT b X S F L _ h2).1 (nK h2);exact⟨this,cI this λ_=>rfl⟩
 |.tup cs,X,S,F,L,e,h=>by
  obtain⟨es,hv,ft⟩:=bo h;obtain⟨n,pos,rfl⟩:=iM hv;obtain⟨h1,h2⟩:=aH ft;have:=F3 (F:=F) (n:=n) (pos:=pos) (dS cs X S F L es h1) (Yn h2);exact⟨this,cI this λ_=>rfl⟩
 |.lst cs,X,S,F,L,e,h=>by
  obtain⟨es,hv,ft⟩:=bo h;obtain⟨pos,rfl⟩:=By hv;obtain⟨h1,h2⟩:=aH ft;have:=F6 (F:=F) (pos:=pos) (dS cs X S F L es h1) (Yn h2);exact⟨this,cI this λ_=>rfl⟩
 |.comp n t caps ik es bx elt,X,S,F,L,e,h=>by
  obtain⟨⟨gN,gens,sc⟩,hv,ft⟩:=bo h;obtain⟨pos,rfl⟩:=x6 hv;obtain⟨⟨target,iter,ifs,a⟩,hg,jy⟩:=bo ft;obtain rfl:gens=_:=cU hg;obtain⟨ny,h6⟩:=aH jy;obtain⟨HZ,h5⟩:=aH ny;obtain⟨WM,h4⟩:=aH HZ;obtain⟨WL,h3⟩:=aH WM;obtain⟨WK,h2⟩:=aH WL;obtain⟨WJ,h1⟩:=aH WK;obtain rfl:a=0:=Yn WJ;have sV:=λ(X':Cx) (F':ag) (L':Lk X' (S.inner target caps sc) k Φ)=>fO bx X' _ F' L' ifs h4;have this:PE X (.ListComp gN [⟨target,iter,ifs,0⟩] sc pos) (tD X F Φ (.comp n t caps ik es bx elt)) :=
   B2 L (nJ h1) h2 (λX' F' L'=>(aT elt X' _ F' L' gN h5).1) (rB (Yn h3) h4 sV) (zP L (λl=>dS es X S F L l) (λl=>fO es X S F L l) (λl=>gD es X S F L l) h6)
  exact⟨this,cI this λ_=>rfl⟩
theorem fO:∀(cs:aA) (X:Cx) (S:Sx) (F:ag) (L:Lk X S k Φ) (es:au),bG S cs es=true->∀(j:Nat) (c:CE) (e:Expr),cs[j]?=some c->es[j]?=some e->PE X e (tD X F Φ c)/\PT X e (eN X F Φ c)
 |[],X,S,F,L,_,_=>λj c e h _=>by simp at h
 |_::_,X,S,F,L,[],h=>by exact(Yp h).elim
 |c::cs,X,S,F,L,e::es,h=>λj c' e' hc he=>by
  replace h:=aH h;cases j with
  |zero=>simp at hc he;subst hc he;exact aT c X S F L e h.1
  |succ j=>exact fO cs X S F L es h.2 j c' e' (by simpa using hc) (by simpa using he)
theorem gD:∀(cs:aA) (X:Cx) (S:Sx) (F:ag) (L:Lk X S k Φ) (es:au),bG S cs es=true->mO X F Φ cs es
 |[],X,S,F,L,[],_=>trivial
 |[],X,S,F,L,_::_,h=>by exact(Yp h).elim
 |_::_,X,S,F,L,[],h=>by exact(Yp h).elim
 |c::cs,X,S,F,L,e::es,h=>by
  replace h:=aH h;exact⟨(aT c X S F L e h.1).1,λl=>b7 h.1 l _,nK h.1,gD cs X S F L es h.2⟩
theorem dS:∀(cs:aA) (X:Cx) (S:Sx) (F:ag) (L:Lk X S k Φ) (es:au),bG S cs es=true->PA X es (qb X F Φ cs)
 |[],X,S,F,L,[],_=>PA.imp ib λ_ _ _ h=>iP h
 |[],X,S,F,L,_::_,h=>by exact(Yp h).elim
 |_::_,X,S,F,L,[],h=>by exact(Yp h).elim
 |c::cs,X,S,F,L,e::es,h=>by
  replace h:=aH h;exact PA.imp (dC (aT c X S F L e h.1).1 (dS cs X S F L es h.2) (b7 h.1 es _)) λ_ _ _ h=>eP h
theorem jl:∀(cs:aA) (X:Cx) (S:Sx) (F:ag) (L:Lk X S k Φ) (es:au),bG S cs es=true->∀pos,PE X (.BoolOp .And es pos) (tD X F Φ (.and cs))/\PW X (.BoolOp .And es pos) (eN X F Φ (.and cs))
 |[],X,S,F,L,_,_,pos=>⟨λ_ _ _ _ _ _ ⟨_,_,_,_,_,ev,_⟩=>(by cases ev),λ_ _ _ _ _ _ _ bz=>by obtain⟨_,_,_,_,_,ev,_⟩:=bz;cases ev⟩
 |[c],X,S,F,L,[e],h,pos=>by
  replace h:=aH h;exact⟨PE.imp (yY (aT c X S F L e h.1).1) λ_ _ _ h=>DS h,PW.imp (Cd (aT c X S F L e h.1).2) λ_ _ _ h=>AY h⟩
 |[_],X,S,F,L,[],h,_=>by exact(Yp h).elim
 |[_],X,S,F,L,_::_::_,h,_=>by exact(Yp (aH h).2).elim
 |_::_::_,X,S,F,L,[],h,_=>by exact(Yp h).elim
 |_::_::_,X,S,F,L,[_],h,_=>by exact(Yp (aH h).2).elim
 |c::c'::cs,X,S,F,L,e::e'::es,h,pos=>by
  replace h:=aH h;have r:=jl (c'::cs) X S F L (e'::es) h.2 pos;exact⟨PE.imp (GN (aT c X S F L e h.1).1 r.1) λ_ _ _ h=>AZ h,PW.imp (Gq (aT c X S F L e h.1).2 r.2) λ_ _ _ h=>xu h⟩
theorem k0:∀(cs:aA) (X:Cx) (S:Sx) (F:ag) (L:Lk X S k Φ) (es:au),bG S cs es=true->∀pos,PE X (.BoolOp .Or es pos) (tD X F Φ (.or cs))/\PW X (.BoolOp .Or es pos) (eN X F Φ (.or cs))
 |[],X,S,F,L,_,_,pos=>⟨λ_ _ _ _ _ _ ⟨_,_,_,_,_,ev,_⟩=>(by cases ev),λ_ _ _ _ _ _ _ bz=>by obtain⟨_,_,_,_,_,ev,_⟩:=bz;cases ev⟩
 |[c],X,S,F,L,[e],h,pos=>by
  replace h:=aH h;exact⟨PE.imp (yY (aT c X S F L e h.1).1) λ_ _ _ h=>GR h,PW.imp (Gp (aT c X S F L e h.1).2) λ_ _ _ h=>Co h⟩
 |[_],X,S,F,L,[],h,_=>by exact(Yp h).elim
 |[_],X,S,F,L,_::_::_,h,_=>by exact(Yp (aH h).2).elim
 |_::_::_,X,S,F,L,[],h,_=>by exact(Yp h).elim
 |_::_::_,X,S,F,L,[_],h,_=>by exact(Yp (aH h).2).elim
 |c::c'::cs,X,S,F,L,e::e'::es,h,pos=>by
  replace h:=aH h;have r:=k0 (c'::cs) X S F L (e'::es) h.2 pos;exact⟨PE.imp (Li (aT c X S F L e h.1).1 r.1) λ_ _ _ h=>Cp h,PW.imp (La (aT c X S F L e h.1).2 r.2) λ_ _ _ h=>y4 h⟩
end
theorem ff(L:Lk X S k Φ)(c:CE)(e:Expr)(h:bL S c e=true):PE X e (tD X F Φ c)/\PT X e (eN X F Φ c):=aT c X S F L e h
theorem kZ(L:Lk X S k Φ)(cs:aA)(es:au)(h:bG S cs es=true):mO X F Φ cs es:=gD cs X S F L es h
theorem ug(L:Lk X S k Φ)(cs:aA)(es:au)(h:bG S cs es=true):PA X es (qb X F Φ cs):=dS cs X S F L es h
end
section
variable {T T':kJ}{N N':gL}
theorem az.child{q:aU}(hT:∀p xs,T p xs->T' p xs)(hN:∀c m p xs f,N (c++(m::q)) p xs f->N' (c++(m::q)) p xs f):∀{n:Nat} {vs:af} {ds:ae},az T N q n vs ds->az T' N' q n vs ds
 |_,_,_,.nil=>.nil
 |n,_,_,.cons h t=>.cons (Rep.imp (q:=n::q) (q':=n::q) hT (λc p xs f h=>hN c n p xs f h) h) (az.child hT hN t)
theorem az.Eg{q:aU}{v:V}{d:D}:∀{n:Nat} {vs:af} {ds:ae},az T N q n vs ds->Rep T N ((n+ds.length)::q) v d->az T N q n (vs++[v]) (ds++[d])
 |n,_,_,.nil,h=>.cons (by simpa using h) .nil
 |n,_,_,.cons (ds:=ds) h t,h'=>.cons h (az.Eg t (by
   have e:n+(ds.length+1)=n+1+ds.length:=by left
   rw[List.length_cons,e]at h';exact h'))
theorem az.setAt{q:aU}{v:V}{d:D}:∀{n j:Nat} {vs:af} {ds:ae},az T N q n vs ds->Rep T N ((n+j)::q) v d->az T N q n (vs.set j v) (ds.set j d)
 |_,_,_,_,.nil,_=>by simp;exact .nil
 |_,0,_,_,.cons _ t,h'=>.cons (by simpa using h') t
 |n,j+1,_,_,.cons h t,h'=>.cons h (az.setAt (j:=j) t (by
   have e:n+(j+1)=n+1+j:=by left
   rw[e]at h';exact h'))
end
variable {d0:D}{n':Nd}
section
variable {X:Cx}{F R:ag}{τ:Addr->Option aU}{ρ:aV}{σ:St}{H:Hp}
theorem SI.own{i:Nat}(Si:SI X F R τ ρ σ H)(hi:ρ[i]?=some (some (.lst .ow ds))):∃p xs,σ[i]?=some (some (.ref p))/\H p=some (.lst xs)/\xs.length=ds.length/\τ p=some [i]/\az (aN X.K H) (nd X.K R (λ_=>False) τ H) [i] 0 xs ds:=by
 obtain⟨v,hv,rp⟩:=Si.rep i _ hi;cases rp with
 |lst h r=>exact⟨_,_,hv,h.1,r.length,h.2,r⟩
theorem yw{H:Hp}{p:Addr}{n:Nd}{o:HO}(hp:de H p n){a:Addr}(h:aN K H a ys):aN K (upd H p o) a ys:=by
 obtain⟨o0,z3,Ms,JJ⟩:=de.some hp;have nO:∀a u,H a=some u->u≠o0->a≠p:=λa u e h z=>by subst z;rw[z3]at e;cases e;exact h rfl
 rcases h with (h|⟨o',h⟩)|h
 ·exact .inl (.inl (by rw[aS (nO a _ h λz=>Ms _ z.symm)];exact h))
 ·exact .inl (.inr ⟨o',by rw[aS (nO a _ h λz=>JJ _ _ z.symm)];exact h⟩)
 ·exact .inr h
theorem SI.Qo{i m:Nat}{v:V}{d d1:D}{p:Addr}{n:Nd}{o:HO}(Si:SI X F R τ ρ σ H)(hi:ρ[i]?=some (some d0))(hv:σ[i]?=some (some (.ref p)))(hp:de H p n)(ht:τ p=some [i])
  (rs:az (aN X.K H) (nd X.K R (λ_=>False) τ H) [i] 0 xs ds) (rk:fK X R τ H v d) (Bi:de (upd H p o) p n')
  (mk:∀{N:gL},N [i] p n' .ow->az (aN X.K (upd H p o)) N [i] 0 xs' ds'->Rep (aN X.K (upd H p o)) N [i] (.ref p) d1)
  (hb:∀{N:gL},az (aN X.K (upd H p o)) N [i] 0 xs ds->Rep (aN X.K (upd H p o)) N (m::[i]) v d->az (aN X.K (upd H p o)) N [i] 0 xs' ds') :
  ∃τ',SI X F R τ' (ρ.set i (some d1)) σ (upd H p o)/\τ' p=some [i]/\az (aN X.K (upd H p o)) (nd X.K R (λ_=>False) τ' (upd H p o)) [i] 0 xs' ds':=by
 obtain⟨τt,hτ,rp⟩:=rk;have MF:i<ρ.length:=by
  by_cases z:i<ρ.length
  ·exact z
  ·rw[List.getElem?_eq_none (by left)]at hi;cases hi
 obtain⟨o0,z3,Ms,JJ⟩:=de.some hp;have nR:∀a,R a->a≠p:=λa ha e=>by subst e;rw[Si.rt _ ha]at ht;cases ht
 have nT:∀a q,τt a=some q->a≠p:=λa q e z=>by subst z;rw[(hτ _ q e).1]at ht;cases ht
 have nO:∀a u,H a=some u->u≠o0->a≠p:=λa u e h z=>by subst z;rw[z3]at e;cases e;exact h rfl
 have keep:∀a,a≠p->(upd H p o) a=H a:=λa h=>aS h;have H9:∀a ys,aN X.K H a ys->aN X.K (upd H p o) a ys:=λa ys h=>by
  rcases h with (h|⟨o',h⟩)|h
  ·exact .inl (.inl (by rw[keep a (nO a _ h λz=>Ms _ z.symm)];exact h))
  ·exact .inl (.inr ⟨o',by rw[keep a (nO a _ h λz=>JJ _ _ z.symm)];exact h⟩)
  ·exact .inr h
 have OP:∀a (z:Nd),a≠p->de H a z->de (upd H p o) a z:=λa z ne h=>h.at λu e=>by rw[keep a ne];exact e
 have Uq:∀{τ1:Addr->Option aU} q q' a (z:Nd),nd X.K R (λ_=>False) τ1 H q a z .sc->∀τ2,nd X.K R (λ_=>False) τ2 (upd H p o) q' a z .sc:=λq q' a z h τ2=>by
  obtain⟨ys,rfl,h⟩:=h.yG;exact h.elim (λ⟨o',w⟩=>.inl ⟨o',by rw[keep a (nO a _ w λz=>JJ _ _ z.symm)];exact w⟩) .inr
 have Us:∀q a ys f,q≠[i]->nd X.K R (λ_=>False) τ H q a ys f->nd X.K R (λ_=>False) (λa=>match τt a with|some q=>some (q++[m,i])|none=>τ a) (upd H p o) q a ys f:=λq a ys f hq h=>by
  cases f with
  |ow =>
   have ne:a≠p:=λz=>by
    subst z;have:=h.2.symm.trans ht;exact hq (YB this)
   refine⟨OP a ys ne h.1,?_⟩;cases z:τt a with
   |none=>simp only[z];exact h.2
   |some k=>have:=(hτ a k z).1;rw[h.2]at this;cases this
  |fz=>exact⟨OP a ys (nR a h.2) h.1,h.2⟩
  |al=>exact h.2.elim
  |sc=>exact Uq q q a ys h _
 have T9:(match τt p with|some q=>some (q++[m,i])|none=>τ p)=some [i]:=by
  cases z:τt p with
  |none=>exact ht
  |some k=>exact absurd rfl (nT p k z)
 have Ur:az (aN X.K (upd H p o)) (nd X.K R (λ_=>False) (λa=>match τt a with|some q=>some (q++[m,i])|none=>τ a) (upd H p o)) [i] 0 xs' ds':=hb (az.child H9 (λc n a ys f h=>Us _ a ys f (λz=>by
  have:=Zw List.length z;simp at this) h) rs) (rp.imp (q:=[]) (q':=[m,i]) H9 λc a ys f h=>by
  cases f with
  |ow =>
   rw[List.append_nil]at h;exact⟨OP a ys (nT a _ h.2) h.1,by simp only[h.2]⟩
  |fz=>exact⟨OP a ys (nR a h.2) h.1,h.2⟩
  |al=>exact h.2.elim
  |sc=>exact Uq _ _ a ys h _)
 refine⟨λa=>match τt a with|some q=>some (q++[m,i])|none=>τ a,⟨by simp[Si.len],λj d' hj=>?_,λa ha=>?_,λa ha=>?_,Si.rf,λa q hq=>?_,λa q hq=>?_,?_⟩,T9,Ur⟩
 ·by_cases gU:j=i
  ·subst gU;rw[List.getElem?_set_self MF]at hj;cases hj;exact⟨.ref p,hv,mk ⟨Bi,T9⟩ Ur⟩
  ·rw[List.getElem?_set_ne (Ne.symm gU)]at hj;obtain⟨u,hu,ru⟩:=Si.rep j d' hj;refine⟨u,hu,ru.imp (q:=[j]) (q':=[j]) H9 λc a ys f h=>Us _ a ys f (λz=>?_) h⟩;have:=Zw List.getLast? z;simp at this;exact gU this
 ·cases z:τt a with
  |none=>simp only[z];exact Si.rt a ha
  |some k=>exact absurd ha (hτ a k z).2.1
 ·rw[keep a (nR a ha)];exact Si.rh a ha
 ·by_cases Uo:a=p
  ·subst Uo;rw[aW];simp
  ·rw[keep a Uo];cases z:τt a with
   |none=>simp only[z]at hq;exact Si.th a q hq
   |some k=>exact(hτ a k z).2.2.2
 ·cases z:τt a with
  |none=>simp only[z]at hq;exact Si.t0 a q hq
  |some k=>exact(hτ a k z).2.2.1
 ·intro a u e;have ne:a≠p:=λz=>by subst z;rw[Si.t0 _ _ ht]at e;cases e
  rw[keep a ne];exact Si.same a u e
theorem SI.Lb{i m:Nat}{v:V}{d d1:D}{p:Addr}{n:Nd}{o:HO}(Si:SI X F R τ ρ σ H)(hi:ρ[i]?=some (some d0))(hv:σ[i]?=some (some (.ref p)))(hp:de H p n)(ht:τ p=some [i])
  (rs:az (aN X.K H) (nd X.K R (λ_=>False) τ H) [i] 0 xs ds) (rk:fK X R τ H v d) (Bi:de (upd H p o) p n')
  (mk:∀{N:gL},N [i] p n' .ow->az (aN X.K (upd H p o)) N [i] 0 xs' ds'->Rep (aN X.K (upd H p o)) N [i] (.ref p) d1)
  (hb:∀{N:gL},az (aN X.K (upd H p o)) N [i] 0 xs ds->Rep (aN X.K (upd H p o)) N (m::[i]) v d->az (aN X.K (upd H p o)) N [i] 0 xs' ds') :
  ∃τ',SI X F R τ' (ρ.set i (some d1)) σ (upd H p o):=(Si.Qo hi hv hp ht rs rk Bi mk hb).imp λ_ h=>h.1
theorem SI.put{i m:Nat}{v:V}{d:D}{g:af->af}{p:Addr}(Si:SI X F R τ ρ σ H)(hi:ρ[i]?=some (some (.lst .ow ds)))(hv:σ[i]?=some (some (.ref p)))(hp:H p=some (.lst xs))(ht:τ p=some [i])
  (rs:az (aN X.K H) (nd X.K R (λ_=>False) τ H) [i] 0 xs ds) (rk:fK X R τ H v d)
  (hb:∀{N:gL},az (aN X.K (upd H p (.lst (g xs)))) N [i] 0 xs ds->Rep (aN X.K (upd H p (.lst (g xs)))) N (m::[i]) v d->az (aN X.K (upd H p (.lst (g xs)))) N [i] 0 (g xs) ds') :
  ∃τ',SI X F R τ' (ρ.set i (some (.lst .ow ds'))) σ (upd H p (.lst (g xs))) :=
 Si.Lb (n:=.l xs) (n':=.l (g xs)) hi hv hp ht rs rk aW (λh r=>.lst h r) hb
end
section
variable {X:Cx}{S:Sx}{k:Nat}{F:ag}{Φ:aX}
theorem oe(L:Lk X S k Φ)(c:CE)(e:Expr)(h:bL S c e=true):PE X e (tK X F Φ c):=by
 by_cases hv:∃i,c=.v i
 ·obtain⟨i,rfl⟩:=hv;obtain⟨x,hx,ha⟩:=bo h;obtain⟨p,rfl⟩:=kT hx;obtain⟨hb,h3⟩:=aH ha;obtain⟨h1,h2⟩:=aH hb;unfold jV at h3;simp only[Bool.and_eq_true,Bool.not_eq_true']at h3;refine PE.imp (sA (i:=i) (by rw[L.N];exact Yn h1) (L.NW h2) h3.1.1 h3.1.2) λσ H Q hq=>?_;obtain⟨R,τ,ρ,r,Si,ev,hq⟩:=hq;simp only[gJ]at ev;split at ev
  ·rename_i d hd;split at ev
   ·cases ev;obtain⟨v,τ',hv,fG,rk⟩:=Si.move hd;exact⟨v,hv,hq v H R τ' (aG.refl H) (λ_ h=>h) fG rk⟩
   ·rename_i ho;cases ev;obtain⟨v,hv,rp⟩:=Si.rep i d hd;exact⟨v,hv,hq v H R τ (aG.refl H) (λ_ h=>h) Si (wW rp (by simpa using ho))⟩
  ·cases ev
 ·refine PE.imp (ff (F:=F) L c e h).1 λσ H Q hq=>?_;obtain⟨R,τ,ρ,r,Si,ev,hq⟩:=hq;have R_:bd (bj Φ c ρ) (λd=>ok (keep c d ρ))=ok r:=by
   cases c<;>first|exact ev|exact absurd ⟨_,rfl⟩ hv
  obtain⟨d,ed,er⟩:=aB R_;cases er;refine tD.intro Si ed λv H' e' r'=>?_;obtain⟨R',τ',h1,h2,h3⟩:=ED Si e' r';exact hq v H' R' τ' e' h1 h2 h3
end
structure Kp(R:ag)(H:Hp)(R':ag)(H':Hp):Prop where
 r:∀p,R p->R' p
 l:∀p (o:HO),R p->H p=some o->H' p=some o
 t:∀p xs,H p=some (.tup xs)->H' p=some (.tup xs)
 z:∀p o u,H p=some (.fM o u)->H' p=some (.fM o u)
theorem Kp.refl(R:ag)(H:Hp):Kp R H R H:=⟨λ_ h=>h,λ_ _ _ h=>h,λ_ _ h=>h,λ_ _ _ h=>h⟩
theorem Kp.of(e:aG H H')(h:∀p,R p->R' p):Kp R H R' H':=⟨h,λp xs _ h=>e _ _ h,λp xs h=>e _ _ h,λp o u h=>e _ _ h⟩
theorem Kp.trans{R2:Addr->Prop}(a:Kp R H R1 H1)(b:Kp R1 H1 R2 H2):Kp R H R2 H2 :=
 ⟨λp h=>b.r p (a.r p h),λp xs h e=>b.l p xs (a.r p h) (a.l p xs h e),λp xs h=>b.t p xs (a.t p xs h),λp o u h=>b.z p o u (a.z p o u h)⟩
theorem Kp.N6(a:Kp R H R' H'){p:Addr}(h:aN K H p xs):aN K H' p xs:=by
 rcases h with (h|⟨o,h⟩)|h
 ·exact .inl (.inl (a.t p xs h))
 ·exact .inl (.inr ⟨o,a.z p o _ h⟩)
 ·exact .inr h
theorem Kp.nd{K:ao}{R R':ag}{H H':Hp}(a:Kp R H R' H'){q:aU}{p:Addr}{xs:Nd}{f:Fl}(h:DI.nd K R (λ_=>False) (λ_=>none) H q p xs f):DI.nd K R' (λ_=>False) (λ_=>none) H' q p xs f:=by
 cases f with
 |ow=>exact nomatch h.2
 |fz=>exact⟨h.1.at λo e=>a.l p o h.2 e,a.r p h.2⟩
 |al=>exact h.2.elim
 |sc =>
  obtain⟨ys,rfl,h⟩:=h.yG;exact h.elim (λ⟨o,h⟩=>.inl ⟨o,a.z p o _ h⟩) .inr
theorem Kp.rep(a:Kp R H R' H'){k:aU}{v:V}{d:D}(h:Rep (aN K H) (DI.nd K R (λ_=>False) (λ_=>none) H) k v d):Rep (aN K H') (DI.nd K R' (λ_=>False) (λ_=>none) H') k v d :=
 h.imp (λ_ _ h=>a.N6 h) λ_ _ _ _ h=>a.nd h
theorem Kp.Qc(a:Kp R H R' H'){k:aU}{n:Nat}{v:af}{d:ae}(h:az (aN K H) (DI.nd K R (λ_=>False) (λ_=>none) H) k n v d):az (aN K H') (DI.nd K R' (λ_=>False) (λ_=>none) H') k n v d :=
 h.imp (λ_ _ h=>a.N6 h) λ_ _ _ _ h=>a.nd h
def A9(X:Cx)(F:ag)(H':Hp)(v:V)(d:D):Prop:=∃τt:Addr->Option aU,(∀p q,τt p=some q->X.H₀ p=none)/\Rep (aN X.K H') (nd X.K (gP X F) (λ_=>False) τt H') [] v d
theorem fK.ret{v:V}{d:D}(Si:SI X F R τ ρ σ H)(h:fK X R τ H v d):A9 X F H v d:=by
 obtain⟨τt,ht,rp⟩:=h;exact⟨τt,λp q e=>(ht p q e).2.2.1,rp.imp (λ_ _ h=>h) λ_ _ _ _ h=>h.mono (λh=>Si.rf _ h) id id⟩
def jS(X:Cx)(F:ag)(D:Ends)(R:ag)(H:Hp):Fo×aV->Prop
 | (.nx,ρ')=>∀σ' H' R' τ',SI X F R' τ' ρ' σ' H'->Kp R H R' H'->D.nx σ' H'
 | (.rt d,_)=>∀v H',aG X.H₀ H'->A9 X F H' v d->D.rt v H'
def mn(X:Cx)(F:ag)(Φ:aX)(c:CS):TS:=λD σ H=>∃R τ ρ r,SI X F R τ ρ σ H/\kr Φ c ρ=ok r/\jS X F D R H r
def ml(X:Cx)(F:ag)(Φ:aX)(cs:aj):TS:=λD σ H=>∃R τ ρ r,SI X F R τ ρ σ H/\bw Φ cs ρ=ok r/\jS X F D R H r
noncomputable def Hd(sc:Scope)(x:Str):Bool:=decide (sc.names.lookup x=some .local)||decide (sc.names.lookup x=some .cell)
def jc(S:Sx)(i:Nat):Expr->Bool
 |.Name x _=>decide (S.N[i]?=some x)&&Hd S.sc x
 |_=>false
def Oy:Expr->Bool
 |.Name x _=>jV x
 |_=>true
def AO(S:Sx):aF->au->Bool
 |[],es=>match es with
  |[]=>true
  |_::_=>false
 |i::is,es=>match es with
  |[]=>false
  |e::es=>jc S i e&&AO S is es
def xg(S:Sx):Tg->Expr->Bool
 |.nm i,e=>jc S i e
 |.tp is,e=>bh (v9 e) λes=>AO S is es
noncomputable def fq(e:Expr):Bool:=decide (e.ctorIdx=8)
noncomputable def isTup:Expr->Bool
 |.Tuple _ _ _=>true
 |_=>false
noncomputable def PZ(S:Sx)(tg v:Expr):Bool:=match tg,v with
 |.Name x p,.ListComp _ _ sc pos=>(S.sc.names.lookup x==some .local)&&(p.line==pos.line)&&!(sc.names.any λ(n,k)=>n==x&&(k==.local||k==.cell))
 |_,_=>false
noncomputable def Fy(e:Expr):Option (Str×Pos):=if h:e.ctorIdx=23 then Expr.Name.elim (motive_1:=λ_=>Option (Str×Pos)) e h (λx p=>some (x,p))else none
theorem tZ{e:Expr}{x:Str}{p:Pos}(h:Fy e=some (x,p)):e=.Name x p:=by
 obtain⟨k,h⟩:=dI h;exact Expr.Name.elim (motive_1:=λe=>∀k:e.ctorIdx=23,Expr.Name.elim (motive_1:=λ_=>Option (Str×Pos)) e k (λx p=>some (x,p))=some (x,p)->e=.Name x p) e k (λ_ _ _ h=>by cases h;rfl) k h
def AN(S:Sx)(i j:Nat)(tg v:Expr):Bool :=
 bh (v9 tg) λts=>bh (two ts) λt=>bh (Fy t.1) λx=>bh (Fy t.2) λy=>bh (v9 v) λvs=>bh (two vs) λw =>
  decide (S.N[i]?=some x.1)&&decide (S.N[j]?=some y.1)&&decide (i≠j)&&decide (S.sc.names.lookup x.1=some .local)&&decide (S.sc.names.lookup y.1=some .local)&&decide (x.1≠y.1) &&
   decide (x.2.line=y.2.line)&&!([w.1,w.2].all (foldedForSure 8))&&!([w.1,w.2].all (constantsAlone 8))&&decide (([w.1,w.2].any λe=>match e with|.Starred ..=>true|_=>false)=false)
def Ny(S:Sx)(it:CI)(e:Expr):Bool:=match it with
 |.jr a=>bh (iN e) λw=>decide (w.1=("range" : Str))&&mF S.sc w.1&&decide (w.1∈S.bl)&&bh (one w.2) λy=>bL S a y
 |.seq a=>bL S a e&&nh e
 |.GC p es=>Oi e&&bh (S.px.pi p S.sc S.bl e) λxs=>bG S es xs
noncomputable def y9:CI->Bool
 |.GC p _=>decide (1100<=p)
 |_=>true
noncomputable def ya(s:Stmt):Option (au×Expr):=if h:s.ctorIdx=5 then Stmt.Assign.elim (motive_2:=λ_=>Option (au×Expr)) s h (λts v _=>some (ts,v))else none
theorem j6{s:Stmt}{ts:au}{v:Expr}(h:ya s=some (ts,v)):∃p,s=.Assign ts v p:=by
 obtain⟨k,h⟩:=dI h;exact Stmt.Assign.elim (motive_2:=λs=>∀k:s.ctorIdx=5,Stmt.Assign.elim (motive_2:=λ_=>Option (au×Expr)) s k (λts v _=>some (ts,v))=some (ts,v)->∃p,s=.Assign ts v p) s k (λ_ _ _ _ h=>by cases h;exact⟨_,rfl⟩) k h
noncomputable def J3(s:Stmt):Option (Option Expr):=if h:s.ctorIdx=3 then Stmt.Return.elim (motive_2:=λ_=>Option (Option Expr)) s h (λv _=>some v)else none
theorem Bx{s:Stmt}{v:Option Expr}(h:J3 s=some v):∃p,s=.Return v p:=by
 obtain⟨k,h⟩:=dI h;exact Stmt.Return.elim (motive_2:=λs=>∀k:s.ctorIdx=3,Stmt.Return.elim (motive_2:=λ_=>Option (Option Expr)) s k (λv _=>some v)=some v->∃p,s=.Return v p) s k (λ_ _ _ h=>by cases h;exact⟨_,rfl⟩) k h
noncomputable def NX(s:Stmt):Option Expr:=if h:s.ctorIdx=24 then Stmt.Expr.elim (motive_2:=λ_=>Option Expr) s h (λv _=>some v)else none
theorem rX{s:Stmt}{v:Expr}(h:NX s=some v):∃p,s=.Expr v p:=by
 obtain⟨k,h⟩:=dI h;exact Stmt.Expr.elim (motive_2:=λs=>∀k:s.ctorIdx=24,Stmt.Expr.elim (motive_2:=λ_=>Option Expr) s k (λv _=>some v)=some v->∃p,s=.Expr v p) s k (λ_ _ _ h=>by cases h;exact⟨_,rfl⟩) k h
noncomputable def Ka(s:Stmt):Option (Expr×Operator×Expr):=if h:s.ctorIdx=7 then Stmt.AugAssign.elim (motive_2:=λ_=>Option (Expr×Operator×Expr)) s h (λo p v _=>some (o,p,v))else none
theorem BE{s:Stmt}{v:Expr}{p:Operator}(h:Ka s=some (o,p,v)):∃q,s=.AugAssign o p v q:=by
 obtain⟨k,h⟩:=dI h;exact Stmt.AugAssign.elim (motive_2:=λs=>∀k:s.ctorIdx=7,Stmt.AugAssign.elim (motive_2:=λ_=>Option (Expr×Operator×Expr)) s k (λo p v _=>some (o,p,v))=some (o,p,v)->∃q,s=.AugAssign o p v q) s k (λ_ _ _ _ _ h=>by cases h;exact⟨_,rfl⟩) k h
noncomputable def J6(s:Stmt):Option (Expr×aJ×aJ):=if h:s.ctorIdx=12 then Stmt.If.elim (motive_2:=λ_=>Option (Expr×aJ×aJ)) s h (λt x y _=>some (t,x,y))else none
theorem Bz{s:Stmt}{t:Expr}{x y:aJ}(h:J6 s=some (t,x,y)):∃q,s=.If t x y q:=by
 obtain⟨k,h⟩:=dI h;exact Stmt.If.elim (motive_2:=λs=>∀k:s.ctorIdx=12,Stmt.If.elim (motive_2:=λ_=>Option (Expr×aJ×aJ)) s k (λt x y _=>some (t,x,y))=some (t,x,y)->∃q,s=.If t x y q) s k (λ_ _ _ _ _ h=>by cases h;exact⟨_,rfl⟩) k h
noncomputable def J2(s:Stmt):Option (Expr×aJ×aJ):=if h:s.ctorIdx=11 then Stmt.While.elim (motive_2:=λ_=>Option (Expr×aJ×aJ)) s h (λt x y _=>some (t,x,y))else none
theorem Bw{s:Stmt}{t:Expr}{x y:aJ}(h:J2 s=some (t,x,y)):∃q,s=.While t x y q:=by
 obtain⟨k,h⟩:=dI h;exact Stmt.While.elim (motive_2:=λs=>∀k:s.ctorIdx=11,Stmt.While.elim (motive_2:=λ_=>Option (Expr×aJ×aJ)) s k (λt x y _=>some (t,x,y))=some (t,x,y)->∃q,s=.While t x y q) s k (λ_ _ _ _ _ h=>by cases h;exact⟨_,rfl⟩) k h
noncomputable def J7(s:Stmt):Option (Expr×Expr×aJ×aJ):=if h:s.ctorIdx=9 then Stmt.For.elim (motive_2:=λ_=>Option (Expr×Expr×aJ×aJ)) s h (λtg it x y _=>some (tg,it,x,y))else none
theorem BA{s:Stmt}{it:Expr}{x y:aJ}(h:J7 s=some (tg,it,x,y)):∃q,s=.For tg it x y q:=by
 obtain⟨k,h⟩:=dI h;exact Stmt.For.elim (motive_2:=λs=>∀k:s.ctorIdx=9,Stmt.For.elim (motive_2:=λ_=>Option (Expr×Expr×aJ×aJ)) s k (λtg it x y _=>some (tg,it,x,y))=some (tg,it,x,y)->∃q,s=.For tg it x y q) s k (λ_ _ _ _ _ _ h=>by cases h;exact⟨_,rfl⟩) k h
noncomputable def x_(e:Expr):Option (Expr×Str×Pos):=if h:e.ctorIdx=20 then Expr.Attribute.elim (motive_1:=λ_=>Option (Expr×Str×Pos)) e h (λo a p=>some (o,a,p))else none
theorem pY{e:Expr}{a:Str}{p:Pos}(h:x_ e=some (o,a,p)):e=.Attribute o a p:=by
 obtain⟨k,h⟩:=dI h;exact Expr.Attribute.elim (motive_1:=λe=>∀k:e.ctorIdx=20,Expr.Attribute.elim (motive_1:=λ_=>Option (Expr×Str×Pos)) e k (λo a p=>some (o,a,p))=some (o,a,p)->e=.Attribute o a p) e k (λ_ _ _ _ h=>by cases h;rfl) k h
noncomputable def rY(e:Expr):Option (Expr×au×List Keyword×Pos):=if h:e.ctorIdx=16 then Expr.Call.elim (motive_1:=λ_=>Option (Expr×au×List Keyword×Pos)) e h (λf as ks p=>some (f,as,ks,p))else none
theorem mR{e f:Expr}{as:au}{ks:List Keyword}{p:Pos}(h:rY e=some (f,as,ks,p)):e=.Call f as ks p:=by
 obtain⟨k,h⟩:=dI h;exact Expr.Call.elim (motive_1:=λe=>∀k:e.ctorIdx=16,Expr.Call.elim (motive_1:=λ_=>Option (Expr×au×List Keyword×Pos)) e k (λf as ks p=>some (f,as,ks,p))=some (f,as,ks,p)->e=.Call f as ks p) e k (λ_ _ _ _ _ h=>by cases h;rfl) k h
noncomputable def isNil{α:Type}:List α->Bool
 |[]=>true
 |_::_=>false
theorem lC{α:Type}{l:List α}(h:isNil l=true):l=[]:=by cases l<;>first|rfl|cases h
noncomputable def CU:Stmt->Bool
 |.Raise _ _ _=>true
 |_=>false
noncomputable def Hu(s:Stmt):Bool:=decide (s.ctorIdx=25)
theorem JG{s:Stmt}(h:Hu s=true):∃p,s=.Pass p:=Stmt.Pass.elim (motive_2:=λs=>∃p,s=.Pass p) s (Yn h) λp=>⟨p,rfl⟩
noncomputable def Mb(s:Stmt):Bool:=decide (s.ctorIdx=26)
theorem Ma{s:Stmt}(h:Mb s=true):∃p,s=.Break p:=Stmt.Break.elim (motive_2:=λs=>∃p,s=.Break p) s (Yn h) λp=>⟨p,rfl⟩
noncomputable def QY(s:Stmt):Bool:=decide (s.ctorIdx=27)
theorem OA{s:Stmt}(h:QY s=true):∃p,s=.Continue p:=Stmt.Continue.elim (motive_2:=λs=>∃p,s=.Continue p) s (Yn h) λp=>⟨p,rfl⟩
theorem o_{i:Nat}{e:Expr}(h:jc S i e=true):∃x p,e=.Name x p:=by
 cases e<;>first|exact⟨_,_,rfl⟩|exact(Yp h).elim
theorem wM{e:Expr}(h:fq e=true):∃x g sc p,e=.ListComp x g sc p:=Expr.ListComp.elim (motive_1:=λe=>∃x g sc p,e=.ListComp x g sc p) e (Yn h) λ_ _ _ _=>⟨_,_,_,_,rfl⟩
mutual
noncomputable def Nw(S:Sx):CS->Stmt->Bool
 |.asg t e,s0=>bh (ya s0) λz=>bh (one z.1) λtg=>bL S e z.2&&xg S t tg&&!(isTup z.2&&isTup tg)&&(!fq z.2||isNm tg)
 |.par i j a b,s0=>bh (ya s0) λz=>bh (one z.1) λtg=>bL S (.tup [a,b]) z.2&&AN S i j tg z.2
 |.ret e,s0=>bh (J3 s0) λz=>bh z λv=>bL S e v
 |.rs _,s0=>CU s0
 |.mut p i es,s0=>bh (S.px.pm p S.sc S.bl s0) λz=>jc S i z.1&&Oy z.1&&bG S es z.2
 |.app i e,s0=>bh (NX s0) λc=>bh (rY c) λz=>isNil z.2.2.1&&bh (x_ z.1) λa=>decide (a.2.1=("append" : Str))&&jc S i a.1&&Oy a.1&&(a.2.2.endLine==z.2.2.2.line)&&bh (one z.2.1) λv=>bL S e v
 |.setI i k e,s0=>bh (ya s0) λz=>bh (one z.1) λtg=>bh (pU tg) λw=>jc S i w.1&&Oy w.1&&bL S k w.2&&bL S e z.2&&!fq z.2
 |.aug i op e,s0=>bh (Ka s0) λz=>jc S i z.1&&Oy z.1&&decide (z.2.1=if op then .Add else .Sub)&&bL S e z.2.2
 |.ex e,s0=>bh (NX s0) λv=>bL S e v&&!fq v
 |.ifs c a b,s0=>bh (J6 s0) λz=>bL S c z.1&&jb S a z.2.1&&jb S b z.2.2
 |.Fv c b,s0=>bh (J2 s0) λz=>isNil z.2.2&&bL S c z.1&&jb S b z.2.1
 |.fr t it b,s0=>bh (J7 s0) λz=>isNil z.2.2.2&&xg S t z.1&&Ny S it z.2.1&&(fj z.1||y9 it)&&jb S b z.2.2.1
noncomputable def jb(S:Sx):aj->aJ->Bool
 |[],ss=>match ss with
  |[]=>true
  |_::_=>false
 |c::cs,ss=>match ss with
  |[]=>false
  |s::ss=>Nw S c s&&jb S cs ss
end
structure Jr(px:Px)(Φ:aX):Prop where
 m:∀(X:Cx) (sc:Scope) (bl:aw) (k:Nat),PX X sc bl k->X.N.Nodup->(∀x,X.fn x=true)->∀(p:Nat) (st:Stmt) (x:Str) (pos:Pos) (args:au),px.pm p sc bl st=some (.Name x pos,args)->∀(i:Nat),X.N[i]?=some x->L2.Loc X.env.scope x->PE X (.Name x pos) (yr i) ->
  ∀(F:ag) (cs:aA),mO X F Φ cs args->PS X st (mn X F Φ (.mut p i cs))
structure mi(X:Cx)(S:Sx)(k:Nat)(Φ:aX):Prop extends Lk X S k Φ where
 Bl:∀x,X.fn x=true
 px:PassesOwn (model X.prog X.w) X.A X.env X.xe
 fk:S.sc.kind=.function
 pm:Jr S.px Φ
section
variable {X:Cx}{S:Sx}{k:Nat}{F:ag}{Φ:aX}
theorem mi.loc(L:mi X S k Φ){x:Str}(h:Hd S.sc x=true):L2.Loc X.env.scope x:=by
 unfold L2.Loc;rw[L.sc];unfold Hd at h;rw[Bool.or_eq_true]at h;exact h.imp Yn Yn
theorem Ef(L:mi X S k Φ){x:Str}{p:Pos}{l:Nat}{elt:Expr}{gens:List Comprehension}{sc:Scope}:swapsWith (.ListComp elt gens sc pos) (some (.Name x p)) l X.env=pure (PZ S (.Name x p) (.ListComp elt gens sc pos)):=by
 have hb:X.env.blockKind=.function:=by unfold Env.blockKind;rw[L.sc,L.fk];rfl
 have hk:(X.env.kindOf x==some .local)=(S.sc.names.lookup x==some .local):=by
  unfold Env.kindOf;rw[L.sc]
 unfold swapsWith PZ;simp only[hb,hk];rfl
theorem l5{c:CE}{e:Expr}(h:bL S c e=true)(hc:fq e=false)(t:Option Expr)(l:Nat)(env:Env):swapsWith e t l env=pure false:=by
 cases e<;>first|rfl | (cases hc;done) | (cases c<;>exact(Yp h).elim)
def OR:aF->DX
 |[]=>Ih
 |i::is=>Ao (nB i) (OR is)
theorem yW(L:mi X S k Φ){i:Nat}{e:Expr}(h:jc S i e=true):PG X e (nB i):=by
 cases e<;>try (exact(Yp h).elim;done)
 replace h:=aH h;exact oA L.nd (by rw[L.N];exact Yn h.1) (L.loc h.2) (.inl (L.Bl _))
theorem CD{i:Nat}{e:Expr}(h:jc S i e=true)(es:au)(env:Env):assignEach (e::es) env=(false,assign e env)::assignEach es env:=by
 cases e<;>first|rfl | (exact(Yp h).elim;done)
theorem yV(L:mi X S k Φ):∀{is:aF} {es:au},AO S is es=true->JV X es (OR is)/\(assignEach es X.env).length=is.length/\(assignEach es X.env).findIdx? (·.1)=none
 |[],[],_=>⟨uI,rfl,rfl⟩
 |[],_::_,h=>by exact(Yp h).elim
 |_::_,[],h=>by exact(Yp h).elim
 |i::is,e::es,h=>by
  replace h:=aH h;obtain⟨h1,h2,h3⟩:=yV L h.2;have he:=CD h.1 es X.env;refine⟨qE (yW L h.1) h1 (by rw[he];rfl),by rw[he];simp[h2],?_⟩;rw[he,List.findIdx?_cons];simp[h3]
theorem qp{H:Hp}{R:ag}{Q:St->Hp->Prop}:∀{is:aF} {vs:af} {ds:ae} {kp:aU} {n:Nat} {σ:St} {τ:Addr->Option aU} {ρ ρ':aV},az (aN X.K H) (nd X.K R (λ_=>False) (λ_=>none) H) kp n vs ds->SI X F R τ ρ σ H->eQ is ds ρ=ok ρ' ->
  (∀σ' τ',SI X F R τ' ρ' σ' H->Q σ' H)->OR is vs σ H Q
 |[],_,_,_,_,σ,τ,_,_,.nil,Si,e,hq=>by
  cases e;exact⟨rfl,hq σ τ Si⟩
 |[],_,_,_,_,_,_,_,_,.cons _ _,_,e,_=>by cases e
 |_::_,_,_,_,_,_,_,_,_,.nil,_,e,_=>by cases e
 |i::is,_,_,_,_,σ,τ,ρ,_,.cons (v:=v) (d:=d) h t,Si,e,hq=>by
  change (if _ then _ else _)=_ at e;split at e
  ·rename_i hi;obtain⟨τ',fG⟩:=Si.set (i:=i) (ka (τ':=τ) (Rep.oN h)) hi;exact⟨_,_,rfl,qp t fG e hq⟩
  ·cases e
noncomputable def yn(n:Nat)(τt:Addr->Option aU):Addr->Option aU:=λp=>match τt p with|some q=>if q.getLast?=some n then some q.dropLast else none|none=>none
noncomputable def ym(n:Nat)(τt:Addr->Option aU):Addr->Option aU:=λp=>match τt p with|some q=>if q.getLast?=some n then none else some q|none=>none
theorem BJ{n:Nat}{p:Addr}{q:aU}(h:yn n τt p=some q):τt p=some (q++[n]):=by
 unfold yn at h;cases e:τt p with
 |none=>rw[e]at h;cases h
 |some k =>
  rw[e]at h;by_cases c:k.getLast?=some n
  ·simp only[c,if_true]at h;cases h;obtain⟨ys,rfl⟩:=List.getLast?_eq_some_iff.mp c;simp
  ·simp only[c,if_false]at h;cases h
theorem BI{n:Nat}{p:Addr}{q:aU}(h:ym n τt p=some q):τt p=some q/\q.getLast?≠some n:=by
 unfold ym at h;cases e:τt p with
 |none=>rw[e]at h;cases h
 |some k =>
  rw[e]at h;by_cases c:k.getLast?=some n
  ·simp only[c,if_true]at h;cases h
  ·simp only[c,if_false]at h;cases h;exact⟨rfl,c⟩
theorem m5{H:Hp}{R:ag}{τt:Addr->Option aU}{n:Nat}:∀{vs:af} {ds:ae} {m:Nat},n<m->az (aN X.K H) (nd X.K R (λ_=>False) τt H) [] m vs ds->az (aN X.K H) (nd X.K R (λ_=>False) (ym n τt) H) [] m vs ds
 |_,_,_,_,.nil=>.nil
 |_,_,m,hm,.cons h t=>.cons (h.imp (q':=[m]) (λ_ _ h=>h) λc p xs f h=>by
   cases f with
   |ow =>
    refine⟨h.1,?_⟩;have e:=h.2;unfold ym;rw[e];have:(c++[m]).getLast?≠some n:=by rw[List.getLast?_append];simp;left
    simp only[this,if_false]
   |fz=>exact h
   |al=>exact h
   |sc=>exact h) (m5 (by left) t)
theorem wu{H:Hp}{R:ag}{Q:St->Hp->Prop}:∀{is:aF} {vs:af} {ds:ae} {n:Nat} {σ:St} {τ τt:Addr->Option aU} {ρ ρ':aV},(∀p q,τt p=some q->τ p=none/\¬ R p/\X.H₀ p=none/\H p≠none)->az (aN X.K H) (nd X.K R (λ_=>False) τt H) [] n vs ds->SI X F R τ ρ σ H->eQ is ds ρ=ok ρ' ->
  (∀σ' τ',SI X F R τ' ρ' σ' H->Q σ' H)->OR is vs σ H Q
 |[],_,_,_,σ,τ,_,_,_,_,.nil,Si,e,hq=>by
  cases e;exact⟨rfl,hq σ τ Si⟩
 |[],_,_,_,_,_,_,_,_,_,.cons _ _,_,e,_=>by cases e
 |_::_,_,_,_,_,_,_,_,_,_,.nil,_,e,_=>by cases e
 |i::is,_,_,n,σ,τ,τt,ρ,_,ht,.cons (v:=v) (d:=d) h t,Si,e,hq=>by
  change (if _ then _ else _)=_ at e;split at e
  ·rename_i hi;have fG:=Si.KH (i:=i) (τt:=yn n τt) (λp q hp=>ht p _ (BJ hp)) (h.imp (q':=[]) (λ_ _ h=>h) λc p xs f h=>by
    cases f with
    |ow =>
     refine⟨h.1,?_⟩;have e:=h.2;unfold yn;rw[e,List.append_nil];simp
    |fz=>exact h
    |al=>exact h
    |sc=>exact h) hi
   refine⟨_,_,rfl,wu (τt:=ym n τt) (λp q hp=>?_) (m5 (YJ n) t) fG e hq⟩;obtain⟨h1,h2⟩:=BI hp;obtain⟨g1,g2⟩:=ht p q h1;refine⟨?_,g2⟩;unfold r_ yn;rw[h1];simp only[h2,if_false];exact g1
  ·cases e
theorem yk(L:mi X S k Φ){t:Tg}(h:xg S t tg=true):∃g,PG X tg g/\∀(v:V) (σ:St) (H:Hp) (Q:St->Hp->Prop) (R:ag) (τ:Addr->Option aU) (ρ ρ':aV) (d:D),SI X F R τ ρ σ H->fK X R τ H v d->cg t d ρ=ok ρ' ->
  (∀σ' τ',SI X F R τ' ρ' σ' H->Q σ' H)->g v σ H Q:=by
 cases t with
 |nm i =>
  refine⟨nB i,yW L h,λv σ H Q R τ ρ ρ' d Si rk e hq=>?_⟩;simp only[cg]at e;split at e
  ·rename_i hi;cases e;obtain⟨τ',fG⟩:=Si.set rk hi;exact hq _ τ' fG
  ·cases e
 |tp is =>
  obtain⟨es,hx,ha⟩:=bo h;obtain⟨nn,pp,rfl⟩:=iM hx;obtain⟨h1,h2,h3⟩:=yV L ha;refine⟨_,yU L.calm h1 h2 h3,λv σ H Q R τ ρ ρ' d Si rk e hq=>?_⟩;cases d<;>try (simp[cg]at e;done)
  rename_i ds;simp only[cg]at e;split at e
  ·cases e
  ·rename_i ho;obtain⟨τt,ht,rp⟩:=rk;cases rp with
   | @tup _ p xs _ hp rs =>
    have hX:az (aN X.K H) (nd X.K R (λ_=>False) (λ_=>none) H) [] 0 xs ds:=az.without (P:=cw) (λ_ _ h=>h) (λk k' p xs f hf h=>by
     cases f with
     |ow=>cases hf
     |fz=>exact h
     |al=>exact h.2.elim
     |sc=>exact h) rs (by simpa using ho) _ _
    refine⟨p,xs,rfl,hp,?_,qp hX Si e hq⟩;rw[rs.length];have:∀(is:aF) (ds:ae) (ρ ρ':aV),eQ is ds ρ=ok ρ'->ds.length=is.length:=by
     intro is;induction is with
     |nil=>intro ds ρ ρ' e;cases ds with|nil=>rfl|cons _ _=>cases e
     |cons i is ih=>intro ds ρ ρ' e;cases ds with
      |nil=>cases e
      |cons d ds =>
       change (if _ then _ else _)=_ at e;split at e
       ·simp[ih ds _ _ e]
       ·cases e
    exact this _ _ _ _ e
end
section
variable {X:Cx}{S:Sx}{k:Nat}{F:ag}{Φ:aX}
theorem yv(L:mi X S k Φ){t:Tg}{e:CE}{v:Expr}(he:bL S e v=true)(ht:xg S t tg=true)(hp:(isTup v&&isTup tg)=false)(Q9:swapsWithSole [tg] v pos.line X.env=pure false):PS X (.Assign [tg] v pos) (mn X F Φ (.asg t e)):=by
 obtain⟨g,hg,Aa⟩:=yk (F:=F) L ht;have D8:(∃x p,tg=.Name x p)\/∃es n p,tg=.Tuple es n p:=by
  cases t with
  |nm i=>cases tg<;>first|exact .inl ⟨_,_,rfl⟩|exact(Yp ht).elim
  |tp is=>cases tg<;>first|exact .inr ⟨_,_,_,rfl⟩|exact(Yp ht).elim
 have each:(assignEach [tg] X.env).map (·.2)=[assign tg X.env]:=by
  rcases D8 with ⟨x,p,rfl⟩|⟨es,n,p,rfl⟩<;>rfl
 have hw:swappedStores [tg] v X.env=pure none:=by
  rcases D8 with ⟨x,p,rfl⟩|⟨es,n,p,rfl⟩
  ·first|rfl | (cases v<;>rfl)
  ·cases v<;>first|rfl|exact absurd hp (by simp[isTup])
 refine PS.imp (yQ (oe (F:=F) L.toLk e v he) hg Q9 hw each) λD σ H hq=>?_;obtain⟨R,τ,ρ,r,Si,ev,hq⟩:=hq;obtain⟨r1,tq,ev⟩:=aB ev;obtain⟨ρ',eρ,ev⟩:=aB ev;cases ev;exact⟨R,τ,ρ,r1,Si,tq,λv H' R' τ' es hR fG rk=>Aa v σ H' _ R' τ' r1.2 ρ' r1.1 fG rk eρ λσ' xS Jq=>hq σ' H' R' xS Jq (Kp.of es hR)⟩
theorem BU(L:mi X S k Φ){i n:Nat}{t:Tg}{ik:IK}{x:Str}{p KC:Pos}{gens:List Comprehension}{sc:Scope}
  (he:bL S (.comp n t caps ik es bx elt) (.ListComp gN gens sc pos)=true) (hn:jc S i (.Name x p)=true) (Q9:swapsWith (.ListComp gN gens sc pos) (some (.Name x p)) KC.line X.env=pure true) :
  PS X (.Assign [.Name x p] (.ListComp gN gens sc pos) KC) (mn X F Φ (.asg (.nm i) (.comp n t caps ik es bx elt))):=by
 intro pins s σ H D I hq;obtain⟨R,τ,ρ,r,Si,ev,hq⟩:=hq;obtain⟨r1,tq,ev⟩:=aB ev;obtain⟨ρ',eρ,ev⟩:=aB ev;cases ev;have tq:bd (bj Φ (.comp n t caps ik es bx elt) ρ) (λd=>ok (keep (.comp n t caps ik es bx elt) d ρ))=ok r1:=tq;obtain⟨d,ed,tq⟩:=aB tq;cases tq;have hg:=yW L hn;rw[exec_Assign_Name_used _ _ _ _ Q9];refine Yj (aaC (Yj ?_));obtain⟨⟨e0,g0,s0⟩,V5,hz0⟩:=bo he;cases V5;obtain⟨⟨target,iter,ifs,a⟩,HJ,hz⟩:=bo hz0;obtain rfl:gens=_:=cU HJ;obtain⟨hz,h6⟩:=aH hz;obtain⟨hz,h5⟩:=aH hz;obtain⟨hz,h4⟩:=aH hz;obtain⟨hz,h3⟩:=aH hz;obtain⟨hz,h2⟩:=aH hz;obtain⟨hz,h1⟩:=aH hz;obtain rfl:a=0:=Yn hz;have hC:=rB (Yn h3) h4 (λ(X':Cx) (F':ag) (L':Lk X' (S.inner target caps sc) k Φ)=>fO bx X' _ F' L' ifs h4);have run:wpAny (model X.prog X.w) X.A (comprehension (.ListComp gN [⟨target,iter,ifs,0⟩] sc pos) sc X.env (firstIterPos [⟨target,iter,ifs,0⟩] pos) (newList []) false (eval iter X.env) (some (assign (.Name x p) X.env))) (λ_ s'=>SP X pins D .next s') X.xe s:=by
  refine rC (F:=F) (k:=k) L.toLk (nJ h1) h2 (λX' F' L'=>(ff (F:=F') L' elt gN h5).1) hC ?_ (use:=some (assign (.Name x p) X.env)) (Post:=λ_ s'=>SP X pins D .next s') I Si ed ?_
  ·exact zP L.toLk (λl=>ug (F:=F) L.toLk es l) (λl=>fO es X S F L.toLk l) (λl=>kZ L.toLk es l) h6
  ·intro acc C H1 s1 m xI hc IX sm rt;obtain⟨c1,c2,c3,c4,c5⟩:=hc;obtain⟨R',τ',hR,fG,rk⟩:=ED (e:=.comp n t caps ik es bx elt) Si sm rt;have I1:Inv X pins σ H1 s1:=IX s1.heap (.refl ..);obtain⟨oC,W8,W_,Wf,Uk,V_⟩:=xI;have Xz:C∉X.fs:=λz=>by
    obtain⟨_,o,ho,_⟩:=I1.ok.jZ.mem z;exact absurd (Yu (Yr ho) c2) (YG _)
   have I2:Inv X ((C,oC)::pins) σ H1 s1:=I1.gG λq hq=>by
    rcases List.mem_cons.mp hq with rfl|hq
    ·exact⟨Wf,c5,c1,Xz,λv z=>by rw[Uk]at z;cases z⟩
    ·exact I1.pin q (Yx _ hq)
   simp only[cg]at eρ;split at eρ
   ·rename_i hi;cases eρ;obtain⟨τ2,tV⟩:=fG.set rk hi;show wpAny _ _ (assign (.Name x p) X.env (.ref acc)) _ _ _;refine YC (hg ((C,oC)::pins) s1 σ H1 (.ref acc) (.ref acc) (λσ' H'=>σ'=σ.set i (some (.ref acc))/\H'=H1) I2 rfl ⟨rfl,rfl⟩) (λ_ s2 h2=>?_) λ_ _ z=>z;obtain⟨σ',H',I3,rfl,rfl⟩:=h2;have WT:=(I3.pin (C,oC) (Yx _ Yo)).1;refine⟨m,⟨oC,W8,W_,WT,Uk,V_⟩,λh' zX=>?_⟩;have I4:Inv X pins (σ.set i (some (.ref acc))) H' s2:=I3.gG λq hq=>I3.pin q (Yx _ (Yq _ hq));have I5:=I4.turned (t':=s2.toks) (h':=h') (it:=C) (λb o hb e=>(zX.2 b hb).trans e) c5 c1 (.inr c2) c3 c4;exact⟨_,H',I5,hq _ H' R' τ2 tV (Kp.of sm hR)⟩
   ·cases eρ
 exact Yj (YC run (λ_ s' h=>Yk (Yk h)) λ_ _ z=>z)
theorem FT(L:mi X S k Φ){e:CE}{v:Expr}(he:bL S e v=true):PS X (.Return (some v) pos) (mn X F Φ (.ret e)):=by
 refine PS.imp (Gw (oe (F:=F) L.toLk e v he)) λD σ H hq=>?_;obtain⟨R,τ,ρ,r,Si,ev,hq⟩:=hq;obtain⟨r1,tq,ev⟩:=aB ev;cases ev;exact⟨R,τ,ρ,r1,Si,tq,λv H' R' τ' es hR fG rk=>hq v H' fG.same (rk.ret fG)⟩
theorem Kz(L:mi X S k Φ){e:CE}{v:Expr}(he:bL S e v=true)(Rq:fq v=false):PS X (.Expr v pos) (mn X F Φ (.ex e)):=by
 refine PS.imp (oy (ff (F:=F) L.toLk e v he).1 (l5 he Rq _ _ _)) λD σ H hq=>?_;obtain⟨R,τ,ρ,r,Si,ev,hq⟩:=hq;obtain⟨d,ed,ev⟩:=aB ev;cases ev;exact tD.intro Si ed λv H' es rv=>hq σ H' R τ (Si.go es) (Kp.of es λ_ h=>h)
theorem jS.from{D:Ends}{r:Fo×aV}(h:jS X F D R H r)(kp:Kp R H R1 H1):jS X F D R1 H1 r:=by
 obtain⟨fo,ρ'⟩:=r;cases fo with
 |nx=>exact λσ' H' R' τ' Si k2=>h σ' H' R' τ' Si (kp.trans k2)
 |rt d=>exact h
theorem Ky(L:mi X S k Φ){c:CE}{a b:aj}{t:Expr}{x y:aJ}(hc:bL S c t=true)(ha:kN X x (ml X F Φ a))(hb:kN X y (ml X F Φ b)):PS X (.If t x y pos) (mn X F Φ (.ifs c a b)):=by
 refine PS.imp (Ld (ff (F:=F) L.toLk c t hc).2 ha hb) λD σ H hq=>?_;obtain⟨R,τ,ρ,r,Si,ev,hq⟩:=hq;obtain⟨w,ew,ev⟩:=aB ev;refine⟨R,τ,ρ,w,Si,ew,λH1 e1=>?_⟩;cases w with
 |true=>rw[if_pos rfl]at ev ⊢;exact⟨R,τ,ρ,r,Si.go e1,ev,hq.from (Kp.of e1 λ_ h=>h)⟩
 |false=>rw[if_neg (by simp)]at ev ⊢;exact⟨R,τ,ρ,r,Si.go e1,ev,hq.from (Kp.of e1 λ_ h=>h)⟩
theorem yu(L:mi X S k Φ){c:CE}{b:aj}{t:Expr}{x:aJ}(hc:bL S c t=true)(hb:kN X x (ml X F Φ b)):PS X (.While t x [] pos) (mn X F Φ (.Fv c b)):=by
 refine PS.imp (yO L.px (ff (F:=F) L.toLk c t hc).2 hb) λD σ H hq=>?_;obtain⟨R,τ,ρ,r,Si,ev,hq⟩:=hq;obtain⟨n,hn⟩:=jt ev;refine⟨λm σ' H'=>∃R' τ' ρ',SI X F R' τ' ρ' σ' H'/\Kp R H R' H'/\cu m _ ρ'=ok r,⟨n,R,τ,ρ,Si,Kp.refl R H,hn⟩,?_⟩;rintro m σ1 H1 ⟨R1,τ1,ρ1,mh,k1,e1⟩;cases m with
 |zero=>simp[cu]at e1
 |succ m =>
  rw[cu]at e1;obtain⟨st,es,e1⟩:=aB e1;obtain⟨w,ew,es⟩:=aB es;refine⟨R1,τ1,ρ1,w,mh,ew,λH2 e2=>?_⟩;cases w with
  |false =>
   rw[if_neg (by simp)]at es ⊢;cases es;cases e1;exact hq σ1 H2 R1 τ1 (mh.go e2) (k1.trans (Kp.of e2 λ_ h=>h))
  |true =>
   rw[if_pos rfl]at es ⊢;obtain⟨⟨fo,ρ2⟩,eb,es⟩:=aB es;refine⟨λσ' H'=>∃R' τ' ρ',SI X F R' τ' ρ' σ' H'/\Kp R H R' H'/\cu m _ ρ'=ok r,λσ' H' h=>⟨m,YJ m,h⟩,R1,τ1,ρ1,(fo,ρ2),mh.go e2,eb,?_⟩;have k2:Kp R H R1 H2:=k1.trans (Kp.of e2 λ_ h=>h);cases fo with
   |nx=>cases es;exact λσ' H' R' τ' fG k3=>⟨R',τ',ρ2,fG,k2.trans k3,e1⟩
   |rt d=>cases es;cases e1;exact hq
def jh(X:Cx)(F:ag)(Φ:aX)(t:Tg)(b:aj)(R1:ag)(H1:Hp)(r:Fo×aV)(items:List DI.D)(i:Nat)(σ:St)(H:Hp):Prop :=
 ∃R' τ' ρ',SI X F R' τ' ρ' σ H/\Kp R1 H1 R' H/\dW (λd ρ=>cg t d ρ) (λρ=>bw Φ b ρ) (items.drop i) ρ'=ok r
theorem lK{g:TG}{t:Tg}{b:aj}{D:Ends}{r:Fo×aV}{items:List DI.D}{q:aU}
  (Aa:∀(v:V) (σ:St) (H:Hp) (Q:St->Hp->Prop) (R:ag) (τ:Addr->Option aU) (ρ ρ':aV) (d:DI.D),SI X F R τ ρ σ H->fK X R τ H v d->cg t d ρ=ok ρ'->(∀σ' τ',SI X F R τ' ρ' σ' H->Q σ' H)->g v σ H Q)
  (rs:az (aN X.K H1) (nd X.K R1 (λ_=>False) (λ_=>none) H1) q 0 xs items) (hq:jS X F D R1 H1 r) (i:Nat) (x:V) (σ:St) (H:Hp) (hx:xs[i]?=some x) (h:jh X F Φ t b R1 H1 r items i σ H) :
  g x σ H λσ2 H2=>ml X F Φ b { D with nx:=jh X F Φ t b R1 H1 r items (i+1),ct:=jh X F Φ t b R1 H1 r items (i+1),bk:=D.nx } σ2 H2:=by
 obtain⟨R',τ',ρ',Si,kp,ef⟩:=h;obtain⟨d,hd,rd⟩:=rs.s_ hx;have hi:i<items.length:=by
  by_cases hi:i<items.length
  ·exact hi
  ·rw[List.getElem?_eq_none (by left)]at hd;cases hd
 have qY:items.drop i=d::items.drop (i+1):=by
  rw[List.drop_eq_getElem_cons hi];rw[List.getElem?_eq_getElem hi]at hd;cases hd;rfl
 rw[qY,dW]at ef;obtain⟨ρ1,e1,ef⟩:=aB ef;obtain⟨⟨fo,ρ2⟩,e2,ef⟩:=aB ef;refine Aa x σ H _ R' τ' ρ' ρ1 d Si (ka (Rep.oN (kp.rep rd))) e1 λσ' xS fG=>⟨R',xS,ρ1,(fo,ρ2),fG,e2,?_⟩
 cases fo with
 |nx=>exact λσ3 H3 R3 τ3 Jp k3=>⟨R3,τ3,ρ2,Jp,kp.trans k3,ef⟩
 |rt d=>cases ef;exact hq
theorem ko{t:Tg}{b:aj}{D:Ends}{r:Fo×aV}{items:List DI.D}{n:Nat}(hn:n=items.length)(hq:jS X F D R1 H1 r)(σ:St)(H:Hp)(h:jh X F Φ t b R1 H1 r items n σ H):D.nx σ H:=by
 obtain⟨R',τ',ρ',Si,kp,ef⟩:=h;subst hn;rw[List.drop_length,dW]at ef;cases ef;exact hq σ H R' τ' Si kp
theorem vk(ρ:aV):fM [] ρ=ρ:=by
 unfold fM;apply aaF;intro i;rw[List.getElem?_mapIdx];cases ρ[i]? with
 |none=>rfl
 |some o=>simp
theorem vo{v:V}{d:DI.D}(Si:SI X F R τ ρ σ H)(es:aG H H')(r:bM X.K (gP X F) R τ fv H H' v d):
  ∃R' τ',(∀p,R p->R' p)/\SI X F R' τ' (if aP bR d then fM fv ρ else ρ) σ H'/\Rep (aN X.K H') (nd X.K R' (λ_=>False) (λ_=>none) H') [] v (aZ a_ d):=by
 by_cases ha:aP bR d=true
 ·rw[if_pos ha];exact o4 Si es r
 ·rw[if_neg ha];have r':bM X.K (gP X F) R τ [] H H' v d:=by
   obtain⟨τt,fr,rp⟩:=r;exact⟨τt,fr,Rep.iK (P:=bR) (λ_ _ h=>h) (λk p xs f hf h=>by
    cases f with
    |ow=>exact h
    |fz=>exact h
    |al=>cases hf
    |sc=>exact h) rp (by simpa using ha)⟩
  have:=o4 Si es r';rw[vk]at this;exact this
theorem Ap{ds:List DI.D}(Si:SI X F R τ ρ σ H)(es:aG H H')(r:b0 X.K (gP X F) R τ fv H H' vs ds):
  ∃R' τ',(∀p,R p->R' p)/\SI X F R' τ' (if aK bR ds then fM fv ρ else ρ) σ H'/\az (aN X.K H') (nd X.K R' (λ_=>False) (λ_=>none) H') [] 0 vs (aD a_ ds):=by
 by_cases ha:aK bR ds=true
 ·rw[if_pos ha];exact q_ Si es r
 ·rw[if_neg ha];have r':b0 X.K (gP X F) R τ [] H H' vs ds:=by
   obtain⟨τt,fr,rp⟩:=r;exact⟨τt,fr,az.iK (P:=bR) (λ_ _ h=>h) (λk p xs f hf h=>by
    cases f with
    |ow=>exact h
    |fz=>exact h
    |al=>cases hf
    |sc=>exact h) rp (by simpa using ha)⟩
  have:=q_ Si es r';rw[vk]at this;exact this
def Vb(X:Cx)(F:ag)(Φ:aX)(p:Nat)(cs:aA):TI:=λσ H Rr=>∃R τ ρ xs d items,SI X F R τ ρ σ H/\cc Φ cs ρ=ok xs/\Φ p xs=ok d/\my d=ok items /\
 ∀J H2 vs,aG H H2->b0 X.K (gP X F) R τ (cL cs) H H2 vs xs->Jm X.K J H2 vs xs items->Rr J H2
theorem BS(L:mi X S k Φ){t:Tg}{p:Nat}{b:aj}{x:aJ}(ht:xg S t tg=true)(hi:S.px.pi p S.sc S.bl iter=some args)(hc:bG S cs args=true)(HC:Oi iter=true)(V7:(decide (1100<=p)||fj tg)=true)(hb:kN X x (ml X F Φ b)):PS X (.For tg iter x [] pos) (mn X F Φ (.fr t (.GC p cs) b)):=by
 obtain⟨g,hg,Aa⟩:=yk (F:=F) L ht;have lH:∀y,foldedSetIterable iter X.env y=pure y:=by
  intro y;cases iter<;>first|rfl | (cases HC;done)
 have pi:PI X tg iter (Vb X F Φ p cs):=λpins s σ H Rr I ⟨R,τ,ρ,xs,d,items,Si,cS,ed,ei,hR⟩ =>
  L.pr.i X _ _ k L.toLk.pX p iter args hi F cs tg V7 (kZ L.toLk cs args hc) pins s σ H R τ ρ xs d items I Si cS ed ei Rr hR
 refine PS.imp (ox L.px L.calm pi hg hb lH) λD σ H hq=>?_;obtain⟨R,τ,ρ,r,Si,ev,hq⟩:=hq;obtain⟨⟨items,ρ1⟩,ei,ef⟩:=aB ev;obtain⟨xs,cS,ei⟩:=aB ei;obtain⟨d,ed,ei⟩:=aB ei;obtain⟨QS,Xh,ei⟩:=aB ei;cases ei;refine⟨R,τ,ρ,xs,d,items,Si,cS,ed,Xh,λJ H2 vs e2 B9 yz=>?_⟩;obtain⟨R',τ',hR,fG,rs⟩:=Ap Si e2 B9;have zZ:=hq.from (Kp.of e2 hR);refine⟨λi m σ' H'=>m=items.length - i/\i<=items.length/\jh X F Φ t b R' H2 r items i σ' H',⟨_,rfl,YQ _,R',τ',_,fG,Kp.refl R' H2,by rw[List.drop_zero];exact ef⟩,?_⟩;rintro i m σ1 H1 ⟨rfl,MF,hf⟩;obtain⟨R1,τ1,ρ2,mh,k1,e1⟩:=id hf;have KZ:=k1.Qc rs;have P5:rP X.K H2 vs xs H1:=⟨⟨R',rs,k1.l⟩,λa ys h=>k1.N6 h⟩
 by_cases fL:i<items.length
 ·refine .inr ⟨yz.go i H1 R1 P5 KZ fL,λσ' H'=>jh X F Φ t b R' H2 r items (i+1) σ' H',λσ' H' h=>⟨items.length - (i+1),by left,rfl,fL,h⟩,λv H3 hy=>?_⟩;obtain⟨e3,dd,hd,rd⟩:=yz.rQ i H1 R1 v H3 P5 KZ fL hy;have qY:items.drop i=dd::items.drop (i+1):=by
   rw[List.drop_eq_getElem_cons fL];rw[List.getElem?_eq_getElem fL]at hd;cases hd;rfl
  rw[qY,dW]at e1;obtain⟨ρ3,eb,e1⟩:=aB e1;obtain⟨⟨fo,ρ4⟩,e4,e1⟩:=aB e1;have k3:Kp R' H2 R1 H3:=k1.trans (Kp.of e3 λ_ h=>h);refine Aa v σ1 H3 _ R1 τ1 ρ2 ρ3 dd (mh.go e3) (ka rd) eb λσ' xS Jq=>⟨R1,xS,ρ3,(fo,ρ4),Jq,e4,?_⟩
  cases fo with
  |nx=>exact λσ3 H4 R3 τ3 Jp k4=>⟨R3,τ3,ρ4,Jp,k3.trans k4,e1⟩
  |rt d=>cases e1;exact zZ
 ·exact .inl ⟨yz.stop i H1 R1 P5 KZ (by left),ko (n:=i) (by left) zZ σ1 H1 hf⟩
theorem az.ints{T:kJ}{N:gL}:∀(is:aa) {k:aU} {n:Nat},az T N k n (is.map V.int) (is.map DI.D.int)
 |[],_,_=>.nil
 |i::is,_,_=>.cons (.int i) (az.ints is)
theorem FV(L:mi X S k Φ){t:Tg}{it:CI}{b:aj}{x:aJ}(ht:xg S t tg=true)(hi:Ny S it iter=true)(Wg:(fj tg||y9 it)=true)(hb:kN X x (ml X F Φ b)):PS X (.For tg iter x [] pos) (mn X F Φ (.fr t it b)):=by
 obtain⟨g,hg,Aa⟩:=yk (F:=F) L ht;have lH:∀y,foldedSetIterable iter X.env y=pure y:=by
  intro y;cases iter<;>first|rfl | (cases it<;>first|exact(Yp hi).elim|exact(Yp (aH hi).2).elim)
 have jr:∀{lo:Int} {n:Nat} {D:Ends} {R:ag} {τ:Addr->Option aU} {ρ:aV} {σ:St} {H H1:Hp} {r:Fo×aV},SI X F R τ ρ σ H->aG H H1->jS X F D R H r ->
   dW (λd ρ=>cg t d ρ) (λρ=>bw Φ b ρ) ((List.range n).map λ(k:Nat)=>DI.D.int (lo+(k:Int))) ρ=ok r ->
   ∃W:Nat->Nat->L2.St->Hp->Prop,(∃m,W 0 m σ H1)/\∀i m σ H,W i m σ H ->
    ((xB lo n).stop i H/\D.nx σ H)\/((xB lo n).go i H/\∃N:L2.St->Hp->Prop,(∀σ' H',N σ' H'->∃m',m'<m/\W (i+1) m' σ' H')/\∀x H',(xB lo n).rQ i H x H'->g x σ H' λσ2 H2=>ml X F Φ b { D with nx:=N,ct:=N,bk:=D.nx } σ2 H2):=by
  intro lo n D R τ ρ σ H H1 r Si e1 hq ef;have rs:az (aN X.K H1) (nd X.K R (λ_=>False) (λ_=>none) H1) [] 0 ((List.range n).map λ(k:Nat)=>V.int (lo+(k:Int))) ((List.range n).map λ(k:Nat)=>DI.D.int (lo+(k:Int))):=by
   have:=az.ints (T:=aN X.K H1) (N:=nd X.K R (λ_=>False) (λ_=>none) H1) ((List.range n).map λ(k:Nat)=>lo+(k:Int)) (k:=[]) (n:=0);rw[List.map_map,List.map_map]at this;exact this
  have zZ:=hq.from (Kp.of e1 (R':=R) λ_ h=>h);refine w6 (jh X F Φ t b R H1 r _) ⟨R,τ,ρ,Si.go e1,Kp.refl R H1,by rw[List.drop_zero];exact ef⟩ (λi σ' H' HI h=>?_) (λσ' H' h=>ko (by simp) zZ σ' H' h);exact lK Aa rs zZ i (.int (lo+i)) σ' H' (by rw[List.getElem?_map,List.getElem?_range HI];rfl) h
 intro pins s σ H D I Rc;cases it with
 |GC p cs =>
  obtain⟨HC,hz⟩:=aH hi;obtain⟨args,ha,Q2⟩:=bo hz;exact BS L ht ha Q2 HC (by rw[Bool.or_comm];exact Wg) hb pins s σ H D I Rc
 |jr a =>
  obtain⟨R,τ,ρ,r,Si,ev,hq⟩:=Rc;obtain⟨⟨items,ρ1⟩,ei,ef⟩:=aB ev;obtain⟨⟨y,as⟩,hv,hz⟩:=bo hi;obtain⟨p,Hw,rfl⟩:=dQ hv;obtain⟨V0,Q2⟩:=aH hz;obtain⟨VZ,h2⟩:=aH V0;obtain⟨VY,h1⟩:=aH VZ;obtain rfl:y=_:=Yn VY;obtain⟨e,hu,h3⟩:=bo Q2;obtain rfl:as=[e]:=cU hu;have pa:PA X [e] (qb X F Φ [a]):=PA.imp (dC (ff (F:=F) L.toLk a e h3).1 ib (b7 h3 _ _)) λ_ _ _ h=>by
   have:=eP h;obtain⟨R,τ,ρ,d,Si,ev,hq⟩:=this;exact⟨R,τ,ρ,d,Si,ev,λv H' e r=>iP (hq v H' e r)⟩
  refine ox L.px L.calm (m8 (L.gl h1) (L.bl _ (Yn h2)) pa (b7 h3 _ _)) hg hb lH pins s σ H D I ?_;obtain⟨d,ed,ei⟩:=aB ei;cases d<;>try (simp at ei;done)
  rename_i n;simp at ei;obtain⟨⟨c1,c2⟩,rfl,rfl⟩:=ei;have oX:(eO:Int)=1000000:=rfl;refine⟨R,τ,ρ,[.int n],Si,by show bd (bj Φ a ρ) _=_;rw[ed];rfl,λvs H1 e1 rv=>?_⟩;obtain⟨τt,fr,rs⟩:=rv;cases rs.ints1
  ·refine⟨n,rfl,by left,by left,?_⟩;refine jr (lo:=0) Si e1 hq ?_;simpa using ef
 |seq a =>
  obtain⟨R,τ,ρ,r,Si,ev,hq⟩:=Rc;obtain⟨⟨items,ρ1⟩,ei,ef⟩:=aB ev;replace hi:=aH hi;obtain⟨d,ed,ei⟩:=aB ei;have pe:=(ff (F:=F) L.toLk a iter hi.1).1;cases d<;>try (simp at ei;done)
  ·rename_i ds;simp at ei;obtain⟨rfl,rfl⟩:=ei;refine ox L.px L.calm (yS pe) hg hb lH pins s σ H D I (tD.intro Si ed λv H1 e1 rv=>?_);obtain⟨R',τ',hR,fG,rp⟩:=vo Si e1 rv;rw[aZ]at rp;cases rp with
   | @tup _ p xs _ hp rs =>
    have zZ:=hq.from (Kp.of e1 hR);refine⟨p,rfl,⟨xs,hp⟩,De (xs:=xs) (jh X F Φ t b R' H1 r (aD a_ ds)) ⟨R',τ',_,fG,Kp.refl R' H1,by rw[List.drop_zero];exact ef⟩ (λi σ' H' _ h=>?_) (λi x σ' H' hx h=>lK Aa rs zZ i x σ' H' hx h) (λσ' H' h=>ko (rs.length) zZ σ' H' h)⟩;obtain⟨R2,τ2,ρ2,_,kp,_⟩:=h;exact kp.N6 hp
  ·rename_i f ds;simp at ei;obtain⟨rfl,rfl⟩:=ei;refine ox L.px L.calm (uH pe) hg hb lH pins s σ H D I (tD.intro Si ed λv H1 e1 rv=>?_);obtain⟨R',τ',hR,fG,rp⟩:=vo Si e1 rv;rw[aZ]at rp;obtain⟨p,xs,rfl,hp,rs⟩:=rp.rW;have zZ:=hq.from (Kp.of e1 hR);refine⟨p,rfl,⟨xs,hp.sq⟩,Ar (xs:=xs) (jh X F Φ t b R' H1 r (aD a_ ds)) ⟨R',τ',_,fG,Kp.refl R' H1,by rw[List.drop_zero];exact ef⟩ (λi σ' H' _ h=>?_) (λi x σ' H' hx h=>lK Aa rs zZ i x σ' H' hx h) (λσ' H' h=>ko (rs.length) zZ σ' H' h)⟩;obtain⟨R2,τ2,ρ2,_,kp,_⟩:=h;exact(kp.nd hp).sq
theorem ly{ρ':aV}{p:Addr}{q:aU}{n:Nd}{o:HO}(Si:SI X F R' τ' ρ' σ H1)(es:aG H H1)(hR:∀p,R p->R' p)(hp:de H1 p n)(ht:τ' p=some q):Kp R H R' (upd H1 p o):=by
 obtain⟨o0,z3,Ms,JJ⟩:=de.some hp;exact⟨hR,λa u ha e=>by
  have ne:a≠p:=λz=>by subst z;rw[Si.rt _ (hR _ ha)]at ht;cases ht
  rw[aS ne];exact es _ _ e,λa zs e=>by
  have e1:=es _ _ e;have ne:a≠p:=λz=>by subst z;rw[z3]at e1;cases e1;exact Ms _ rfl
  rw[aS ne];exact e1,λa o u e=>by
  have e1:=es _ _ e;have ne:a≠p:=λz=>by subst z;rw[z3]at e1;cases e1;exact JJ _ _ rfl
  rw[aS ne];exact e1⟩
theorem fK.go{v:V}{d:DI.D}(h:fK X R τ H v d)(e:aG H H'):fK X R τ H' v d :=
 let ⟨τt,h1,h2⟩:=h;⟨τt,λp q z=>let ⟨a,b,c,d⟩:=h1 p q z;⟨a,b,c,aG.ne e d⟩,h2.imp (λ_ _ h=>aN.same e h) λ_ _ _ _ h=>nd.same e h⟩
theorem Ox(L:mi X S k Φ){i:Nat}(h:jc S i o=true)(hv:∀x p,o=.Name x p->jV x=true):∃x p,o=.Name x p/\X.N[i]?=some x/\L2.Loc X.env.scope x/\PE X o (yr i):=by
 cases o<;>try (exact(Yp h).elim;done)
 rename_i x p;have hn:=hv x p rfl;replace h:=aH h;unfold jV at hn;simp only[Bool.and_eq_true,Bool.not_eq_true']at hn;have hN:X.N[i]?=some x:=by rw[L.N];exact Yn h.1
 have hl:=L.loc h.2;exact⟨x,p,rfl,hN,hl,sA hN (hl.imp id .inl) hn.1.1 hn.1.2⟩
theorem vt{e:CE}{r:DI.D×aV}{i:Nat}{ds:List DI.D}(h:gJ Φ e ρ=ok r)(ho:r.2[i]?=some (some (.lst .ow ds))):ρ[i]?=some (some (.lst .ow ds)):=by
 by_cases hv:∃j,e=.v j
 ·obtain⟨j,rfl⟩:=hv;simp only[gJ]at h;split at h
  ·split at h
   ·cases h;by_cases gU:i=j
    ·subst gU;rw[List.getElem?_set]at ho;simp at ho
    ·rw[List.getElem?_set_ne (Ne.symm gU)]at ho;exact ho
   ·cases h;exact ho
  ·cases h
 ·have h':bd (bj Φ e ρ) (λd=>ok (keep e d ρ))=ok r:=by
   cases e<;>first|exact h|exact absurd ⟨_,rfl⟩ hv
  obtain⟨d,_,er⟩:=aB h';cases er;unfold keep at ho;split at ho
  ·obtain⟨d',h1,h2⟩:=vm _ _ _ _ ho;split at h2
   ·cases d'<;>simp[aZ]at h2;rename_i f ds';cases f<;>simp[a_]at h2
   ·rw[h2];exact h1
  ·exact ho
theorem FX(L:mi X S k Φ){i:Nat}{e:CE}{x:Str}{v:Expr}{p:Pos}(hn:jc S i (.Name x p)=true)(hx:jV x=true)(he:bL S e v=true)(Rt:(p1.endLine==p2.line)=true):PS X (.Expr (.Call (.Attribute (.Name x p) ("append" : Str) p1) [v] [] p2) pos) (mn X F Φ (.app i e)):=by
 obtain⟨_,_,z,hN,hl,pe⟩:=Ox L hn (λy q e=>by cases e;exact hx);cases z;refine PS.imp (oy (Lj PySem.F.plainAttrs_list PySem.F.slot_list_append PySem.F.type_list_append wG pe (dC (oe (F:=F) L.toLk e v he) ib (b7 he _ _)) (hfew:=by rw[b7 he];rfl) (hline:=Rt) (hs:=b7 he _ _))) λD σ H hq=>?_;obtain⟨R,τ,ρ,r,Si,ev,hq⟩:=hq;obtain⟨r1,tq,ev⟩:=aB ev;split at ev
 ·rename_i ds ho;split at ev
  ·rename_i hc;cases ev;have ho:=uK ho;obtain⟨a,xs,hv,ha,OC,V8,_⟩:=Si.own (vt tq ho);refine⟨.ref a,hv,.inl ⟨rfl,_,cH.of ha⟩,R,τ,ρ,r1,Si,tq,λw H1 R1 τ1 es hR mh rk=>?_⟩;obtain⟨a1,U9,OG,RF,V3,Ml,KZ⟩:=mh.own ho;rw[hv]at OG;cases OG;have hz:sizeLine=16777216:=Zx;have oX:eO=1000000:=rfl;refine⟨a,U9,w,rfl,rfl,RF,by left,?_⟩;obtain⟨τ2,tV⟩:=mh.put (m:=ds.length) (g:=λys=>ys++[w]) ho hv RF Ml KZ rk λrs r=>az.Eg rs (by simpa using r);exact hq σ _ R1 τ2 tV (ly (n:=.l _) mh es hR RF Ml)
  ·cases ev
 ·cases ev
theorem BR(L:mi X S k Φ){i:Nat}{c e:CE}{x:Str}{ke v:Expr}{p:Pos}(hn:jc S i (.Name x p)=true)(hx:jV x=true)(hk:bL S c ke=true)(he:bL S e v=true)(Rq:fq v=false):PS X (.Assign [.Subscript (.Name x p) ke p1] v pos) (mn X F Φ (.setI i c e)):=by
 obtain⟨_,_,z,hN,hl,pe⟩:=Ox L hn (λy q e=>by cases e;exact hx);cases z;have hw:swappedStores [.Subscript (.Name x p) ke p1] v X.env=pure none:=by cases v<;>rfl
 have ha:∀u,assign (.Subscript (.Name x p) ke p1) X.env u=(do
   let ov <- holding [u] (eval (.Name x p) X.env)
   let iv <- holding [u,ov] (eval ke X.env)
   standAt p1
   holding [u,ov,iv] (setItem ov iv u)
   release [u,ov,iv] []):=by
  intro u;cases ke<;>first|rfl | (cases c<;>exact(Yp hk).elim)
 refine PS.imp (yQ (oe (F:=F) L.toLk e v he) (GB pe (ff (F:=F) L.toLk c ke hk).1 set_list ha) (by first|rfl | (cases v<;>rfl) | (unfold swapsWithSole;exact l5 he Rq _ _ _)) hw rfl) λD σ H hq=>?_;obtain⟨R,τ,ρ,r,Si,ev,hq⟩:=hq;obtain⟨r1,tq,ev⟩:=aB ev;obtain⟨n,en,ev⟩:=aB ev;obtain⟨d,ed,en⟩:=aB en;have en:=vd en;subst en;split at ev
 ·rename_i ds ho;split at ev
  ·rename_i j hj;cases ev;have ho:=uK ho;obtain⟨a,xs,hv,ha,OC,V8,_⟩:=Si.own (vt tq ho);refine⟨R,τ,ρ,r1,Si,tq,λw H1 R1 τ1 es hR mh rk=>?_⟩;refine⟨.ref a,hv,tD.intro mh ed λu H2 e2 ru=>?_⟩;cases ru.isInt;have tV:=mh.go e2;obtain⟨a2,Fq,OF,RE,Q3,Mj,B_⟩:=tV.own ho;rw[hv]at OF;cases OF;refine⟨a,Fq,n,j,rfl,rfl,RE,by rw[Q3];exact hj,?_⟩;obtain⟨τ3,Jp⟩:=tV.put (m:=j) (g:=λys=>ys.set j w) ho hv RE Mj B_ (rk.go e2) λrs r=>az.setAt (j:=j) rs (by simpa using r);exact hq σ _ R1 τ3 Jp (ly (n:=.l _) tV (es.trans e2) hR RE Mj)
  ·cases ev
 ·cases ev
theorem FW(L:mi X S k Φ){i:Nat}{b:Bool}{e:CE}{x:Str}{v:Expr}{p:Pos}(hn:jc S i (.Name x p)=true)(hx:jV x=true)(he:bL S e v=true):PS X (.AugAssign (.Name x p) (if b then .Add else .Sub) v pos) (mn X F Φ (.aug i b e)):=by
 obtain⟨_,_,z,hN,hl,pe⟩:=Ox L hn (λy q e=>by cases e;exact hx);cases z;have ip:Pe X (if b then .Add else .Sub) (QZ λy z=>if b then y+z else y - z):=by
  cases b
  ·exact Hx
  ·exact Hy
 refine PS.imp (Gy L.nd hN hl (ff (F:=F) L.toLk e v he).1 ip (.inl (L.Bl _))) λD σ H hq=>?_;obtain⟨R,τ,ρ,r,Si,ev,hq⟩:=hq;obtain⟨n,en,ev⟩:=aB ev;obtain⟨d,ed,en⟩:=aB en;have en:=vd en;subst en;split at ev
 ·rename_i a ho;cases ev;obtain⟨w,hw,iT⟩:=Si.rep i _ ho;cases iT;have hi:i<ρ.length:=by
   by_cases z:i<ρ.length
   ·exact z
   ·rw[List.getElem?_eq_none (by left)]at ho;cases ho
  refine⟨_,hw,tD.intro Si ed λu H1 e1 ru=>?_⟩;cases ru.isInt;refine⟨_,_,rfl,rfl,?_⟩;obtain⟨τ1,mh⟩:=(Si.go e1).set (i:=i) (v:=.int (if b then a+n else a - n)) (d:=.int (if b then a+n else a - n)) ⟨λ_=>none,λ_ _ h=>by simp at h,.int _⟩ hi;exact hq _ H1 R τ1 mh (Kp.of e1 λ_ h=>h)
 ·cases ev
end
section
variable {X:Cx}{S:Sx}{k:Nat}{F:ag}{Φ:aX}
theorem Gz(x:Str)(p:Pos):(Expr.Name x p).pos=p:=rfl
theorem sf{x y:Str}{px py pt Jv:Pos}{kt k2:Nat}{a b:Expr}(hk:env.scope.kind=.function)(hx:env.scope.names.lookup x=some .local)(hy:env.scope.names.lookup y=some .local)(T8:x≠y)(hl:px.line=py.line)
  (h1:[a,b].all (foldedForSure 8)=false) (h2:[a,b].all (constantsAlone 8)=false) (h3:([a,b].any λe=>match e with|.Starred ..=>true|_=>false)=false) :
  swappedStores [.Tuple [.Name x px,.Name y py] kt pt] (.Tuple [a,b] k2 Jv) env=pure (some [x,y]):=by
 have hb:env.blockKind=.function:=by unfold Env.blockKind;rw[hk];rfl
 have kx:env.kindOf x=some .local:=hx;have ky:env.kindOf y=some .local:=hy;have e1:([x,y].eraseDups.length != [x,y].length)=false:=by
  have:¬ (y==x)=true:=by simp;exact λz=>T8 z.symm
  have h':(y==x)=false:=by simpa using this
  simp[List.eraseDups_cons,List.filter,h',T8]
 unfold swappedStores;simp only[hb,h3,List.filterMap_cons,List.filterMap_nil,kx,ky,hl,Gz,List.head?_cons,Option.map_some,Option.getD_some,h1,h2];simp only[beq_self_eq_true,Bool.and_self,if_true];rw[if_neg (by simp)];refine(Z1 ?_).trans ?_
 ·intro z;exact Yp (h3.symm.trans z)
 rw[if_neg (by
  rw[e1];simp),if_neg Bool.false_ne_true,if_neg Bool.false_ne_true]
theorem lb{kp:aU}{v:V}{d:DI.D}(h:Rep (aN X.K H) (nd X.K R A τ H) kp v d)(hf:aP anyF d=false):fK X R' τ' H v d :=
 ⟨λ_=>none,λ_ _ h=>by simp at h,Rep.without (P:=anyF) (λ_ _ h=>h) (λk k' p xs f hf h=>by cases hf) h hf _⟩
theorem FU(L:mi X S k Φ){i j:Nat}{a b:CE}{v:Expr}(he:bL S (.tup [a,b]) v=true)(hp:AN S i j tg v=true):PS X (.Assign [tg] v pos) (mn X F Φ (.par i j a b)):=by
 obtain⟨ts,OG,q1⟩:=bo hp;obtain⟨kt,pt,rfl⟩:=iM OG;obtain⟨⟨t1,t2⟩,OF,q2⟩:=bo q1;obtain rfl:ts=[t1,t2]:=hJ OF;obtain⟨⟨x,px⟩,hv3,q3⟩:=bo q2;obtain rfl:t1=_:=tZ hv3;obtain⟨⟨y,py⟩,hv4,q4⟩:=bo q3;obtain rfl:t2=_:=tZ hv4;obtain⟨vs,V4,q5⟩:=bo q4;obtain⟨k2,Jv,rfl⟩:=iM V4;obtain⟨⟨ea,eb⟩,hv6,q6⟩:=bo q5;obtain rfl:vs=[ea,eb]:=hJ hv6
 ·obtain⟨q7,Ie⟩:=aH q6;obtain⟨q8,h9⟩:=aH q7;obtain⟨q9,h8⟩:=aH q8;obtain⟨Qn,h7⟩:=aH q9;obtain⟨VJ,h6⟩:=aH Qn;obtain⟨VI,h5⟩:=aH VJ;obtain⟨VH,h4⟩:=aH VI;obtain⟨VG,h3⟩:=aH VH;obtain⟨h1,h2⟩:=aH VG;replace h1:S.N[i]?=some x:=Yn h1;replace h2:S.N[j]?=some y:=Yn h2;replace h3:=Yn h3;replace h4:=Yn h4;replace h5:=Yn h5;replace h6:=Yn h6;replace h7:=Yn h7;replace h8:=jN h8;replace h9:=jN h9;replace Ie:=Yn Ie;replace he:=aH he;have pa:=ug (F:=F) L.toLk [a,b] [ea,eb] he.1;refine PS.imp (Gx L.calm L.nd (by rw[L.N];exact h1) (by rw[L.N];exact h2) h3 (by rw[L.sc];exact h4) (by rw[L.sc];exact h5) pa (sf (by rw[L.sc];exact L.fk) (by rw[L.sc];exact h4) (by rw[L.sc];exact h5) h6 h7 h8 h9 Ie)) λD σ H hq=>?_;obtain⟨R,τ,ρ,r,Si,ev,hq⟩:=hq;obtain⟨d1,Xj,ev⟩:=aB ev;obtain⟨d2,Xi,ev⟩:=aB ev;simp only[EG]at ev;obtain⟨⟨f1,f2,l1,l2⟩,rfl⟩:=ev;refine⟨R,τ,ρ,[d1,d2],Si,by show bd (bj Φ a ρ) _=_;rw[Xj];show bd (bd (bj Φ b ρ) _) _=_;rw[Xi];rfl,λvs H1 e1 rv=>?_⟩;obtain⟨τt,fr,rs⟩:=rv;obtain⟨v1,v2,rfl,r1,r2⟩:=rs.two
  ·obtain⟨τ1,S1⟩:=(Si.go e1).set (i:=i) (lb r1 f1) l1;obtain⟨τ2,S2⟩:=S1.set (i:=j) (lb r2 f2) (by simpa using l2);exact⟨v1,v2,rfl,hq _ H1 R τ2 S2 (Kp.of e1 λ_ h=>h)⟩
theorem wH{α β:Type}(f:α->β):∀(ms:List α) (m:Nat),(ms.map f).eraseIdx m=(ms.eraseIdx m).map f
 |[],_=>rfl
 |_::_,0=>rfl
 |x::ms,m+1=>by
  show f x::(ms.map f).eraseIdx m=f x::(ms.eraseIdx m).map f;rw[wH f ms m]
theorem az.Nr{T:kJ}{N:gL}:∀{k:aU} {n:Nat} {vs:af} {ds:ae},az T N k n vs ds->az T N k n vs.dropLast ds.dropLast
 |_,_,_,_,.nil=>.nil
 |_,_,_,_,.cons _ .nil=>.nil
 |_,_,_,_,.cons h (.cons h' t)=>.cons h (az.Nr (.cons h' t))
mutual
theorem FZ(L:mi X S k Φ):∀(c:CS) (st:Stmt),Nw S c st=true->PS X st (mn X F Φ c)
 |.asg t e,st,h=>by
  obtain⟨⟨D8,v⟩,v1,q1⟩:=bo h;obtain⟨pos,rfl⟩:=j6 v1;obtain⟨tg,v2,q2⟩:=bo q1;obtain rfl:D8=[tg]:=cU v2;obtain⟨q3,h4⟩:=aH q2;obtain⟨q4,h3⟩:=aH q3;obtain⟨h1,h2⟩:=aH q4;have h1:bL S e v=true:=h1;replace h3:(isTup v&&isTup tg)=false:=jN h3;cases hc:fq v with
  |false=>exact yv L h1 h2 h3 (l5 h1 hc _ _ _)
  |true =>
   have h4:(!fq v||isNm tg)=true:=h4;rw[hc]at h4;obtain⟨x,p,rfl⟩:=km h4;obtain⟨gN,gens,sc,J1,rfl⟩:=wM hc;cases e<;>try (exact(Yp h1).elim)
   cases t with
   |tp is=>exact(Yp h2).elim
   |nm i =>
    cases hb:PZ S (.Name x p) (.ListComp gN gens sc J1)with
    |true=>exact BU L h1 h2 (by rw[Ef L,hb])
    |false=>exact yv L h1 h2 h3 (by
      show swapsWith (.ListComp gN gens sc J1) (some (.Name x p)) pos.line X.env=_;rw[Ef L,hb])
 |.par i j a b,st,h=>by
  obtain⟨⟨D8,v⟩,v1,q1⟩:=bo h;obtain⟨pos,rfl⟩:=j6 v1;obtain⟨tg,v2,q2⟩:=bo q1;obtain rfl:D8=[tg]:=cU v2;exact FU L (aH q2).1 (aH q2).2
 |.ret e,st,h=>by
  obtain⟨z,v1,q1⟩:=bo h;obtain⟨pos,rfl⟩:=Bx v1;obtain⟨v,v2,q2⟩:=bo q1;obtain rfl:z=some v:=v2;exact FT L q2
 |.rs c,st,h=>λ_ _ _ _ _ _ bz=>by obtain⟨R,τ,ρ,r,Si,ev,hq⟩:=bz;cases ev
 |.ex e,st,h=>by
  obtain⟨v,v1,q1⟩:=bo h;obtain⟨pos,rfl⟩:=rX v1;exact Kz L (aH q1).1 (jN (aH q1).2)
 |.mut p i es,st,h=>by
  obtain⟨⟨o,args⟩,ha,q1⟩:=bo h;obtain⟨q2,h3⟩:=aH q1;obtain⟨h1,h2⟩:=aH q2;obtain⟨x,pp,rfl,hN,hl,pe⟩:=Ox L h1 (λy q e=>by cases e;exact h2);exact L.pm.m X _ _ k L.toLk.pX L.nd L.Bl p st x pp args ha i hN hl pe F es (kZ L.toLk es args h3)
 |.app i e,st,h=>by
  obtain⟨c,v1,q1⟩:=bo h;obtain⟨pos,rfl⟩:=rX v1;obtain⟨⟨fn,as,ks,p2⟩,v2,q2⟩:=bo q1;obtain rfl:c=_:=mR v2;obtain⟨q3,q4⟩:=aH q2;obtain rfl:ks=[]:=lC q3;obtain⟨⟨o,a,p1⟩,v3,q5⟩:=bo q4;obtain rfl:fn=_:=pY v3;obtain⟨q6,q7⟩:=aH q5;obtain⟨v,v4,h4⟩:=bo q7;obtain rfl:as=[v]:=cU v4;obtain⟨q8,h5⟩:=aH q6;obtain⟨q9,h2⟩:=aH q8;obtain⟨Qn,h1⟩:=aH q9;obtain rfl:a=_:=Yn Qn;obtain⟨x,p,rfl⟩:∃x p,o=.Name x p:=o_ h1;exact FX L h1 h2 h4 h5
 |.setI i k e,st,h=>by
  obtain⟨⟨D8,v⟩,v1,q1⟩:=bo h;obtain⟨pos,rfl⟩:=j6 v1;obtain⟨tg,v2,q2⟩:=bo q1;obtain rfl:D8=[tg]:=cU v2;obtain⟨⟨o,ke⟩,v3,q3⟩:=bo q2;obtain⟨p1,rfl⟩:=gy v3;obtain⟨q4,h5⟩:=aH q3;obtain⟨q5,h4⟩:=aH q4;obtain⟨q6,h3⟩:=aH q5;obtain⟨h1,h2⟩:=aH q6;obtain⟨x,p,rfl⟩:∃x p,o=.Name x p:=o_ h1;exact BR L h1 h2 h3 h4 (jN h5)
 |.aug i op e,st,h=>by
  obtain⟨⟨o,p,v⟩,v1,q1⟩:=bo h;obtain⟨pos,rfl⟩:=BE v1;obtain⟨q2,h4⟩:=aH q1;obtain⟨q3,h3⟩:=aH q2;obtain⟨h1,h2⟩:=aH q3;obtain rfl:p=_:=Yn h3;obtain⟨x,pp,rfl⟩:∃x p,o=.Name x p:=o_ h1;exact FW L h1 h2 h4
 |.ifs c a b,st,h=>by
  obtain⟨⟨t,x,y⟩,v1,q1⟩:=bo h;obtain⟨pos,rfl⟩:=Bz v1;obtain⟨q2,h3⟩:=aH q1;obtain⟨h1,h2⟩:=aH q2;exact Ky L h1 (gC L a _ h2) (gC L b _ h3)
 |.Fv c b,st,h=>by
  obtain⟨⟨t,x,y⟩,v1,q1⟩:=bo h;obtain⟨pos,rfl⟩:=Bw v1;obtain⟨q2,h3⟩:=aH q1;obtain⟨h1,h2⟩:=aH q2;obtain rfl:y=[]:=lC h1;exact yu L h2 (gC L b _ h3)
 |.fr t it b,st,h=>by
  obtain⟨⟨tg,iter,x,y⟩,v1,q1⟩:=bo h;obtain⟨pos,rfl⟩:=BA v1;obtain⟨q2,h5⟩:=aH q1;obtain⟨q3,h4⟩:=aH q2;obtain⟨q4,h3⟩:=aH q3;obtain⟨h1,h2⟩:=aH q4;obtain rfl:y=[]:=lC h1;exact FV L h2 h3 h4 (gC L b _ h5)
theorem gC(L:mi X S k Φ):∀(cs:aj) (cW:aJ),jb S cs cW=true->kN X cW (ml X F Φ cs)
 |[],[],_=>kN.imp Cf λD σ H bz=>by obtain⟨R,τ,ρ,r,Si,ev,hq⟩:=bz;cases ev;exact hq σ H R τ Si (Kp.refl R H)
 |[],_::_,h=>by exact(Yp h).elim
 |_::_,[],h=>by exact(Yp h).elim
 |c::cs,st::cW,h=>by
  replace h:=aH h;have h1:PS X st (mn X F Φ c):=FZ L c st h.1;have h2:kN X cW (ml X F Φ cs):=gC L cs cW h.2;refine kN.imp (yN h1 h2) λD σ H hq=>?_;obtain⟨R,τ,ρ,r,Si,ev,hq⟩:=hq;obtain⟨⟨fo,ρ1⟩,e1,ev⟩:=aB ev;refine⟨R,τ,ρ,(fo,ρ1),Si,e1,?_⟩;cases fo with
  |nx=>exact λσ' H' R' τ' fG kp=>⟨R',τ',ρ1,r,fG,ev,hq.from kp⟩
  |rt d=>cases ev;exact hq
end
end
variable {mg:Str->Option Value}{ps:aw}{qual:Str}
theorem rg{x:Str}{f:Addr}{fd:FuncData}{k:Nat}{N bl:aw}{cs:List (Str×GK)}{px:Px}{Bl:Nat->Option Str}{m:aE}{body:aj}
  (Fu:D1 K x qual st f fd) (Sc:gM N ps (br st)) (HN:jb ⟨br st,N,Bl,bl,cs,px⟩ body (cN st)=true) (HC:tX px Φ) (Rf:Jr px Φ)
  (C7:∀y∈bl,mg y=none) (sV:∀y i,(y,i)∈cs->∃u,mg y=some u/\D0 K i u)
  (xK:∀g y,Bl g=some y->∃(f:Addr) (fd:FuncData) (ps:aw),gO P w K mg base xQ k f fd ps (BV K ps.length (Φ g))/\mg y=some (.ref f)/\PySem.W.keepIn K (.ref f)=true/\Binds K fd ps []/\∀ds r,Φ g ds=ok r->ds.length=ps.length)
  (hm:∀ds r,m ds=ok r->ds.length=ps.length/\oo Φ N.length body ds=ok r):gO P w K mg base xQ (k+1) f fd ps (BV K ps.length m):=by
 refine Fu.ok (N:=N) Sc (λvs H Q E ⟨_,_,_,h,_⟩=>h) λgW A outer s H vs Q E hr Bh=>?_;obtain⟨F,ds,r,hl,rs,er,hq⟩:=Bh;obtain⟨Ye,zY⟩:=hm ds r er
 let X:=(tI xQ P w K mg base N qual (br st) f gW A outer s H E).LA
 have L:mi X ⟨br st,N,Bl,bl,cs,px⟩ k Φ:=⟨⟨rfl,rfl,Sc.nd,rfl,hr,C7,λg y h=>⟨xK g y h⟩,sV,HC⟩,λ_=>rfl,PassesOwn.never,Sc.kind,Rf⟩
 refine⟨ml X F Φ body,gC L body _ HN,?_⟩;unfold oo at zY;obtain⟨⟨fo,ρ'⟩,eb,zY⟩:=aB zY;have hpl:ps.length<=N.length:=by have:=Zw List.length Sc.pre;rw[List.length_take]at this;left
 have Bg:vs.length=ds.length:=rs.length;refine⟨λp=>F p/\H p≠none,λ_=>none,_,(fo,ρ'),⟨?_,λi d hi=>?_,λ_ _=>rfl,λp h=>h.2,λp h=>.inl h.1,λ_ _ h=>by simp at h,λ_ _ h=>by simp at h,aG.refl H⟩,eb,?_⟩
 ·unfold L2.start;simp[Bg]
 ·have MH:i<ds.length:=by
   by_cases fb:i<ds.length
   ·exact fb
   ·rw[List.getElem?_append_right (by simpa using fb)]at hi;rw[List.getElem?_replicate]at hi;split at hi<;>simp at hi
  rw[List.getElem?_append_left (by simpa using MH),List.getElem?_map]at hi;have hd:ds[i]?=some d:=by
   cases q:ds[i]? with
   |none=>rw[q]at hi;cases hi
   |some z=>rw[q]at hi;simp at hi;rw[hi]
  obtain⟨v,hv,rv⟩:=rs.get hd;refine⟨v,?_,rv.imp (q:=[0+i]) (q':=[i]) (λ_ _ h=>h) λc p xs f h=>?_⟩
  ·unfold L2.start;rw[List.getElem?_append_left (by rw[List.length_map,Bg];exact MH),List.getElem?_map,hv];rfl
  ·cases f with
   |ow=>exact nomatch h.2
   |fz=>exact⟨h.1,h.2,h.1.ne⟩
   |al=>exact h.2.elim
   |sc=>exact h
 ·cases fo with
  |nx =>
   cases zY;exact λσ' H' R' τ' fG kp=>hq .bD H' fG.same ⟨λ_=>none,λ_ _ h=>by simp at h,.bD⟩
  |rt d =>
   cases zY;exact λv H' es rr=>hq v H' es rr
structure Ent(P:ax)(w:World)(K:ao)(mg:aO)(base:Heap)(k:Nat)(y:Str)(m:aE):Prop where
 ex:∃(f:Addr) (fd:FuncData) (ps:aw),gO P w K mg base xQ k f fd ps (BV K ps.length m)/\mg y=some (.ref f)/\PySem.W.keepIn K (.ref f)=true/\Binds K fd ps []/\∀ds r,m ds=ok r->ds.length=ps.length
theorem Ent.up{k k':Nat}{y:Str}{m:aE}(h:Ent P w K mg base k y m)(hk:k<=k'):Ent P w K mg base k' y m:=by
 obtain⟨f,fd,ps,h1,h2⟩:=h.ex;exact⟨f,fd,ps,h1.mono hk,h2⟩
theorem ent{x:Str}{f:Addr}{fd:FuncData}{k:Nat}{N bl:aw}{cs:List (Str×GK)}{px:Px}{Bl:Nat->Option Str}{m:aE}{body:aj}
  (Fu:D1 K x qual st f fd) (hmg:mg x=some (.ref f)) (hb:Binds K fd ps []) (Sc:gM N ps (br st)) (HN:jb ⟨br st,N,Bl,bl,cs,px⟩ body (cN st)=true) (HC:tX px Φ) (Rf:Jr px Φ) (C7:∀y∈bl,mg y=none) (sV:∀y i,(y,i)∈cs->∃u,mg y=some u/\D0 K i u)
  (xK:∀g y,Bl g=some y->Ent P w K mg base k y (Φ g)) (hm:∀ds r,m ds=ok r->ds.length=ps.length/\oo Φ N.length body ds=ok r):Ent P w K mg base (k+1) x m :=
 ⟨f,fd,ps,rg Fu Sc HN HC Rf C7 sV (λg y h=>(xK g y h).ex) hm,hmg,Fu.kp,hb,λds r h=>(hm ds r h).1⟩
noncomputable def cQ{α:Type}(P:α->Prop):List α->Prop
 |[]=>True
 |a::l=>P a/\cQ P l
theorem cQ.mem{α:Type}{P:α->Prop}:∀{l:List α},cQ P l->∀a∈l,P a
 |[],_,_,h=>by cases h
 |_::_,h,_,hm=>(List.mem_cons.mp hm).elim (λe=>e▸h.1) (cQ.mem h.2 _)
theorem cQ.tab{β:Type}{P:Nat->β->Prop}:∀{l:List (Nat×β)},cQ (λp=>P p.1 p.2) l->∀g y,l.lookup g=some y->P g y
 |[],_,_,_,h=>by cases h
 | (k,b)::l,h,g,y,e=>by
  rw[List.lookup_cons]at e;cases hg:g==k with
  |true=>rw[hg]at e;cases e;rw[eq_of_beq hg];exact h.1
  |false=>rw[hg]at e;exact cQ.tab h.2 g y e
theorem cQ.two{β γ:Type}{P:β->γ->Prop}{l:List (β×γ)}(h:cQ (λp=>P p.1 p.2) l)(y:β)(i:γ)(hm:(y,i)∈l):P y i:=cQ.mem h _ hm
theorem LY{α:Type}{l:List α}(h:l.length=1):∃a,l=[a]:=List.length_eq_one_iff.mp h
theorem LX{α:Type}{l:List α}(h:l.length=2):∃a b,l=[a,b]:=by
 cases l with
 |nil=>cases h
 |cons a l=>obtain⟨b,rfl⟩:=LY (Nat.succ.inj h);exact⟨a,b,rfl⟩
theorem LW{α:Type}{l:List α}(h:l.length=3):∃a b c,l=[a,b,c]:=by
 cases l with
 |nil=>cases h
 |cons a l=>obtain⟨b,c,rfl⟩:=LX (Nat.succ.inj h);exact⟨a,b,c,rfl⟩
theorem QI{α:Type}{l:List α}(h:l.length=4):∃a b c d,l=[a,b,c,d]:=by
 cases l with
 |nil=>cases h
 |cons a l=>obtain⟨b,c,d,rfl⟩:=LW (Nat.succ.inj h);exact⟨a,b,c,d,rfl⟩
noncomputable def lE:ae->Option (aa)
 |[]=>some []
 |.int i::ds=>(lE ds).map (i :: ·)
 |_::_=>none
theorem lD:∀ns:aa,lE (ns.map D.int)=some ns
 |[]=>rfl
 |n::ns=>by simp[lE,lD ns]
theorem qF:∀{ds:ae} {ns:aa},lE ds=some ns->ds=ns.map D.int
 |[],ns,h=>by simp[lE]at h;subst h;rfl
 |d::ds,ns,h=>by
  cases d<;>simp[lE]at h;obtain⟨ms,h1,rfl⟩:=h;rw[qF h1];rfl
def oO:aE
 |[.lst .sc ds]=>match lE ds with
  |some ns=>if ns.length<=63 then ok (.bl true)else none
  |none=>none
 |_=>none
theorem CK(h:ns.length<=63):oO [.lst .sc (ns.map D.int)]=ok (.bl true):=by
 simp[oO,lD,h]
theorem zu{n:Nat}{b:aj}(h:∀ns:aa,ns.length<=63->oo Φ n b [.lst .sc (ns.map D.int)]=ok (.bl true)):∀ds r,oO ds=ok r->ds.length=1/\oo Φ n b ds=ok r:=by
 intro ds r e
 match ds,e with
 |[.lst .sc ds],e =>
  simp only[oO]at e;split at e
  ·rename_i ns xI;split at e
   ·rename_i hl;cases e;obtain rfl:=qF xI;exact⟨rfl,h ns hl⟩
   ·cases e
  ·cases e
theorem Hf(K:ao)(H:Hp)(a:Addr)(ns:aa)(m:aE)(hm:m [.lst .sc (ns.map D.int)]=ok (.bl true))(hO:DZ H)(hS:cH K H a (ns.map V.int)):BV K 1 m [.ref a] H (λv _=>v=.bl true) λ_ _ _=>False:=by
 refine⟨λ_=>True,_,.bl true,rfl,.cons (.lst ?_ (az.ints ns)) .nil,hm,λv H' _ bz=>by obtain⟨τt,_,rp⟩:=bz;cases rp;rfl⟩;rcases hS with (h|h)|h
 ·rcases hO a with z|⟨o,xs,z⟩
  ·rw[h]at z;cases z
  ·rw[h]at z;cases z
 ·exact .inl h
 ·exact .inr h
section
variable {X:Cx}
end
def fw(f:Str)(sc:Scope)(bl:aw)(e:Expr):Option (au):=(iN e).bind λz=>(one z.2).bind λ_=>if z.1=f/\mF sc z.1=true/\z.1∈bl then some z.2 else none
theorem gK{f:Str}{sc:Scope}{bl:aw}{e:Expr}(h:fw f sc bl e=some args):∃p pos a,e=.Call (.Name f p) [a] [] pos/\args=[a]/\mF sc f=true/\f∈bl:=by
 obtain⟨⟨x,as⟩,hv,h⟩:=bT h;obtain⟨a,hw,h⟩:=bT h;obtain⟨hc,h⟩:=gT h;cases h;obtain⟨rfl,h1,h2⟩:=hc;obtain⟨p,pos,rfl⟩:=dQ hv;obtain rfl:=cU hw;exact⟨_,_,_,rfl,rfl,h1,h2⟩
section
variable {prog:ax}{w:World}{A:ay}{E:av}{s:Shared}
def pN(h:Heap)(vs:ai)(nss:aq):Prop:=vs.length=nss.length/\∀(i:Nat) (ns:aa),nss[i]?=some ns->∃t aC,vs[i]?=some (.ref t)/\IsTup h t aC.toArray/\IntsAre aC ns/\ns≠[]
theorem qO{fin:Bool}{Q:Bool->Shared->Prop}:∀{aC CO:ai} {ns ms:aa} (i:Nat),IntsAre aC ns->IntsAre CO ms->fin=decide (aC.length<CO.length)->Q (HT.lexLt ns ms) s->PySem.W.KatLex prog w A true fin Q (aC.zip CO) i s
 |_,_,_,_,i,.nil,.nil,hf,h=>by subst hf;exact h
 |_,_,_,_,i,.nil,.cons _ _ _,hf,h=>by subst hf;exact h
 |_,_,_,_,i,.cons _ _ _,.nil,hf,h=>by subst hf;exact h
 |_,_,_,_,i,.cons (ns:=ns) a t h1,.cons (ns:=ms) b u h2,hf,h=>by
  rw[HT.cm]at h;refine aaK (Z7 (PySem.W.kat_go (λe=>?_) λe=>?_))
  ·have e:a=b:=by simpa using e
   rw[if_pos e]at h;exact aaM (qO (i+1) h1 h2 (by rw[hf];simp) h)
  ·have e:¬ a=b:=by simpa using e
   rw[if_neg e]at h;refine PySem.W.kat_no ?_;rw[Bool.true_and];cases i==0 with
   |true=>exact oneLt_int h
   |false=>exact PySem.W.kat_one _ _ (lt_int h)
theorem pN.mono{h:Heap}{vs:ai}{nss:aq}(k:∀b o,h.get? b=some o->h'.get? b=some o)(t:pN h vs nss):pN h' vs nss :=
 ⟨t.1,λi ns e=>let ⟨a,aC,e1,⟨o,ho,r⟩,e3⟩:=t.2 i ns e;⟨a,aC,e1,⟨o,k _ _ ho,r⟩,e3⟩⟩
end
noncomputable def cX(ns:aa):D:=.tup (ns.map D.int)
theorem n_{p a:Addr}{o:HO}(hp:H p=some (.lst xs))(h:aN K H a ys):aN K (upd H p o) a ys:=by
 rcases h with (h|⟨o',h⟩)|h
 ·exact .inl (.inl (by rw[aS (λz=>by subst z;rw[hp]at h;cases h)];exact h))
 ·exact .inl (.inr ⟨o',by rw[aS (λz=>by subst z;rw[hp]at h;cases h)];exact h⟩)
 ·exact .inr h
theorem uO{n i:Nat}{xs:ae}{r:Fo×aV}(ev:sF Φ n i (lB cs xs ρ)=ok r)(ha:aK bR xs=false):∃d d',ρ[i]?=some (some d)/\Φ n (d::xs)=ok d'/\r=(.nx,ρ.set i (some d')):=by
 unfold lB at ev;rw[if_neg (by rw[ha];exact Bool.false_ne_true)]at ev;unfold sF at ev;split at ev
 ·rename_i d hd;obtain⟨d',h1,h2⟩:=aB ev;cases h2;exact⟨d,d',hd,h1,rfl⟩
 ·cases ev
theorem zk{n i:Nat}{xs:ae}{r:Fo×aV}(ev:sF Φ n i (lB cs xs ρ)=ok r)(ha:aK bR xs=true):∃d d',Φ n (d::aD a_ xs)=ok d':=by
 unfold lB at ev;rw[if_pos ha]at ev;unfold sF at ev;split at ev
 ·rename_i d hd;obtain⟨d',h1,h2⟩:=aB ev;exact⟨d,d',h1⟩
 ·cases ev
def Ol:D->Option (ae)
 |.lst f ds=>if cw f then some ds else none
 |_=>none
theorem GP{d:D}(h:Ol d=some ds):d=.lst .ow ds:=by
 cases d<;>first|exact nk h | (cases h;done)|skip
 rename_i f es;have h:(if cw f then some es else none)=some ds:=h;cases f<;>first | (cases h;rfl) | (cases h;done)
def x5(m:Str)(st:Stmt):Option (Expr×au):=(NX st).bind λc=>(rY c).bind λz=>(x_ z.1).bind λy=>if y.2.1=m/\z.2.2.1.isEmpty=true/\(y.2.2.endLine==z.2.2.2.line)=true then some (y.1,z.2.1)else none
theorem pV{m:Str}{as:au}(h:x5 m st=some (o,as)):∃p1 p2 pos,st=.Expr (.Call (.Attribute o m p1) as [] p2) pos/\(p1.endLine==p2.line)=true:=by
 obtain⟨c,h1,h⟩:=bT h;obtain⟨⟨f,U3,ks,p2⟩,h2,h⟩:=bT h;obtain⟨⟨o',a,p1⟩,h3,h⟩:=bT h;obtain⟨hc,h⟩:=gT h;cases h;obtain⟨pos,rfl⟩:=rX h1;obtain rfl:=mR h2;obtain rfl:=pY h3;obtain rfl:=G5 hc.2.1;obtain rfl:=hc.1;exact⟨p1,p2,pos,rfl,hc.2.2⟩
noncomputable def wa(J:Nat)(d:D):Nat->ae->ae
 |_,[]=>[]
 |n,x::xs=>(if n=J then d else x)::wa J d (n+1) xs
theorem az.wa{T T':kJ}{N N':gL}{q:aU}{J:Nat}{d:D}(hT:∀p xs,T p xs->T' p xs)(hN:∀c m p xs f,m≠J->N (c++(m::q)) p xs f->N' (c++(m::q)) p xs f):∀{n:Nat} {vs:af} {ds:ae},az T N q n vs ds->(∀k v,vs[k]?=some v->n+k=J->Rep T' N' (J::q) v d)->az T' N' q n vs (DI.wa J d n ds)
 |_,_,_,.nil,_=>.nil
 |n,_,_,.cons (d:=x) h t,hj=>by
  refine .cons ?_ (az.wa hT hN t λk v e z=>hj (k+1) v e (by left));by_cases hn:n=J
  ·rw[if_pos hn];subst hn;exact hj 0 _ rfl rfl
  ·rw[if_neg hn];exact h.imp (q:=n::q) (q':=n::q) hT λc p xs f h=>hN c n p xs f hn h
section
variable {X:Cx}{F R:ag}{τ:Addr->Option aU}{ρ:aV}{σ:St}{H:Hp}
theorem SI.QD{p a:Addr}{q q0:aU}{n:Nd}{f:Fl}{o:HO}(Si:SI X F R τ ρ σ H)(hp:H p=some (.lst xs))(ht:τ p=some q0)(hq:q≠q0)(h:nd X.K R (λ_=>False) τ H q a n f):nd X.K R (λ_=>False) τ (upd H p o) q a n f:=by
 have low:∀{a:Addr} {z:Nd},a≠p->de H a z->de (upd H p o) a z:=λne h=>h.at λu e=>by rw[aS ne];exact e
 cases f with
 |ow=>exact⟨low (λz=>by subst z;exact hq (YB (h.2.symm.trans ht))) h.1,h.2⟩
 |fz=>exact⟨low (λz=>by subst z;rw[Si.rt _ h.2]at ht;cases ht) h.1,h.2⟩
 |al=>exact h.2.elim
 |sc =>
  obtain⟨ys,rfl,h⟩:=h.yG;exact h.elim (λ⟨o',w⟩=>.inl ⟨o',by rw[aS (λz=>by subst z;rw[hp]at w;cases w)];exact w⟩) .inr
theorem SI.U0{i j:Nat}{d1:D}{p:Addr}(Si:SI X F R τ ρ σ H)(hi:ρ[i]?=some (some d0))(hp:H p=some (.lst xs))(ht:τ p=some [j,i])
  {v:V} (hv:σ[i]?=some (some v)) (hb:Rep (aN X.K (upd H p (.lst ys))) (nd X.K R (λ_=>False) τ (upd H p (.lst ys))) [i] v d1):SI X F R τ (ρ.set i (some d1)) σ (upd H p (.lst ys)):=by
 have MF:i<ρ.length:=by
  by_cases z:i<ρ.length
  ·exact z
  ·rw[List.getElem?_eq_none (by left)]at hi;cases hi
 have there:∀a,H a≠none->upd H p (.lst ys) a≠none:=λa h=>by
  by_cases z:a=p
  ·rw[z,aW];simp
  ·rw[aS z];exact h
 refine⟨by simp[Si.len],λm d hm=>?_,Si.rt,λa ha=>there a (Si.rh a ha),Si.rf,λa q e=>there a (Si.th a q e),Si.t0,λa u e=>?_⟩
 ·by_cases z:m=i
  ·subst z;rw[List.getElem?_set_self MF]at hm;cases hm;exact⟨v,hv,hb⟩
  ·rw[List.getElem?_set_ne (Ne.symm z)]at hm;obtain⟨v,h1,h2⟩:=Si.rep m d hm;refine⟨v,h1,h2.imp (q:=[m]) (q':=[m]) (λ_ _ h=>n_ hp h) λc a n f h=>Si.QD hp ht (λe=>?_) h⟩;have:=Zw List.getLast? e;simp at this;exact z this
 ·rw[aS (λz=>by subst z;rw[Si.t0 _ _ ht]at e;cases e)];exact Si.same a u e
end
def j4(ds:ae)(j:Nat):Option (ae):=match ds[j]? with
 |some d=>match Ol d with
  |some _=>some (wa j (.lst .ow []) 0 ds)
  |none=>none
 |none=>none
theorem vH{es:ae}{j:Nat}(h:j4 ds j=some es):∃gs,ds[j]?=some (.lst .ow gs)/\es=wa j (.lst .ow []) 0 ds:=by
 unfold j4 at h;cases h1:ds[j]? with
 |none=>rw[h1]at h;exact nk h
 |some d =>
  rw[h1]at h;have h:(match Ol d with|some _=>some (wa j (.lst .ow []) 0 ds)|none=>none)=some es:=h;cases h2:Ol d with
  |none=>rw[h2]at h;exact nk h
  |some gs =>
   rw[h2]at h;cases h;exact⟨gs,by rw[GP h2],rfl⟩
def DG(xs:ae):O D:=match two xs with
 |some z=>match z.2 with
  |.int k=>if 0<=k then(match z.1 with
   |.tup ds=>(match j4 ds k.toNat with|some es=>ok (.tup es)|none=>none)
   |.lst f ds=>if cw f then(match j4 ds k.toNat with|some es=>ok (.lst f es)|none=>none)else none
   |_=>none)else none
  |_=>none
 |none=>none
theorem vI{x y d:D}(h0:DG [x,y]=ok d):∃(k:Int) (ds gs:ae),y=.int k/\0<=k/\ds[k.toNat]?=some (.lst .ow gs)/\((x=.tup ds/\d=.tup (wa k.toNat (.lst .ow []) 0 ds))\/(x=.lst .ow ds/\d=.lst .ow (wa k.toNat (.lst .ow []) 0 ds))):=by
 cases y<;>first|exact nk h0 | (cases h0;done)|skip
 rename_i k;by_cases hk:0<=k
 ·have h:(if 0<=k then(match x with
   |.tup ds=>(match j4 ds k.toNat with|some es=>ok (.tup es)|none=>none)
   |.lst f ds=>if cw f then(match j4 ds k.toNat with|some es=>ok (.lst f es)|none=>none)else none
   |_=>none)else none)=ok d:=h0
  rw[if_pos hk]at h;clear h0;cases x<;>first|exact nk h | (cases h;done)|skip
  ·rename_i ds;replace h:(match j4 ds k.toNat with|some es=>ok (D.tup es)|none=>none)=ok d:=h;cases hc:j4 ds k.toNat with
   |none=>rw[hc]at h;exact nk h
   |some es =>
    rw[hc]at h;cases h;obtain⟨gs,h1,rfl⟩:=vH hc;exact⟨k,ds,gs,rfl,hk,h1,.inl ⟨rfl,rfl⟩⟩
  ·rename_i f ds;replace h:(if cw f then(match j4 ds k.toNat with|some es=>ok (D.lst f es)|none=>none)else none)=ok d:=h;by_cases hf:cw f=true
   ·rw[if_pos hf]at h;cases hc:j4 ds k.toNat with
    |none=>rw[hc]at h;exact nk h
    |some es =>
     rw[hc]at h;cases h;obtain rfl:f=.ow:=by cases f<;>first|rfl | (cases hf;done)
     obtain⟨gs,h1,rfl⟩:=vH hc;exact⟨k,ds,gs,rfl,hk,h1,.inr ⟨rfl,rfl⟩⟩
   ·rw[if_neg hf]at h;cases h
 ·have h:(if 0<=k then(match x with
   |.tup ds=>(match j4 ds k.toNat with|some es=>ok (.tup es)|none=>none)
   |.lst f ds=>if cw f then(match j4 ds k.toNat with|some es=>ok (.lst f es)|none=>none)else none
   |_=>none)else none)=ok d:=h0
  rw[if_neg hk]at h;cases h
def tR(_:Scope)(_:aw)(st:Stmt):Option (Expr×au):=(x5 ("clear" : Str) st).bind λz=>if z.2.isEmpty=true then(pU z.1).bind λy=>some (y.1,[y.2])else none
theorem xi{sc:Scope}{bl:aw}(h:tR sc bl st=some (o,args)):∃k p0 p1 p2 pos,args=[k]/\st=.Expr (.Call (.Attribute (.Subscript o k p0) ("clear" : Str) p1) [] [] p2) pos/\(p1.endLine==p2.line)=true:=by
 obtain⟨⟨b,as⟩,h1,h⟩:=bT h;obtain⟨ha,h⟩:=gT h;obtain⟨⟨a,k⟩,h2,h⟩:=bT h;cases h;obtain rfl:=G5 ha;obtain⟨p0,rfl⟩:=gy h2;obtain⟨p1,p2,pos,rfl,hl⟩:=pV h1;exact⟨k,p0,p1,p2,pos,rfl,rfl,hl⟩
theorem Jd{n:Nat}(hΦ:Φ n=DG){sc:Scope}{bl:aw}{k:Nat}(L:PX X sc bl k)(hN:X.N.Nodup)(xK:∀x,X.fn x=true){x:Str}(he:tR sc bl st=some (.Name x pos,args))
  {i:Nat} (hi:X.N[i]?=some x) (hl:L2.Loc X.env.scope x) (pe:PE X (.Name x pos) (yr i)) (hs:mO X F Φ cs args):PS X st (mn X F Φ (.mut n i cs)):=by
 obtain⟨ke,p0,p1,p2,pos',rfl,rfl,Rt⟩:=xi he;cases cs with
 |nil=>exact hs.elim
 |cons c cs=>cases cs with
  |cons _ _=>exact hs.2.2.2.elim
  |nil =>
   refine PS.imp (oy (GL PySem.F.plainAttrs_list PySem.F.slot_list_clear PySem.F.type_list_clear zo (yZ (u_.or zH) pe hs.1 hs.2.2.1) (hline:=Rt))) λD σ H hq=>?_;obtain⟨R,τ,ρ,r,Si,ev,hq⟩:=hq;obtain⟨xs,cS,ev⟩:=aB ev;obtain⟨y,ey,cS⟩:=aB cS;cases cS;have key:∃(k:Int) (d0 d1:DI.D) (ds gs:List DI.D),y=.int k/\ρ[i]?=some (some d0)/\0<=k/\ds[k.toNat]?=some (.lst .ow gs)/\((d0=.tup ds/\d1=.tup (wa k.toNat (.lst .ow []) 0 ds))\/(d0=.lst .ow ds/\d1=.lst .ow (wa k.toNat (.lst .ow []) 0 ds)))/\r=(.nx,ρ.set i (some d1)):=by
    cases hz:aK bR [y]with
    |true =>
     obtain⟨d,d',h⟩:=zk ev hz;rw[hΦ]at h;obtain⟨k,ds,gs,h3,_⟩:=vI h;cases y<;>first|exact nk h3 | (cases h3;done) | (cases hz;done)
    |false =>
     obtain⟨d,d',h,h',rfl⟩:=uO ev hz;rw[hΦ]at h';obtain⟨k,ds,gs,rfl,h3,h4,h5⟩:=vI h';exact⟨k,d,d',ds,gs,rfl,h,h3,h4,h5,rfl⟩
   obtain⟨k,d0,d1,ds,gs,rfl,ho,hk,hg,hd,rfl⟩:=key;obtain⟨v,hv,_⟩:=Si.rep i _ ho;refine⟨v,hv,tD.intro Si ey λu H1 e1 ru=>?_⟩;cases ru.isInt;have mh:=Si.go e1;obtain⟨v',Mi,rv⟩:=mh.rep i _ ho;rw[hv]at Mi;cases Mi;have at_:∀{xs:af},az (aN X.K H1) (nd X.K R (λ_=>False) τ H1) [i] 0 xs ds->∃(p:Addr) (zs:af),xs[k.toNat]?=some (.ref p)/\H1 p=some (.lst zs)/\τ p=some [k.toNat,i]/\Fe xs k=some (.ref p):=by
    intro xs rs;obtain⟨w,hw,iT⟩:=rs.get hg;rw[Nat.zero_add]at iT;cases iT with
    | @lst _ p zs _ _ h _ =>
     refine⟨p,zs,hw,h.1,h.2,?_⟩;have fL:k.toNat<xs.length:=by
      by_cases z:k.toNat<xs.length
      ·exact z
      ·rw[List.getElem?_eq_none (by left)]at hw;cases hw
     unfold Fe L2.nq;rw[if_pos hk,if_pos (by left)];exact hw
   have go:∀{xs:af} {p:Addr} {zs:af},az (aN X.K H1) (nd X.K R (λ_=>False) τ H1) [i] 0 xs ds->xs[k.toNat]?=some (.ref p)->H1 p=some (.lst zs)->τ p=some [k.toNat,i]->az (aN X.K (upd H1 p (.lst []))) (nd X.K R (λ_=>False) τ (upd H1 p (.lst []))) [i] 0 xs (wa k.toNat (.lst .ow []) 0 ds):=by
    intro xs p zs rs hx hp ht;refine az.wa (λ_ _ h=>n_ hp h) (λc m a n f hm h=>mh.QD hp ht (λz=>?_) h) rs λm w hw hm=>?_
    ·have:=Zw List.reverse z;simp at this;exact hm this.1
    ·rw[Nat.zero_add]at hm;subst hm;rw[hx]at hw;cases hw;exact .lst ⟨aW,ht⟩ .nil
   rcases hd with ⟨rfl,rfl⟩|⟨rfl,rfl⟩
   ·cases rv with
    | @tup _ a xs _ hn rs =>
     obtain⟨p,zs,h1,h2,h3,h4⟩:=at_ rs;refine .inr ⟨a,xs,k,_,rfl,rfl,hn,h4,.inl ⟨rfl,_,cH.of h2⟩,p,zs,rfl,rfl,h2,?_⟩;exact hq σ _ R τ (mh.U0 ho h2 h3 hv (.tup (n_ h2 hn) (go rs h1 h2 h3))) (ly (n:=.l _) mh e1 (λ_ h=>h) h2 h3)
   ·obtain⟨a,xs,rfl,hn,rs⟩:=rv.rW;obtain⟨p,zs,h1,h2,h3,h4⟩:=at_ rs;refine .inl ⟨a,xs,k,_,rfl,rfl,hn.sq,h4,.inl ⟨rfl,_,cH.of h2⟩,p,zs,rfl,rfl,h2,?_⟩;refine hq σ _ R τ (mh.U0 ho h2 h3 hv (.lst (mh.QD h2 h3 (λz=>?_) hn) (go rs h1 h2 h3))) (ly (n:=.l _) mh e1 (λ_ h=>h) h2 h3);have:=Zw List.length z;simp at this
section
variable {α β:Type}
noncomputable def bS:aq->List α->aa->Option α
 |c'::cs,v::vs,c=>if c'=c then some v else bS cs vs c
 |_,_,_=>none
noncomputable def setC:aq->List α->aa->α->List α
 |c'::cs,v'::vs,c,v=>(if c'=c then v else v')::setC cs vs c v
 |_,_,_,_=>[]
noncomputable def bc(cs:aq)(c:aa):aq:=if c∈cs then cs else cs++[c]
noncomputable def rO(cs:aq)(as:List α)(c:aa)(a:α):List α:=if c∈cs then as else as++[a]
def bW(cs:aq)(vs:List α)(c:aa)(v:α):List α:=if c∈cs then setC cs vs c v else vs++[v]
end
section
variable {zs:List (aa×Addr×Value)}{c:aa}
theorem jB:∀(zs:List (aa×Addr×Value)) (c:aa),(atKey zs c).map (·.2)=bS (zs.map (·.1)) (zs.map (·.2.2)) c
 |[],_=>rfl
 |z::zs,c=>by
  have ih:=jB zs c;unfold atKey at ih ⊢;rw[List.find?_cons];show _=if z.1=c then some z.2.2 else bS (zs.map (·.1)) (zs.map (·.2.2)) c
  by_cases e:z.1=c
  ·rw[decide_eq_true e,if_pos e];rfl
  ·rw[decide_eq_false e,if_neg e];exact ih
theorem da:∀(zs:List (aa×Addr×Value)) (c:aa),(atKey zs c).isSome=true ↔ c∈zs.map (·.1)
 |[],c=>by simp[atKey]
 |z::zs,c=>by
  have ih:=da zs c;unfold atKey at ih ⊢;rw[List.find?_cons,List.map_cons,List.mem_cons];by_cases e:z.1=c
  ·rw[decide_eq_true e];simp[e]
  ·rw[decide_eq_false e];rw[ih];exact⟨.inr,λh=>h.resolve_left λz=>e z.symm⟩
theorem jJ(a:Addr)(v:Value):(storedH zs c a v).map (·.1)=bc (zs.map (·.1)) c:=by
 unfold storedH bc;by_cases h:c∈zs.map (·.1)
 ·rw[if_pos ((da zs c).mpr h),if_pos h,List.map_map];refine Yy λz _=>?_;show(putAt c v z).1=z.1;unfold putAt;split<;>rfl
 ·rw[if_neg (λz=>h ((da zs c).mp z)),if_neg h,List.map_append];rfl
theorem qg(a:Addr)(v:Value):(storedH zs c a v).map (·.2.1)=rO (zs.map (·.1)) (zs.map (·.2.1)) c a:=by
 unfold storedH rO;by_cases h:c∈zs.map (·.1)
 ·rw[if_pos ((da zs c).mpr h),if_pos h,List.map_map];refine Yy λz _=>?_;show(putAt c v z).2.1=z.2.1;unfold putAt;split<;>rfl
 ·rw[if_neg (λz=>h ((da zs c).mp z)),if_neg h,List.map_append];rfl
theorem qA(v:Value):∀zs:List (aa×Addr×Value),(zs.map (putAt c v)).map (·.2.2)=setC (zs.map (·.1)) (zs.map (·.2.2)) c v
 |[]=>rfl
 |z::zs=>by
  show(putAt c v z).2.2::((zs.map (putAt c v)).map (·.2.2))=(if z.1=c then v else z.2.2)::setC (zs.map (·.1)) (zs.map (·.2.2)) c v;rw[qA v zs];unfold putAt;by_cases e:z.1=c
  ·rw[if_pos e,if_pos e]
  ·rw[if_neg e,if_neg e]
theorem qf(a:Addr)(v:Value):(storedH zs c a v).map (·.2.2)=bW (zs.map (·.1)) (zs.map (·.2.2)) c v:=by
 unfold storedH bW;by_cases h:c∈zs.map (·.1)
 ·rw[if_pos ((da zs c).mpr h),if_pos h];exact qA v zs
 ·rw[if_neg (λz=>h ((da zs c).mp z)),if_neg h,List.map_append];rfl
end
theorem pT{c:aa}{v:V}{u:Value}(r:RelV v u):∀{cs:aq} {xs:af} {us:ai},Vals xs us->Vals (setC cs xs c v) (setC cs us c u)
 |[],_,_,h=>by cases h<;>exact .nil
 |c'::cs,_,_,h=>by
  cases h with
  |nil=>exact .nil
  |cons h t =>
   refine .cons ?_ (pT r t);show RelV (if c'=c then v else _) (if c'=c then u else _);by_cases e:c'=c
   ·rw[if_pos e,if_pos e];exact r
   ·rw[if_neg e,if_neg e];exact h
theorem mQ{v:V}{u:Value}(r:RelV v u):∀{xs:af} {us:ai},Vals xs us->Vals (xs++[v]) (us++[u])
 |_,_,.nil=>.cons r .nil
 |_,_,.cons h t=>.cons h (mQ r t)
theorem xZ{cs:aq}{us:ai}(h:Vals xs us){c:aa}{v:V}{u:Value}(r:RelV v u):Vals (bW cs xs c v) (bW cs us c u):=by
 unfold bW;by_cases e:c∈cs
 ·rw[if_pos e,if_pos e];exact pT r h
 ·rw[if_neg e,if_neg e];exact mQ r h
theorem kR:∀{cs:aq} {xs:af} {us:ai} (_:Vals xs us) (c:aa),l_ (bS cs xs c) (bS cs us c)
 |[],_,_,_,_=>by cases ‹Vals _ _› <;> exact True.intro
 |c'::cs,_,_,h,c=>by
  cases h with
  |nil=>exact True.intro
  |cons h t =>
   show l_ (if c'=c then some _ else _) (if c'=c then some _ else _);by_cases e:c'=c
   ·rw[if_pos e,if_pos e];exact h
   ·rw[if_neg e,if_neg e];exact kR t c
section
variable {X:Cx}{pins:ak}{σ:St}{H:Hp}{s:Shared}{p b:Addr}{cs:aq}{as:aM}{xs:af}{ep:Nat}{c:aa}{A:ay}{E:av}
theorem items_int:∀{c:aa} {aC:ai},Vals (c.map V.int) aC->ItemsAre (intKind X.prog X.w) c aC
 |[],_,h=>by cases h;exact .nil
 |i::c,_,h=>by
  cases h with
  |cons h t =>
   obtain⟨t',rfl⟩:=h;exact .cons (by simp[intKind,Value.isInt]) (items_int t)
theorem lA(I:Inv X pins σ H s)(h:aN X.K H b (c.map V.int)):(tupleKind (intKind X.prog X.w)).is s.heap c b:=by
 obtain⟨aC,rv,⟨o,h1,h2,n,h3⟩,_⟩:=I.tuple h;exact⟨o,aC.toArray,n,h1,h2,h3,by simpa using items_int rv⟩
theorem o7(I:Inv X pins σ H s)(h:H p=some (.ext (DO p cs as xs ep)))(k:dq (aN X.K H) as cs):
  ∃(zs:List (aa×Addr×Value)) (o:Obj) (es:Array DictEntry),zs.map (·.1)=cs/\zs.map (·.2.1)=as/\Vals xs (zs.map (·.2.2))/\s.heap.get? p=some o/\o.ExactDict/\o.data=.dict es ep /\
   s.heap.DictOfH (tupleKind (intKind X.prog X.w)) p zs/\es.toList=zs.map (entryOfKey (tupleKind (intKind X.prog X.w)))/\cs.length<=sizeLine/\(p==sysModules)=false:=by
 obtain⟨⟨zs,o,es,e1,e2,e3,ho,hx,hd,he,hn,hl,hs⟩,_⟩:=(show cv X.prog X.w H s.heap p (.ext (DO p cs as xs ep)) from I.cD p _ h)
 refine⟨zs,o,es,e1,e2,e3,ho,hx,hd,⟨o,es,ep,ho,hx,hd,he,λz hz=>?_,by rw[e1];exact hn⟩,he,hl,hs⟩;obtain⟨j,hj⟩:=List.mem_iff_getElem?.mp hz;exact lA I (k.tup j z.2.1 z.1 (by rw[<- e2,List.getElem?_map,hj];rfl) (by rw[<- e1,List.getElem?_map,hj];rfl))
theorem dict_cls(I:Inv X pins σ H s)(h:H p=some (.ext (DO p cs as xs ep))):s.TypeIs (.ref p) "dict" /\ ∀b,Value.ref p=.ref b->∃ob,s.heap.get? b=some ob/\ob.dict=none:=by
 obtain⟨⟨zs,o,es,e1,e2,e3,ho,hx,_⟩,_⟩:=(show cv X.prog X.w H s.heap p (.ext (DO p cs as xs ep)) from I.cD p _ h)
 exact⟨⟨o,ho,hx.1⟩,λb q=>by cases q;exact⟨o,ho,hx.2.1⟩⟩
theorem DB{d:V}{r:Value}{Q:av}(hu:A.units+1<cLine)(I:Inv X pins σ H s)(h:H p=some (.ext (DO p cs as xs ep)))(k:dq (aN X.K H) as cs)(hb:aN X.K H b (c.map V.int))(rd:RelV d r)(hQ:∀w' s',Inv X pins σ H s'->RelV ((bS cs xs c).getD d) w'->Q w' s'):
  wpAny (model X.prog X.w) A (call (.builtin "dict.get") [.ref p,.ref b,r]) Q E s:=by
 obtain⟨zs,o,es,e1,e2,e3,ho,hx,hd,dd,_,hl,hs⟩:=o7 I h k;refine call_meetsIn PySem.F.slot_dict_get dd.typeIs PySem.F.entry_dict_get (PySem.F.args_dict_get_3 _ _ _) (meetsH_dict_get_default (tupleKind (intKind X.prog X.w)) p b hs r) ⟨aay hu,c,zs,lA I hb,dd,hQ _ _ (I.tok _) ?_⟩;rw[jB,e1];have hg:=kR (cs:=cs) e3 c;cases q:bS cs xs c with
 |none =>
  rw[q]at hg;rw[l_.none_of hg];exact rd
 |some v =>
  rw[q]at hg;obtain⟨u,sS,ru⟩:=l_.some_of hg;rw[sS];exact ru
theorem tH{v:V}{r:Value}{Q:Unit->Shared->Prop}(hu:A.units+1<cLine)(I:Inv X pins σ H s)(h:H p=some (.ext (DO p cs as xs ep)))(k:dq (aN X.K H) as cs)(hb:aN X.K H b (c.map V.int))(rv:RelV v r)(fL:cs.length<sizeLine)
  (hQ:∀vx s',Inv X pins σ (upd H p (.ext (DO p (bc cs c) (rO cs as c b) (bW cs xs c v) vx))) s'->Q () s') :
  wpAny (model X.prog X.w) A (setItem (.ref p) (.ref b) r) Q E s:=by
 obtain⟨zs,o,es,e1,e2,e3,ho,hx,hd,dd,_,hl,hs⟩:=o7 I h k;have hz:zs.length<=sizeLine:=by rw[<- e1,List.length_map]at hl;exact hl
 refine wpAny_setItem_heap (hsz:=hz) (aay hu) (lA I hb) dd λh' Xv zX=>?_;obtain⟨q,w9,vx,hq,h2,h3,h4,_,h5⟩:=Xv;refine hQ vx _ (I.write (x:=p) (e:=p) (by rw[h];exact True.intro) (.inl rfl) (λb q hb z=>(zX.2 b hb).trans z) ⟨q,hq⟩ ⟨⟨storedH zs c b r,q,w9,?_,?_,?_,hq,h2,h3,h4,?_,?_,hs⟩,⟨q,hq⟩,?_⟩)
 ·rw[jJ,e1]
 ·rw[qg,e1,e2]
 ·rw[qf,e1];exact xZ e3 rv
 ·rw[<- e1,<- jJ (zs:=zs) (c:=c) b r];exact h5
 ·unfold bc;split
  ·exact hl
  ·rw[List.length_append,List.length_singleton];left
 ·rintro h1 W2 ⟨NV,o',es'',f1,f2,f3,f4,f5⟩ kk;exact⟨NV,o',es'',f1,f2,f3,kk _ f4,f5⟩
theorem Cj:PE X (.Dict [] [] pos) (λ_ H Q=>∀p,H p=none->Q (.ref p) (upd H p (.ext (DO p [] [] [] 0)))):=λpins s σ H Q I h=>by
 have RB:sysModules<s.heap.objs.size:=Nat.lt_trans (by decide) (show mainGlobals<s.heap.objs.size from(I.mod.glob.keeps I.bk).lt);refine wpAny_Dict_empty ⟨.ref s.heap.objs.size,_,I.laid (a:=s.heap.objs.size) (o:=.ext (DO s.heap.objs.size [] [] [] 0)) (t':=s.toks) (λ_ _ q=>Ym _ q) (Ys _) ?_,rfl,h _ (I.cD.fresh (Ys _))⟩;have hg:(s.heap.push { cls:=.type "dict",data:=.dict #[] }).get? s.heap.objs.size=some { cls:=.type "dict",data:=.dict #[] }:=Yt _ rfl;refine⟨⟨[],_,#[],rfl,rfl,.nil,hg,⟨rfl,rfl,rfl⟩,rfl,rfl,YS,YQ _,beq_eq_false_iff_ne.mpr (aat (Yv RB))⟩,⟨_,hg⟩,?_⟩;rintro h1 W2 ⟨NV,o',es'',f1,f2,f3,f4,f5⟩ kk;exact⟨NV,o',es'',f1,f2,f3,kk _ f4,f5⟩
end
section
variable {X:Cx}{pins:ak}{σ:St}{H:Hp}{s:Shared}{h':Heap}
theorem t4(I:Inv X pins σ H s)(hf:∀b∈ch,me X pins H b)(k:∀b u,b∉ch->s.heap.get? b=some u->h'.get? b=some u):Inv X pins σ H { s with heap:=h',toks:=t' }:=by
 have Ey:∀b u,H b=some u->b∉ch:=λb u e z=>by rw[(hf b z).1]at e;cases e
 refine I.step (g':=s.gens) (d':=s.drawn) (ch:=ch) (λb hb=>⟨(hf b hb).2.2.2.1,(hf b hb).2.1,(hf b hb).2.2.2.2.1,(hf b hb).2.2.2.2.2⟩) (λb o _ _ hc e _=>k b o hc e) (λb o _ _ hc e _=>⟨o.slots,k b o hc e⟩) (λ_ _ _ _ n=>n)
  (λb o hc e=>⟨o,k b o hc e⟩) (λ_ _ e=>e) (λ_ _ _ e=>e) (λb ps e=>⟨#[],by rw[e];simp⟩) (λm hm=>?_) (λb u e=>?_) I.bare
 ·obtain⟨o,es,ep,ho,r⟩:=hm;exact⟨o,es,ep,k _ o (λz=>(hf _ z).2.1 rfl) ho,r⟩
 ·refine(I.cD b u e).mq (λc v hc q=>k c v ?_ q) (λ_ q=>q) λ_ _ q=>q;rcases hc with z|z
  ·rw[z];exact Ey b u e
  ·exact Ey c _ z
theorem t5{T:Addr}{o:HO}(I:Inv X pins σ H s)(hf:∀b∈ch,me X pins H b)(k:∀b u,b∉ch->s.heap.get? b=some u->h'.get? b=some u)(hT:s.heap.objs.size<=T)(new:cv X.prog X.w (upd H T o) h' T o):
  Inv X pins σ (upd H T o) { s with heap:=h',toks:=t' }:=by
 have Ey:∀b u,H b=some u->b∉ch:=λb u e z=>by rw[(hf b z).1]at e;cases e
 have hn:H T=none:=I.cD.fresh hT;have ne:∀b (u:Obj),s.heap.get? b=some u->b≠T:=λb u e z=>absurd (Yr e) (by rw[z];exact Nat.not_lt.mpr hT);have up:∀b u,H b=some u->upd H T o b=some u:=λb u e=>by rw[aS (bU e hn)];exact e
 refine I.step (g':=s.gens) (d':=s.drawn) (ch:=ch) (λb hb=>⟨(hf b hb).2.2.2.1,(hf b hb).2.1,(hf b hb).2.2.2.2.1,(hf b hb).2.2.2.2.2⟩) (λb o _ _ hc e _=>k b o hc e) (λb o _ _ hc e _=>⟨o.slots,k b o hc e⟩) (λb u _ e n=>by rw[aS (ne b u e)];exact n)
  (λb o hc e=>⟨o,k b o hc e⟩) (λ_ _ e=>up _ _ e) (λ_ _ _ e=>up _ _ e) (λb ps e=>⟨#[],by rw[up _ _ e];simp⟩) (λm hm=>?_) (vh (λb u e=>?_) hn new) I.bare
 ·obtain⟨o,es,ep,ho,r⟩:=hm;exact⟨o,es,ep,k _ o (λz=>(hf _ z).2.1 rfl) ho,r⟩
 ·refine(I.cD b u e).mq (λc v hc q=>k c v ?_ q) (λ_ q=>q) λ_ _ q=>q;rcases hc with z|z
  ·rw[z];exact Ey b u e
  ·exact Ey c _ z
end
def SO(K:ao)(a b:Addr):It :=
  ⟨λi H=>∃xs ys x y,cH K H a xs/\cH K H b ys/\xs[i]?=some x/\ys[i]?=some y,
   λi H v H'=>∃T x y,(∀xs,cH K H a xs->xs[i]?=some x)/\(∀ys,cH K H b ys->ys[i]?=some y)/\H T=none/\v=.ref T/\H'=upd H T (.tup [x,y]),
   λi H=>∃xs ys,cH K H a xs/\cH K H b ys/\(xs.length<=i\/ys.length<=i)⟩
theorem t6{h:Heap}{T:Addr}{x y:V}{u v:Value}(rx:RelV x u)(ry:RelV y v)(e:h.get? T=some { cls:=.type "tuple",data:=.seq #[u,v] }):cv P w H h T (.tup [x,y]) :=
 ⟨by rw[sizeLine_eq];simp,[u,v],.cons rx (.cons ry .nil),⟨_,e,rfl,_,rfl⟩⟩
theorem cF{h:Heap}{a b:Addr}{o u:Obj}(ha:h.get? a=some o)(hb:h.get? b=some u)(hc:o.cls≠u.cls):a≠b:=λz=>by
 subst z;rw[ha]at hb;cases hb;exact hc rfl
theorem yg{tp:Pos}{a b z TI TO i1 i2:Addr}(WO:TI≠TO)(W3:i1≠i2):
  Turn P w K (.Tuple elts n1 tp) (SO K a b) [z,TI,TO,i1,i2] z (λi h=>IsZip h z TI TO .none/\IsPair h TI (.ref i1) (.ref i2)/\(∃x y,IsPair h TO x y)/\h.IsListIter i1 a i/\h.IsListIter i2 b i):=by
 have apart:∀{h:Heap} {x y:Value} {xs ys:aQ} {i:Nat},IsZip h z TI TO .none->IsPair h TI (.ref i1) (.ref i2)->IsPair h TO x y->h.IsListIter i1 a i->h.IsListIter i2 b i->h.IsList a xs->h.IsList b ys->ZipApart z TI TO i1 i2 a b:=by
  intro h x y xs ys i hz hI hO l1 l2 ha hb;obtain⟨o1,e1,c1,_⟩:=l1;obtain⟨o2,e2,c2,_⟩:=l2;obtain⟨oa,ea,ca,_⟩:=ha;obtain⟨ob,eb,cb,_⟩:=hb;exact⟨cF hI hz (by simp),cF hO hz (by simp),cF e1 hz (by rw[c1];simp),cF e2 hz (by rw[c2];simp),WO,cF hI e1 (by rw[c1];simp),cF hI e2 (by rw[c2];simp),cF hO e1 (by rw[c1];simp),cF hO e2 (by rw[c2];simp),W3,
   cF ea hz (by rw[ca];simp),cF ea hO (by rw[ca];simp),cF ea e1 (by rw[ca,c1];simp),cF ea e2 (by rw[ca,c2];simp),cF eb hz (by rw[cb];simp),cF eb hO (by rw[cb];simp),cF eb e1 (by rw[cb,c1];simp),cF eb e2 (by rw[cb,c2];simp)⟩
 refine⟨by simp,λi h st c hc=>?_,λi h h' st k=>?_,?_,?_,λA i s Q E st hQ=>wpAny_pyIter_zip st.1 hQ⟩
 ·obtain⟨hz,hI,⟨x,y,hO⟩,⟨o1,e1,_,d1⟩,⟨o2,e2,_,d2⟩⟩:=st;simp only[List.mem_cons,List.not_mem_nil,or_false]at hc;rcases hc with rfl|rfl|rfl|rfl|rfl
  ·exact⟨_,hz,λv q=>by cases q⟩
  ·exact⟨_,hI,λv q=>by cases q⟩
  ·exact⟨_,hO,λv q=>by cases q⟩
  ·exact⟨o1,e1,λv q=>by rw[d1]at q;cases q⟩
  ·exact⟨o2,e2,λv q=>by rw[d2]at q;cases q⟩
 ·obtain⟨hz,hI,⟨x,y,hO⟩,l1,l2⟩:=st;exact⟨k z (by simp) _ hz,k TI (by simp) _ hI,⟨x,y,k TO (by simp) _ hO⟩,l1.at λo e=>k i1 (by simp) o e,l2.at λo e=>k i2 (by simp) o e⟩
 ·intro X hP hw hK hc i pins s σ H E I hf st hg;subst hP hw hK;obtain⟨xs,ys,x,y,q1,q2,ex,ey⟩:=hg;obtain⟨hz,hI,⟨x0,y0,hO⟩,l1,l2⟩:=st;obtain⟨aC,rv,p,_⟩:=I.list q1;obtain⟨its',xC,p',_⟩:=I.list q2;obtain⟨u,hu,ru⟩:=rv.get ex;obtain⟨u',sS,Vy⟩:=xC.get ey;have D:=apart hz hI hO l1 l2 p.isList p'.isList;refine wpAny_pyNext_zip_item D hz hI hO l1 l2 p.isList p'.isList (x:=u) (y:=u') (by simpa using hu) (by simpa using sS) λh1 z1 o1 a1 b1 t1 Vq k1=>⟨_,rfl,?_⟩
  refine wpAny_letOwnedTupleGo_zip z1 λh2 z2 Be=>?_;have U8:s.heap.objs.size≠z:=Y3 (Yr hz);have kk:∀c o,c∉[z,TI,TO,i1,i2]->s.heap.get? c=some o->h2.get? c=some o:=λc o hc e=>by
   simp only[List.mem_cons,List.not_mem_nil,or_false,not_or]at hc;exact Be.extBut c o hc.1 (k1 c o hc.1 hc.2.2.1 hc.2.2.2.1 hc.2.2.2.2 e)
  have hT:h2.get? s.heap.objs.size=some { cls:=.type "tuple",data:=.seq #[u,u'] }:=Be.extBut _ _ U8 t1;have hn:H s.heap.objs.size=none:=I.cD.fresh (Ys _);refine⟨.ref s.heap.objs.size,upd H s.heap.objs.size (.tup [x,y]),t5 (s:=s) (h':=h2) (t':=s.toks) I hf kk (Ys _) (t6 ru Vy hT),rfl,⟨_,x,y,λzs hz=>by rw[I.fZ hz q1];exact ex,λzs hz=>by rw[I.fZ hz q2];exact ey,hn,rfl,rfl⟩,⟨z2,Be.extBut _ _ D.TIz (k1 _ _ D.TIz D.TITO D.TIi1 D.TIi2 hI),⟨_,_,Be.extBut _ _ D.TOz o1⟩,a1.extBut Be.extBut D.i1z,b1.extBut Be.extBut D.i2z⟩,λc hc=>?_⟩;rw[aS]
  ·exact(hf c hc).1
  ·intro z;subst z;simp only[List.mem_cons,List.not_mem_nil,or_false]at hc;rcases hc with e|e|e|e|e
   ·exact absurd (Yr hz) (by rw[<- e];exact YG _)
   ·exact absurd (Yr hI) (by rw[<- e];exact YG _)
   ·exact absurd (Yr hO) (by rw[<- e];exact YG _)
   ·obtain⟨_,w,_⟩:=l1;exact absurd (Yr w) (by rw[<- e];exact YG _)
   ·obtain⟨_,w,_⟩:=l2;exact absurd (Yr w) (by rw[<- e];exact YG _)
 ·intro X hP hw hK hc i pins s σ H E I hf st hg;subst hP hw hK;obtain⟨xs,ys,q1,q2,hl⟩:=hg;obtain⟨hz,hI,⟨x0,y0,hO⟩,l1,l2⟩:=st;obtain⟨aC,rv,p,_⟩:=I.list q1;obtain⟨its',xC,p',_⟩:=I.list q2;have e1:=rv.length;have e2:=xC.length;refine wpAny_pyNext_zip_end (I.ok.hd hc) (apart hz hI hO l1 l2 p.isList p'.isList) hz hI hO l1 l2 p.isList p'.isList (by simp;left) λh1 k1=>⟨rfl,t4 (t':=s.toks) I hf λc o hc e=>?_⟩
  simp only[List.mem_cons,List.not_mem_nil,or_false,not_or]at hc;exact k1 c o hc.1 hc.2.2.1 hc.2.2.2.1 hc.2.2.2.2 e
variable {ta:TA}
theorem GA{e1 e2:Expr}{tp p:Pos}(hg:Gl X "zip")(hm:X.mg "zip" = none)(ha:PA X [e1,e2] ta)(hs:∀es,starEach (e1::es) X.env=(false,eval e1 X.env)::starEach es X.env)(OH:∀es,starEach (e2::es) X.env=(false,eval e2 X.env)::starEach es X.env):
  PI X (.Tuple elts n1 tp) (.Call (.Name "zip" p) [e1,e2] [] pos) (λσ H R=>ta σ H λvs H1=>∃a b,vs=[.ref a,.ref b]/\(∃xs,cH X.K H1 a xs)/\(∃ys,cH X.K H1 b ys)/\R (SO X.K a b) H1):=by
 intro pins s σ H R I h;refine Call_ (cZ I hg hm boot_zip (YK (cA (ha pos pins s σ H _ I h) λus s1 bz=>?_) (hs _) (by rw[OH];rfl)));obtain⟨vs,H1,I1,r1,q1⟩:=bz;obtain⟨a,b,e,⟨xs,q1⟩,⟨ys,q2⟩,q⟩:=q1;subst e;obtain⟨u,v,rfl,ru,rv⟩:=vals2 r1;cases ru;cases rv;obtain⟨aC,_,p1,_⟩:=I1.list q1;obtain⟨its',_,p2,_⟩:=I1.list q2;refine call_zip_2 p1.isList p2.isList λh' z t o l1 l2 sz k=>wpAny_pyIter_zip z ?_;refine⟨s1.heap.objs.size+4,[s1.heap.objs.size+4,s1.heap.objs.size+2,s1.heap.objs.size+3,s1.heap.objs.size,s1.heap.objs.size+1],_,_,H1,rfl,I1.kept (t':=s1.toks) k,yg (Yv (YJ _)) (Yv (YJ _)),⟨z,t,⟨_,_,o⟩,l1,l2⟩,λb hb=>?_,q⟩;have sX:s1.heap.objs.size<=b:=by
  simp only[List.mem_cons,List.not_mem_nil,or_false]at hb;rcases hb with rfl|rfl|rfl|rfl|rfl<;>first|exact aaL .. |exact Ys _
 exact I1.Aq sX (I1.cD.fresh sX)
def tM(sc:Scope)(bl:aw)(e:Expr):Option (au):=(iN e).bind λz=>(two z.2).bind λ_=>if z.1=("zip" : Str)/\mF sc z.1=true/\z.1∈bl then some z.2 else none
theorem xf{sc:Scope}{bl:aw}{e:Expr}(h:tM sc bl e=some args):∃p pos a b,e=.Call (.Name ("zip" : Str) p) [a,b] [] pos/\args=[a,b]/\mF sc ("zip" : Str)=true/\("zip" : Str)∈bl:=by
 obtain⟨⟨x,as⟩,hv,h⟩:=bT h;obtain⟨⟨a,b⟩,hw,h⟩:=bT h;obtain⟨hc,h⟩:=gT h;cases h;obtain⟨rfl,h1,h2⟩:=hc;obtain⟨p,pos,rfl⟩:=dQ hv;obtain rfl:=hJ hw;exact⟨p,pos,a,b,rfl,rfl,h1,h2⟩
theorem oB{a b:Expr}(h:mO X F Φ cs [a,b]):(∃c d,cs=[c,d]/\PE X a (tD X F Φ c)/\PE X b (tD X F Φ d))/\PA X [a,b] (qb X F Φ cs)/\(∀es,starEach (a::es) X.env=(false,eval a X.env)::starEach es X.env)/\(∀es,starEach (b::es) X.env=(false,eval b X.env)::starEach es X.env):=by
 match cs,h with
 |[c,d],h =>
  obtain⟨h1,h2,_,h3,h4,_,_⟩:=h;exact⟨⟨c,d,rfl,h1,h3⟩,PA.imp (dC h1 (PA.imp (dC h3 (PA.imp ib λ_ _ _ h=>iP h) (h4 _)) λ_ _ _ h=>eP h) (h2 _)) λ_ _ _ h=>eP h,h2,h4⟩
 |[],h=>exact h.elim
 |[_],h=>exact h.2.2.2.elim
 |_::_::_::_,h=>exact h.2.2.2.2.2.2.elim
theorem Rep.Pt{k:aU}{v:V}{d:D}(e:aG H H')(h:Rep (aN K H) (nd K R (λ_=>False) (λ_=>none) H) k v d):Rep (aN K H') (nd K R (λ_=>False) (λ_=>none) H') k' v d :=
 (Rep.oN h (k':=k')).imp (λ_ _ h=>aN.same e h) λ_ _ _ _ h=>nd.same e h
theorem Bt{p q:Addr}{f g:Fl}{a b:ae}:Jm K (SO K p q) H2 [.ref p,.ref q] [.lst f a,.lst g b] (aD a_ (List.zipWith (λx y=>.tup [x,y]) a b)):=by
 have len:(aD a_ (List.zipWith (λx y=>D.tup [x,y]) a b)).length=min a.length b.length:=by rw[bg];simp
 have two:∀{H':Hp} {R':ag},az (aN K H') (nd K R' (λ_=>False) (λ_=>none) H') [] 0 [.ref p,.ref q] (aD a_ [.lst f a,.lst g b]) ->
   ∃xs ys,cH K H' p xs/\cH K H' q ys/\az (aN K H') (nd K R' (λ_=>False) (λ_=>none) H') [0] 0 xs (aD a_ a)/\az (aN K H') (nd K R' (λ_=>False) (λ_=>none) H') [1] 0 ys (aD a_ b):=by
  intro H' R' h;rw[aD,aZ,aD,aZ,aD]at h;cases h with
  |cons h t=>cases t with
   |cons h' t=>cases h with
    |lst h r=>cases h' with
     |lst h' r'=>exact⟨_,_,h.sq,h'.sq,r,r'⟩
 refine⟨λi H' R' _ h hi=>?_,λi H' R' x j5 _ h hi hy=>?_,λi H' R' _ h hi=>?_⟩
 ·obtain⟨xs,ys,h1,h2,r1,r2⟩:=two h;rw[len]at hi;have l1:=r1.length;have l2:=r2.length;rw[bg,List.length_map]at l1 l2;exact⟨xs,ys,xs[i]'(by left),ys[i]'(by left),h1,h2,Yw _,Yw _⟩
 ·obtain⟨xs,ys,h1,h2,r1,r2⟩:=two h;obtain⟨T,u,v,g1,g2,hn,rfl,rfl⟩:=hy;obtain⟨d1,e1,p1⟩:=r1.s_ (g1 xs h1);obtain⟨d2,e2,p2⟩:=r2.s_ (g2 ys h2);have es:aG H' (upd H' T (.tup [u,v])):=aG.upd hn;refine⟨es,.tup [d1,d2],?_,.tup (aN.of aW) (.cons (p1.Pt es) (.cons (p2.Pt es) .nil))⟩;rw[bg,List.getElem?_map]at e1 e2 ⊢;obtain⟨c1,q1,rfl⟩:=Option.map_eq_some_iff.mp e1;obtain⟨c2,q2,rfl⟩:=Option.map_eq_some_iff.mp e2;rw[List.getElem?_zipWith,q1,q2];simp[aZ,aD]
 ·obtain⟨xs,ys,h1,h2,r1,r2⟩:=two h;rw[len]at hi;have l1:=r1.length;have l2:=r2.length;rw[bg,List.length_map]at l1 l2;exact⟨xs,ys,h1,h2,by left⟩
theorem Fm{n:Nat}(hΦ:Φ n=Bs){sc:Scope}{bl:aw}{k:Nat}(L:PX X sc bl k){e:Expr}(he:tM sc bl e=some args)(ht:fj tg=true)(hs:mO X F Φ cs args)
  {pins:ak} {s:Shared} {xs:ae} {d:D} (I:Inv X pins σ H s) (Si:SI X F R τ ρ σ H) (cS:cc Φ cs ρ=ok xs) (ed:Φ n xs=ok d) (ei:my d=ok items) (Rr:It->Hp->Prop)
  (hR:∀J H2 vs,aG H H2->b0 X.K (gP X F) R τ (cL cs) H H2 vs xs->Jm X.K J H2 vs xs items->Rr J H2) :
  wpAny (model X.prog X.w) X.A (eval e X.env) (λv s1=>wpAny (model X.prog X.w) X.A (pyIter v) (A_ X pins σ tg Rr) X.xe s1) X.xe s:=by
 obtain⟨p,pos,a,b,rfl,rfl,h1,h2⟩:=xf he;cases tg<;>try (cases ht;done)
 obtain⟨_,pa,s1,s2⟩:=oB hs;refine GA (L.gl h1) (L.bl _ h2) pa s1 s2 pins s σ H Rr I ⟨R,τ,ρ,xs,Si,cS,λvs H1 e1 rv=>?_⟩;have Qa:=rv;obtain⟨τt,fr,rs⟩:=rv;rw[hΦ]at ed;unfold Bs at ed;split at ed
 ·cases ed;cases ei;obtain⟨v,w,rfl,rx,ry⟩:=rs.two;cases rx with
  |lst hx _=>cases ry with
   |lst hy _=>exact⟨_,_,rfl,⟨_,hx.sq⟩,⟨_,hy.sq⟩,hR _ H1 _ e1 Qa Bt⟩
 ·cases ed
theorem iW{k:aU}{v:V}{d:D}(h:Rep T N k v d)(hf:aP anyF d=false):Rep T N' k' v d:=by
 have:=Rep.gen (T':=T) (N':=N') (g:=id) (P:=anyF) (C:=λ_ _=>True) (I:=λ_ _=>True) (λ_ _ h=>h) trivial (λ_ _ e=>e) (λ_ _ _ _ e _=>e) (λk k' p xs f _ hz _=>nomatch hz) h (k':=k') trivial hf;rw[dF]at this;exact this
theorem k_{T:kJ}{N:gL}:∀{cs:aq} {k:aU} {n:Nat} {xs:af} {ds:ae} (_:az T N k n xs ds) (c:aa),(bS cs xs c=none/\bS cs ds c=none)\/∃v d k',bS cs xs c=some v/\bS cs ds c=some d/\Rep T N k' v d/\d∈ds
 |[],_,_,_,_,_,_=>by cases ‹az _ _ _ _ _ _› <;> exact .inl ⟨rfl,rfl⟩
 |c'::cs,_,_,_,_,r,c=>by
  cases r with
  |nil=>exact .inl ⟨rfl,rfl⟩
  | @cons _ _ v d vs ds h t =>
   by_cases e:c'=c
   ·exact .inr ⟨v,d,_,YV e,YV e,h,Yo⟩
   ·have e1:∀{α:Type} (a:α) (l:List α),bS (c'::cs) (a::l) c=bS cs l c:=λa l=>Z1 e;rw[e1,e1];rcases k_ (cs:=cs) t c with h|⟨v',d',k',h1,h2,h3,h4⟩
    ·exact .inl h
    ·exact .inr ⟨v',d',k',h1,h2,h3,Yq _ h4⟩
theorem nu{p:Fl->Bool}:∀{ds:ae},aK p ds=false->∀d∈ds,aP p d=false
 |[],_,_,h=>nomatch h
 |d::ds,h,d',hd=>by
  have h:=Eu h;rcases List.mem_cons.mp hd with rfl|hd
  ·exact h.1
  ·exact nu h.2 d' hd
theorem qw{T:kJ}{N:gL}{c:aa}{v:V}{d:D}(hv:∀k,Rep T N k v d):∀{cs:aq} {k:aU} {n:Nat} {xs:af} {ds:ae},az T N k n xs ds->az T N k n (setC cs xs c v) (setC cs ds c d)
 |[],_,_,_,_,r=>by cases r<;>exact .nil
 |c'::cs,_,_,_,_,r=>by
  cases r with
  |nil=>exact .nil
  |cons h t =>
   refine .cons ?_ (qw hv t);show Rep _ _ _ (if c'=c then v else _) (if c'=c then d else _);by_cases e:c'=c
   ·rw[if_pos e,if_pos e];exact hv _
   ·rw[if_neg e,if_neg e];exact h
theorem mZ{T:kJ}{N:gL}{v:V}{d:D}(hv:∀k,Rep T N k v d):∀{k:aU} {n:Nat} {xs:af} {ds:ae},az T N k n xs ds->az T N k n (xs++[v]) (ds++[d])
 |_,_,_,_,.nil=>.cons (hv _) .nil
 |_,_,_,_,.cons h t=>.cons h (mZ hv t)
theorem yI{c:aa}{v:V}{d:D}(hv:∀k,Rep T N k v d){cs:aq}{k:aU}{n:Nat}(r:az T N k n xs ds):az T N k n (bW cs xs c v) (bW cs ds c d):=by
 unfold bW;by_cases e:c∈cs
 ·rw[if_pos e,if_pos e];exact qw hv r
 ·rw[if_neg e,if_neg e];exact mZ hv r
theorem zF{cs:aq}(k:dq T as cs){b:Addr}{c:aa}(hb:T b (c.map V.int)):dq T (rO cs as c b) (bc cs c):=by
 unfold rO bc;by_cases e:c∈cs
 ·rw[if_pos e,if_pos e];exact k
 ·rw[if_neg e,if_neg e];refine⟨by rw[List.length_append,List.length_append,k.len];rfl,λj a c' ha hc=>?_⟩;by_cases hj:j<as.length
  ·rw[List.getElem?_append_left hj]at ha;rw[List.getElem?_append_left (by rw[<- k.len];exact hj)]at hc;exact k.tup j a c' ha hc
  ·rw[List.getElem?_append_right (by left)]at ha;rw[List.getElem?_append_right (by rw[<- k.len];left),<- k.len]at hc;cases hz:j - as.length with
   |zero =>
    rw[hz]at ha hc;cases ha;cases hc;exact hb
   |succ m=>rw[hz]at ha;cases ha
theorem bM.newD{p:Addr}(hp:H p=none)(hl:H' p=some (.ext (DO p [] [] [] 0))):bM K G R τ fv H H' (.ref p) (.cy .ow [] []):=by
 refine⟨λq=>if q=p then some []else none,λq k hq=>?_,.cy (ep:=0) (as:=[]) (xs:=[]) ⟨hl,by simp⟩ ⟨rfl,λj a c h=>by simp at h⟩ .nil⟩;by_cases sT:q=p
 ·subst sT;exact hp
 ·simp[sT]at hq
noncomputable def vD(xs:ae):O D:=match xs with
 |[]=>ok (.cy .ow [] [])
 |_::_=>none
noncomputable def ph(_:Scope)(_:aw)(e:Expr):Option (au):=match e with
 |.Dict [] [] _=>some []
 |_=>none
theorem Dw{n:Nat}(hΦ:Φ n=vD){sc:Scope}{bl:aw}{k:Nat}(L:PX X sc bl k){e:Expr}(he:ph sc bl e=some args)(hs:mO X F Φ cs args):PE X e (tD X F Φ (.cj n cs))/\PT X e (eN X F Φ (.cj n cs)):=by
 have h1:∃pos,e=.Dict [] [] pos/\args=[]:=by
  unfold ph at he;split at he
  ·cases he;exact⟨_,rfl,rfl⟩
  ·cases he
 obtain⟨pos,rfl,rfl⟩:=h1;cases cs with
 |cons _ _=>exact hs.elim
 |nil =>
  have this:PE X (.Dict [] [] pos) (tD X F Φ (.cj n [])):=by
   refine PE.imp (Cj (X:=X) (pos:=pos)) λσ H Q hq p hp=>?_;obtain⟨R,τ,ρ,d,Si,ev,hq⟩:=hq;have ev:Φ n []=ok d:=ev;rw[hΦ]at ev;cases ev;exact hq _ _ (aG.upd hp) (bM.newD hp aW)
  exact⟨this,cI this λ_=>rfl⟩
noncomputable def three{α:Type}:List α->Option (α×α×α)
 |[a,b,c]=>some (a,b,c)
 |_=>none
theorem p9{α:Type}{l:List α}{z:α×α×α}(h:three l=some z):l=[z.1,z.2.1,z.2.2]:=by
 rcases l with _|⟨a,_|⟨b,_|⟨c,_|⟨d,l⟩⟩⟩⟩<;>cases h;rfl
noncomputable def gh:D->Option (aq×ae)
 |.cy _ cs vs=>some (cs,vs)
 |_=>none
def keyOf:D->Option (aa)
 |.tup ks=>intsOf ks
 |_=>none
theorem lY{d:D}{z:aq×ae}(h:gh d=some z):∃f,d=.cy f z.1 z.2:=by
 cases d<;>first | (cases h;done) | (cases h;exact⟨_,rfl⟩)
theorem iZ{d:D}{c:aa}(h:keyOf d=some c):d=.tup (c.map D.int):=by
 cases d<;>first | (cases h;done)|skip
 rw[eU (show intsOf _=some c from h)]
def xc(xs:ae):O D:=match two xs with
 |some z=>match gh z.1 with
  |some d=>match keyOf z.2 with
   |some c=>match bS d.1 d.2 c with
    |some v=>if aP anyF v=false then ok v else none
    |none=>none
   |none=>none
  |none=>none
 |none=>none
theorem Dz{xs:ae}{r:D}(h:xc xs=ok r):∃f cs vs c,xs=[.cy f cs vs,.tup (c.map D.int)]/\bS cs vs c=some r/\aP anyF r=false:=by
 unfold xc at h;cases h1:two xs with
 |none=>rw[h1]at h;cases h
 |some z =>
  rw[h1]at h;have h:(match gh z.1 with|some d=>(match keyOf z.2 with|some c=>(match bS d.1 d.2 c with|some v=>if aP anyF v=false then ok v else none|none=>none)|none=>none)|none=>none)=ok r:=h;cases h2:gh z.1 with
  |none=>rw[h2]at h;cases h
  |some d =>
   rw[h2]at h;have h:(match keyOf z.2 with|some c=>(match bS d.1 d.2 c with|some v=>if aP anyF v=false then ok v else none|none=>none)|none=>none)=ok r:=h;cases h3:keyOf z.2 with
   |none=>rw[h3]at h;cases h
   |some c =>
    rw[h3]at h;have h:(match bS d.1 d.2 c with|some v=>if aP anyF v=false then ok v else none|none=>none)=ok r:=h;cases h4:bS d.1 d.2 c with
    |none=>rw[h4]at h;cases h
    |some v =>
     rw[h4]at h;obtain⟨hf,rfl⟩:=qU (show(if aP anyF v=false then ok v else none)=ok r from h);obtain⟨f,e1⟩:=lY h2;exact⟨f,d.1,d.2,c,by rw[hJ h1,e1,iZ h3],h4,hf⟩
def Qi(K:ao):R2:=λx y H Q=>∃p b cs as xs ep c v,x=.ref p/\y=.ref b/\H p=some (.ext (DO p cs as xs ep))/\dq (aN K H) as cs/\aN K H b (c.map V.int)/\bS cs xs c=some v/\Q v H
theorem CP(hu:X.A.units+1<cLine):Fj X (Qi X.K):=by
 intro value slice pins s σ H x y v u Q I rx ry h hs;obtain⟨p,b,cs,as,xs,ep,c,w,rfl,rfl,hp,hk,hb,hg,q⟩:=h;cases rx;cases ry;obtain⟨zs,o,es,e1,e2,e3,ho,hx,hd,dd,_,hl,Mm⟩:=o7 I hp hk;have Ui:=kR (cs:=cs) e3 c;rw[hg]at Ui;obtain⟨u,sS,ru⟩:=l_.some_of Ui;have:(atKey zs c).map (·.2)=some u:=by rw[jB,e1];exact sS
 obtain⟨q',Wa,rfl⟩:=Option.map_eq_some_iff.mp this;exact ZZ (x:=q'.2) dd.typeIs PySem.F.slot_dict_getitem.lookup
  (wpAny_getItem_heap (Q:=λr s'=>r=q'.2/\EP X pins σ Q r s') (aay hu) (lA I hb) dd Wa ⟨rfl,w,H,I.tok _,ru,q⟩) hs
def tO(_:Scope)(_:aw)(e:Expr):Option (au):=match pU e with
 |some z=>some [z.1,z.2]
 |none=>none
theorem I9{n:Nat}(hΦ:Φ n=xc){sc:Scope}{bl:aw}{k:Nat}(L:PX X sc bl k){e:Expr}(he:tO sc bl e=some args)(hs:mO X F Φ cs args):PE X e (tD X F Φ (.cj n cs))/\PT X e (eN X F Φ (.cj n cs)):=by
 unfold tO at he;cases h1:pU e with
 |none=>rw[h1]at he;cases he
 |some z =>
  rw[h1]at he;cases he;obtain⟨pos,rfl⟩:=gy h1;obtain⟨⟨c1,c2,rfl,p1,p2⟩,_⟩:=oB hs;have this:PE X (.Subscript z.1 z.2 pos) (tD X F Φ (.cj n [c1,c2])):=by
   refine PE.imp (yZ (CP (zW L.room)) p1 p2 hs.2.2.2.2.2.1) λσ H Q hq=>?_;obtain⟨R,τ,ρ,d,Si,ev,hq⟩:=hq;obtain⟨xs,cS,ev⟩:=aB ev;rw[hΦ]at ev;obtain⟨f,cs,vs,c,rfl,hg,hf⟩:=Dz ev;obtain⟨x,ex,cS⟩:=aB cS;obtain⟨ys,Av,cS⟩:=aB cS;obtain⟨y,ey,R6⟩:=aB Av;cases R6;cases cS;refine tD.intro Si ex λv H1 e1 r1=>tD.intro (Si.go e1) ey λu H2 e2 r2=>?_;obtain⟨τ1,f1,q1⟩:=r1;obtain⟨τ2,f2,q2⟩:=r2;cases q1 with
   |cy hn hk hr=>cases q2 with
    |tup ht Mq =>
     cases Mq.ofInts;rcases k_ hr c with ⟨_,hz⟩|⟨w,d',k',g1,g2,g3,_⟩
     ·rw[hg]at hz;cases hz
     ·rw[hg]at g2;cases g2;refine⟨_,_,_,_,_,_,c,w,rfl,rfl,e2 _ _ hn.dat,hk.imp λ_ _ h=>aN.same e2 h,ht,g1,hq w H2 (e1.trans e2) ⟨λ_=>none,λ_ _ h=>by simp at h,?_⟩⟩;exact(iW (N':=nd X.K R (iy (gP X F) τ (fI (.cj n [c1,c2]))) (λ_=>none) H1) (k':=[]) g3 hf).imp (λ_ _ h=>aN.same e2 h) λ_ _ _ _ h=>nd.same e2 h
  exact⟨this,cI this λ_=>rfl⟩
def nI(xs:ae):O D:=match three xs with
 |some z=>match gh z.1 with
  |some d=>match keyOf z.2.1 with
   |some c=>if aK anyF d.2=false/\aP anyF z.2.2=false then ok ((bS d.1 d.2 c).getD z.2.2)else none
   |none=>none
  |none=>none
 |none=>none
theorem AH{xs:ae}{r:D}(h:nI xs=ok r):∃f cs vs c x,xs=[.cy f cs vs,.tup (c.map D.int),x]/\aK anyF vs=false/\aP anyF x=false/\r=(bS cs vs c).getD x:=by
 unfold nI at h;cases h1:three xs with
 |none=>rw[h1]at h;cases h
 |some z =>
  rw[h1]at h;have h:(match gh z.1 with|some d=>(match keyOf z.2.1 with|some c=>if aK anyF d.2=false/\aP anyF z.2.2=false then ok ((bS d.1 d.2 c).getD z.2.2)else none|none=>none)|none=>none)=ok r:=h;cases h2:gh z.1 with
  |none=>rw[h2]at h;cases h
  |some d =>
   rw[h2]at h;have h:(match keyOf z.2.1 with|some c=>if aK anyF d.2=false/\aP anyF z.2.2=false then ok ((bS d.1 d.2 c).getD z.2.2)else none|none=>none)=ok r:=h;cases h3:keyOf z.2.1 with
   |none=>rw[h3]at h;cases h
   |some c =>
    rw[h3]at h;obtain⟨⟨hf,hx⟩,rfl⟩:=qU (show(if aK anyF d.2=false/\aP anyF z.2.2=false then ok ((bS d.1 d.2 c).getD z.2.2)else none)=ok r from h);obtain⟨f,e1⟩:=lY h2;exact⟨f,d.1,d.2,c,z.2.2,by rw[p9 h1,e1,iZ h3],hf,hx,rfl⟩
def pv(_:Scope)(_:aw)(e:Expr):Option (au):=(x5 ("get" : Str) (.Expr e ⟨0,0,0,0⟩)).bind λz=>(two z.2).bind λy=>if isNm z.1=true then some [z.1,y.1,y.2]else none
theorem tP{sc:Scope}{bl:aw}{e:Expr}(h:pv sc bl e=some args):∃x p p1 p2 a b,e=.Call (.Attribute (.Name x p) ("get" : Str) p1) [a,b] [] p2/\args=[.Name x p,a,b]/\(p1.endLine==p2.line)=true:=by
 obtain⟨⟨o,as⟩,h1,h⟩:=bT h;obtain⟨⟨a,b⟩,h3,h⟩:=bT h;obtain⟨hn,h⟩:=gT h;cases h;obtain⟨x,p,rfl⟩:=km hn;obtain rfl:=hJ h3;obtain⟨p1,p2,pos,e1,hl⟩:=pV h1;cases e1;exact⟨x,p,p1,p2,a,b,rfl,rfl,hl⟩
theorem wD{x:Str}{p:Pos}{a b:Expr}{td:TE}(hu:X.A.units+1<cLine)(ho:PE X (.Name x p) td)(ha:PA X [a,b] ta)(s1:∀es,starEach (a::es) X.env=(false,eval a X.env)::starEach es X.env)(s2:∀es,starEach (b::es) X.env=(false,eval b X.env)::starEach es X.env)(hl:(p1.endLine==p2.line)=true):
  PE X (.Call (.Attribute (.Name x p) ("get" : Str) p1) [a,b] [] p2) (λσ H Q=>td σ H λv H1=>∃q cs as xs ep,v=.ref q/\H1 q=some (.ext (DO q cs as xs ep))/\ta σ H1 λys H2=>∃k c z,ys=[.ref k,z]/\H2 q=some (.ext (DO q cs as xs ep))/\dq (aN X.K H2) as cs/\aN X.K H2 k (c.map V.int)/\Q ((bS cs xs c).getD z) H2):=by
 intro pins s σ H Q I h;refine wpAny_Call_method rfl (by rw[s1,s2];rfl) hl PySem.F.plainAttrs_dict PySem.F.slot_dict_get PySem.F.type_dict_get (cA (ho pins s σ H _ I h) λu Vs bz=>?_);obtain⟨v,H1,I1,rx,q,cs,as,xs,ep,ex,hd,q1⟩:=bz;subst ex;obtain rfl:u=Value.ref q:=rx;obtain⟨t1,t2⟩:=dict_cls I1 hd;refine⟨t1,t2,?_⟩;have hA:=ha p2 pins Vs σ H1 _ I1 q1;rw[s1]at hA ⊢;refine Z0 (by show(false||(backTo p2 (starEach [b] X.env)).any (·.1))=false;rw[s2];rfl) (Calls.evalArgs_plain ?_);refine cA hA λus s3 bz=>?_;obtain⟨ys,H2,I2,r2,k,c,z,ey,hd2,hk,hb,q2⟩:=bz;subst ey;obtain⟨w1,w2,rfl,Vu,Vt⟩:=vals2 r2;cases Vu;exact DB hu I2 hd2 hk hb Vt λw' s4 I4 iT=>⟨_,H2,I4,iT,q2⟩
theorem DA{n:Nat}(hΦ:Φ n=nI){sc:Scope}{bl:aw}{k:Nat}(L:PX X sc bl k){e:Expr}(he:pv sc bl e=some args)(hs:mO X F Φ cs args):PE X e (tD X F Φ (.cj n cs))/\PT X e (eN X F Φ (.cj n cs)):=by
 obtain⟨x,p,p1,p2,a,b,rfl,rfl,hl⟩:=tP he;cases cs with
 |nil=>exact hs.elim
 |cons c0 cs =>
  obtain⟨h0,_,_,HB⟩:=hs;obtain⟨⟨c1,c2,rfl,_,_⟩,pa,s1,s2⟩:=oB HB;have this:PE X (.Call (.Attribute (.Name x p) ("get" : Str) p1) [a,b] [] p2) (tD X F Φ (.cj n [c0,c1,c2])):=by
   refine PE.imp (wD (zW L.room) h0 pa s1 s2 hl) λσ H Q hq=>?_;obtain⟨R,τ,ρ,d,Si,ev,hq⟩:=hq;obtain⟨xs,cS,ev⟩:=aB ev;rw[hΦ]at ev;obtain⟨f,cs,vs,c,y,rfl,hf,hy,rfl⟩:=AH ev;obtain⟨x0,ex,cS⟩:=aB cS;obtain⟨ys,Av,cS⟩:=aB cS;cases cS;refine tD.intro Si ex λv H1 e1 r1=>?_;obtain⟨τ1,f1,q1⟩:=r1;cases q1 with
   |cy hn hk hr =>
    refine⟨_,_,_,_,_,rfl,hn.dat,R,τ,ρ,_,Si.go e1,Av,λus H2 e2 r2=>?_⟩;obtain⟨τ2,f2,q2⟩:=r2;obtain⟨u1,u2,rfl,Vx,Vw⟩:=q2.two;obtain⟨_,_,rfl,ht,Mq⟩:=Vx.xY;cases Mq.ofInts;refine⟨_,c,u2,rfl,e2 _ _ hn.dat,hk.imp λ_ _ h=>aN.same e2 h,ht,?_⟩;refine hq _ H2 (e1.trans e2) ⟨λ_=>none,λ_ _ h=>by simp at h,?_⟩;rcases k_ hr c with ⟨g1,g2⟩|⟨w,d',k',g1,g2,g3,g4⟩
    ·rw[g1,g2];exact iW (T:=aN X.K H2) Vw hy
    ·rw[g1,g2];exact(iW (N':=nd X.K R (iy (gP X F) τ (fI (.cj n [c0,c1,c2]))) (λ_=>none) H1) (k':=[]) g3 (nu hf _ g4)).imp (λ_ _ h=>aN.same e2 h) λ_ _ _ _ h=>nd.same e2 h
  exact⟨this,cI this λ_=>rfl⟩
def nF(xs:ae):O D:=match three xs with
 |some z=>match z.1 with
  |.cy f cs vs=>match keyOf z.2.2 with
   |some c=>if cw f=true/\aP anyF z.2.1=false/\cs.length<eO then ok (.cy .ow (bc cs c) (bW cs vs c z.2.1))else none
   |none=>none
  |_=>none
 |none=>none
theorem rq{d:D}{xs:ae}{r:D}(h:nF (d::xs)=ok r):∃cs vs c x,d=.cy .ow cs vs/\xs=[x,.tup (c.map D.int)]/\aP anyF x=false/\cs.length<eO/\r=.cy .ow (bc cs c) (bW cs vs c x):=by
 unfold nF at h;cases h1:three (d::xs)with
 |none=>rw[h1]at h;cases h
 |some z =>
  rw[h1]at h;have e0:=p9 h1;obtain⟨d',x,y⟩:=z;obtain⟨rfl,rfl⟩:d=d'/\xs=[x,y]:=Z5 e0;cases d<;>first | (cases h;done)|skip
  rename_i f cs vs;have h:(match keyOf y with|some c=>if cw f=true/\aP anyF x=false/\cs.length<eO then ok (D.cy .ow (bc cs c) (bW cs vs c x))else none|none=>none)=ok r:=h;cases h3:keyOf y with
  |none=>rw[h3]at h;cases h
  |some c =>
   rw[h3]at h;obtain⟨⟨hf,hx,hl⟩,rfl⟩:=qU (show(if cw f=true/\aP anyF x=false/\cs.length<eO then ok (D.cy .ow (bc cs c) (bW cs vs c x))else none)=ok r from h);cases f<;>first | (cases hf;done)|exact⟨cs,vs,c,x,rfl,by rw[iZ h3],hx,hl,rfl⟩
def pf(_:Scope)(_:aw)(st:Stmt):Option (Expr×au):=(ya st).bind λz=>(one z.1).bind λt=>(pU t).bind λy=>some (y.1,[z.2,y.2])
theorem tN{sc:Scope}{bl:aw}(h:pf sc bl st=some (o,args)):∃v i pos' pos,st=.Assign [.Subscript o i pos'] v pos/\args=[v,i]:=by
 obtain⟨⟨ts,v⟩,h1,h⟩:=bT h;obtain⟨t,h3,h⟩:=bT h;obtain⟨⟨o',i⟩,h5,h⟩:=bT h;cases h;obtain rfl:=cU h3;obtain⟨pos,rfl⟩:=j6 h1;obtain⟨pos',rfl⟩:=gy h5;exact⟨v,i,pos',pos,rfl,rfl⟩
mutual
theorem any_map(g:Fl->Fl):∀d:D,aP anyF (aZ g d)=aP anyF d
 |.bD=>rfl
 |.bl _=>rfl
 |.int _=>rfl
 |.tup ds=>rN g ds
 |.lst _ ds=>rfl
 |.cy _ _ ds=>rfl
theorem rN(g:Fl->Fl):∀ds:ae,aK anyF (aD g ds)=aK anyF ds
 |[]=>rfl
 |d::ds=>by show(aP _ _||aK _ _)=(aP _ d||aK _ ds);rw[any_map g d,rN g ds]
end
mutual
theorem tU:∀d:D,aP anyF d=false->aP bR d=false
 |.bD,_=>rfl
 |.bl _,_=>rfl
 |.int _,_=>rfl
 |.tup ds,h=>vW ds h
 |.lst _ ds,h=>nomatch h
 |.cy _ _ ds,h=>nomatch h
theorem vW:∀ds:ae,aK anyF ds=false->aK bR ds=false
 |[],_=>rfl
 |d::ds,h=>by
  have h:=Eu h;show(aP _ d||aK _ ds)=false;rw[tU d h.1,vW ds h.2];rfl
end
theorem any_ints:∀c:aa,aK anyF (c.map D.int)=false
 |[]=>rfl
 |i::c=>any_ints c
theorem FK{i:Expr}{l:Nat}:swapsWith value (some (.Subscript o i pos')) l env=pure false:=by
 unfold swapsWith;cases value<;>rfl
theorem yP{x:Str}{p0:Pos}{i:Expr}{tv to ti:TE}(hu:X.A.units+1<cLine)(hv:PE X value tv)(ho:PE X (.Name x p0) to)(hi:PE X i ti):
  PS X (.Assign [.Subscript (.Name x p0) i pos'] value pos) (λD σ H=>tv σ H λv H1=>to σ H1 λo H2=>ti σ H2 λy H3=>∃q b cs as xs ep c,o=.ref q/\y=.ref b/\H3 q=some (.ext (DO q cs as xs ep))/\dq (aN X.K H3) as cs/\aN X.K H3 b (c.map V.int)/\cs.length<sizeLine /\
   ∀vx,D.nx σ (upd H3 q (.ext (DO q (bc cs c) (rO cs as c b) (bW cs xs c v) vx)))):=by
 intro pins s σ H D I h;refine wpAny_Assign_Subscript (cA (hv pins s σ H _ I h) λr s1 ⟨v,H1,I1,rv,q1⟩=>cA (ho pins s1 σ H1 _ I1 q1) λu s2 ⟨o,H2,I2,rx,q2⟩=>cA (hi pins s2 σ H2 _ I2 q2) λiv s3 bz=>?_) FK;obtain⟨y,H3,I3,ry,q,b,cs,as,xs,ep,c,eo,ey,hd,hk,hb,hl,q3⟩:=bz;subst eo ey;obtain rfl:u=Value.ref q:=rx;obtain rfl:iv=Value.ref b:=ry;exact tH hu I3 hd hk hb rv hl λvx s4 I4=>⟨σ,_,I4,q3 vx⟩
theorem SI.Lo{i:Nat}{cs:aq}(Si:SI X F R τ ρ σ H)(hi:ρ[i]?=some (some (.cy .ow cs ds))):
  ∃p as xs ep,σ[i]?=some (some (.ref p))/\H p=some (.ext (DO p cs as xs ep))/\τ p=some [i]/\dq (aN X.K H) as cs/\az (aN X.K H) (nd X.K R (λ_=>False) τ H) [i] 0 xs ds:=by
 obtain⟨v,hv,rp⟩:=Si.rep i _ hi;cases rp with
 |cy h k r=>exact⟨_,_,_,_,hv,h.1,h.2,k,r⟩
theorem Dv{n:Nat}(hΦ:Φ n=nF){sc:Scope}{bl:aw}{k:Nat}(L:PX X sc bl k)(hN:X.N.Nodup)(xK:∀x,X.fn x=true){x:Str}(he:pf sc bl st=some (.Name x pos,args))
  {i:Nat} (hi:X.N[i]?=some x) (hl:L2.Loc X.env.scope x) (pe:PE X (.Name x pos) (yr i)) (hs:mO X F Φ cs args):PS X st (mn X F Φ (.mut n i cs)):=by
 obtain⟨v,ix,p1,p2,rfl,rfl⟩:=tN he;obtain⟨⟨c1,c2,rfl,h1,h2⟩,_⟩:=oB hs;refine PS.imp (yP (zW L.room) h1 pe h2) λD σ H hq=>?_;obtain⟨R,τ,ρ,r,Si,ev,hq⟩:=hq;obtain⟨xs,cS,ev⟩:=aB ev;obtain⟨y,ey,cS⟩:=aB cS;obtain⟨ys,Av,cS⟩:=aB cS;cases cS;obtain⟨kd,ek,R6⟩:=aB Av;cases R6;have key:∃cs vs c,kd=.tup (c.map DI.D.int)/\ρ[i]?=some (some (.cy .ow cs vs))/\aP anyF y=false/\cs.length<eO/\r=(.nx,ρ.set i (some (.cy .ow (bc cs c) (bW cs vs c y)))):=by
  cases hz:aK bR [y,kd]with
  |true =>
   obtain⟨d,d',h⟩:=zk ev hz;rw[hΦ]at h;obtain⟨cs,vs,c,x',_,e1,e2,_⟩:=rq h;have e3:aZ a_ y=x'/\aZ a_ kd=.tup (c.map DI.D.int):=by
    have:=Z5 e1;exact⟨this.1,(Z5 this.2).1⟩
   have a1:aP bR y=false:=tU y (by rw[<- any_map a_ y,e3.1];exact e2);have a2:aP bR kd=false:=tU kd (by rw[<- any_map a_ kd,e3.2];exact any_ints c);have:aK bR [y,kd]=false:=by show(aP bR y||(aP bR kd||false))=false;rw[a1,a2];rfl
   rw[this]at hz;cases hz
  |false =>
   obtain⟨d,d',h,h',rfl⟩:=uO ev hz;rw[hΦ]at h';obtain⟨cs,vs,c,x',rfl,e1,e2,e3,rfl⟩:=rq h';cases e1;exact⟨cs,vs,c,rfl,h,e2,e3,rfl⟩
 obtain⟨cs,vs,c,rfl,ho,hf,hc,rfl⟩:=key;obtain⟨p,as,zs,ep,hv,hd,ht,hk,rs⟩:=Si.Lo ho;refine tD.intro Si ey λu H1 e1 ru=>⟨.ref p,hv,tD.intro (Si.go e1) ek λw H2 e2 iT=>?_⟩
 obtain⟨τ1,f1,q1⟩:=ru;obtain⟨τ2,f2,q2⟩:=iT;cases q2 with
 | @tup _ b _ _ hb Mq =>
  cases Mq.ofInts;have es:=e1.trans e2;have tV:=Si.go es;have hd2:=es _ _ hd;have oX:eO=1000000:=rfl;have hz:sizeLine=16777216:=Zx;refine⟨p,b,cs,as,zs,ep,c,rfl,rfl,hd2,hk.imp λ_ _ h=>aN.same es h,hb,by left,λvx=>?_⟩;have hn:de H2 p (.d cs as zs ep):=hd2;have rk:fK X R τ H2 u y:=lb ((iW (N':=nd X.K R (λ_=>False) τ H1) (k':=[]) q1 hf).imp (λ_ _ h=>aN.same e2 h) λ_ _ _ _ h=>nd.same e2 h) hf;obtain⟨p',U3,NV,Xa,Mi,HM,X9,EK,hX⟩:=tV.Lo ho;rw[hv]at Mi;cases Mi;rw[hd2]at HM;obtain⟨τ3,Jp⟩:=tV.Lb (m:=0) (n':=.d (bc cs c) (rO cs as c b) (bW cs zs c u) vx) (o:=.ext (DO p (bc cs c) (rO cs as c b) (bW cs zs c u) vx)) (d1:=.cy .ow (bc cs c) (bW cs vs c y)) (xs':=bW cs zs c u) (ds':=bW cs vs c y) ho hv hn ht (rs.imp (λ_ _ h=>aN.same es h) λ_ _ _ _ h=>nd.same es h) rk aW
   (λhN r=>.cy hN (zF ((hk.imp λ_ _ h=>aN.same es h).imp λ_ _ h=>yw hn h) (yw hn hb)) r) (λrs r=>yI (λk=>iW r hf) rs)
  exact hq σ _ R τ3 Jp (ly tV es (λ_ h=>h) hn ht)
end DI
end
section
namespace DI
open PySem PySem.Spec PyProof.Rows L2 PySem.W
noncomputable def cf{α:Type}(lt:Nat->Nat->Bool):KasT α->α
 |.ret a=>a
 |.ask i j k=>cf lt (k (lt i j))
theorem eX{α β:Type}(lt:Nat->Nat->Bool)(f:α->KasT β):∀t:KasT α,cf lt (t.bind f)=cf lt (f (cf lt t))
 |.ret a=>rfl
 |.ask i j k=>eX lt f (k (lt i j))
section
noncomputable def gQ{α:Type}(n:Nat)(lt:Nat->Nat->Bool):KasT α->Prop
 |.ret _=>True
 |.ask i j k=>i<n/\j<n/\gQ n lt (k (lt i j))
end
theorem vU{α:Type}{cmp:Nat->Nat->(Bool->Shared->Prop)->Shared->Prop}{lt:Nat->Nat->Bool}{s:Shared}{n:Nat}(hc:∀i j C,i<n->j<n->C (lt i j) s->cmp i j C s){Q:α->Shared->Prop}:
  ∀(t:KasT α),gQ n lt t->Q (cf lt t) s->t.kasWp cmp Q s
 |.ret a,_,h=>h
 |.ask i j k,⟨h1,h2,h3⟩,h=>hc i j _ h1 h2 (vU hc (k (lt i j)) h3 h)
theorem dO{α β:Type}{lt:Nat->Nat->Bool}{n:Nat}{f:α->KasT β}:∀{t:KasT α},gQ n lt t->gQ n lt (f (cf lt t))->gQ n lt (t.bind f)
 |.ret _,_,h=>h
 |.ask i j k,⟨h1,h2,h3⟩,h=>⟨h1,h2,dO h3 h⟩
structure Ord(lt:Nat->Nat->Bool)(n:Nat):Prop where
 tr:∀a b c,a<n->b<n->c<n->lt a b=true->lt b c=true->lt a c=true
 as:∀a b,a<n->b<n->lt a b=true->lt b a=false
 N0:∀a b,a<n->b<n->a≠b->lt a b=true\/lt b a=true
structure Arr(p:Array Nat)(n:Nat):Prop where
 sz:p.size=n
 pm:p.toList.Perm (List.range n)
section
variable {lt:Nat->Nat->Bool}{n:Nat}{p:Array Nat}
theorem Arr.bd(h:Arr p n){i:Nat}(hi:i<n):p.getD i 0<n:=by
 have fb:i<p.size:=by rw[h.sz];exact hi
 have:p.getD i 0=p[i]:=by simp[Array.getD,fb]
 rw[this];have hm:p[i]∈p.toList:=Array.getElem_mem_toList fb;exact List.mem_range.mp (h.pm.mem_iff.mp hm)
theorem Arr.inj(h:Arr p n){i j:Nat}(hi:i<n)(hj:j<n)(e:p.getD i 0=p.getD j 0):i=j:=by
 have fb:i<p.toList.length:=by rw[Array.length_toList,h.sz];exact hi
 have JL:j<p.toList.length:=by rw[Array.length_toList,h.sz];exact hj
 have nd:p.toList.Nodup:=h.pm.nodup_iff.mpr List.nodup_range;have e1:p.getD i 0=p.toList[i]:=by simp[Array.getD,show i<p.size by rw[h.sz];exact hi]
 have e2:p.getD j 0=p.toList[j]:=by simp[Array.getD,show j<p.size by rw[h.sz];exact hj]
 rw[e1,e2]at e;exact(Z8 nd).mp e
def Up(lt:Nat->Nat->Bool)(p:Array Nat)(k:Nat):Prop:=∀i j,i<j->j<k->lt (p.getD i 0) (p.getD j 0)=true
def Dn(lt:Nat->Nat->Bool)(p:Array Nat)(k:Nat):Prop:=∀i j,i<j->j<k->lt (p.getD j 0) (p.getD i 0)=true
theorem Up.snoc(O:Ord lt n)(h:Arr p n){k:Nat}(hk:k<n)(h1:1<=k)(u:Up lt p k)(hl:lt (p.getD (k - 1) 0) (p.getD k 0)=true):Up lt p (k+1):=λi j gU hj=>by
 by_cases e:j=k
 ·subst e;by_cases e2:i=j - 1
  ·subst e2;exact hl
  ·exact O.tr _ _ _ (h.bd (by left)) (h.bd (by left)) (h.bd hk) (u i (j - 1) (by left) (by left)) hl
 ·exact u i j gU (by left)
theorem Dn.snoc(O:Ord lt n)(h:Arr p n){k:Nat}(hk:k<n)(h1:1<=k)(u:Dn lt p k)(hl:lt (p.getD k 0) (p.getD (k - 1) 0)=true):Dn lt p (k+1):=λi j gU hj=>by
 by_cases e:j=k
 ·subst e;by_cases e2:i=j - 1
  ·subst e2;exact hl
  ·exact O.tr _ _ _ (h.bd hk) (h.bd (by left)) (h.bd (by left)) hl (u i (j - 1) (by left) (by left))
 ·exact u i j gU (by left)
theorem pL(O:Ord lt n)(h:Arr p n):∀(f k:Nat),1<=k->k+f<=n->Up lt p k->gQ n lt (kas_asc p f k)/\k<=cf lt (kas_asc p f k)/\cf lt (kas_asc p f k)<=k+f/\Up lt p (cf lt (kas_asc p f k))
 |0,k,_,_,u=>⟨trivial,Ys _,Ys _,u⟩
 |f+1,k,h1,hf,u=>by
  have a1:p.getD k 0<n:=h.bd (by left);have a2:p.getD (k - 1) 0<n:=h.bd (by left);cases c:lt (p.getD k 0) (p.getD (k - 1) 0)with
  |true =>
   have e:cf lt (kas_asc p (f+1) k)=k:=by
    show cf lt (if lt (p.getD k 0) (p.getD (k - 1) 0)=true then .ret k else kas_asc p f (k+1))=k;rw[c];rfl
   refine⟨⟨a1,a2,?_⟩,by rw[e];exact Ys _,by rw[e];left,by rw[e];exact u⟩;show gQ n lt (if lt (p.getD k 0) (p.getD (k - 1) 0)=true then .ret k else kas_asc p f (k+1));rw[c];trivial
  |false =>
   have e:cf lt (kas_asc p (f+1) k)=cf lt (kas_asc p f (k+1)):=by
    show cf lt (if lt (p.getD k 0) (p.getD (k - 1) 0)=true then .ret k else kas_asc p f (k+1))=_;rw[c];rfl
   have hl:lt (p.getD (k - 1) 0) (p.getD k 0)=true:=by
    rcases O.N0 _ _ a2 a1 (λz=>absurd (h.inj (by left) (by left) z) (by left))with z|z
    ·exact z
    ·rw[c]at z;cases z
   obtain⟨b1,b2,b3,b4⟩:=pL O h f (k+1) (by left) (by left) (u.snoc O h (by left) h1 hl);refine⟨⟨a1,a2,?_⟩,by rw[e];left,by rw[e];left,by rw[e];exact b4⟩;show gQ n lt (if lt (p.getD k 0) (p.getD (k - 1) 0)=true then .ret k else kas_asc p f (k+1));rw[c];exact b1
theorem vE(O:Ord lt n)(h:Arr p n):∀(f k:Nat),1<=k->k+f<=n->Dn lt p k->gQ n lt (kas_desc f p k 0)/\∃m,cf lt (kas_desc f p k 0)=(p,m,0)/\k<=m/\m<=k+f/\Dn lt p m
 |0,k,_,_,u=>⟨trivial,k,rfl,Ys _,Ys _,u⟩
 |f+1,k,h1,hf,u=>by
  have a1:p.getD k 0<n:=h.bd (by left);have a2:p.getD (k - 1) 0<n:=h.bd (by left);cases c:lt (p.getD k 0) (p.getD (k - 1) 0)with
  |true =>
   obtain⟨b1,m,b2,b3,b4,b5⟩:=vE O h f (k+1) (by left) (by left) (u.snoc O h (by left) h1 c);have e:kas_desc (f+1) p k 0=.ask (p.getD k 0) (p.getD (k - 1) 0) λc=>if c=true then(if (0:Nat)>0 then kas_desc f (kas_rev p (k - (0+1)) k) (k+1) 0 else kas_desc f p (k+1) 0)else .ask (p.getD (k - 1) 0) (p.getD k 0) λd=>if d=true then .ret (p,k,0)else kas_desc f p (k+1) (0+1):=rfl
   rw[e];refine⟨⟨a1,a2,?_⟩,m,?_,by left,by left,b5⟩
   ·rw[c];exact b1
   ·show cf lt (if lt (p.getD k 0) (p.getD (k - 1) 0)=true then _ else _)=_;rw[c];exact b2
  |false =>
   have hl:lt (p.getD (k - 1) 0) (p.getD k 0)=true:=by
    rcases O.N0 _ _ a2 a1 (λz=>absurd (h.inj (by left) (by left) z) (by left))with z|z
    ·exact z
    ·rw[c]at z;cases z
   have e:kas_desc (f+1) p k 0=.ask (p.getD k 0) (p.getD (k - 1) 0) λc=>if c=true then(if (0:Nat)>0 then kas_desc f (kas_rev p (k - (0+1)) k) (k+1) 0 else kas_desc f p (k+1) 0)else .ask (p.getD (k - 1) 0) (p.getD k 0) λd=>if d=true then .ret (p,k,0)else kas_desc f p (k+1) (0+1):=rfl
   rw[e];refine⟨⟨a1,a2,?_⟩,k,?_,Ys _,by left,u⟩
   ·rw[c];exact⟨a2,a1,by rw[hl];trivial⟩
   ·show cf lt (if lt (p.getD k 0) (p.getD (k - 1) 0)=true then _ else _)=_;rw[c];show cf lt (if lt (p.getD (k - 1) 0) (p.getD k 0)=true then _ else _)=_;rw[hl];rfl
theorem kn{p q:Array Nat}{i j:Nat}(h:p[i]?=q[j]?):p.getD i 0=q.getD j 0:=by
 rw[Array.getD_eq_getD_getElem?,Array.getD_eq_getD_getElem?,h]
theorem Ge(h:Arr p n){m:Nat}(hm:m<=n):Arr (kas_rev p 0 m) n/\(Dn lt p m->Up lt (kas_rev p 0 m) m):=by
 have hs:(kas_rev p 0 m).size=p.size:=mirror_size _ _ _ _;refine⟨⟨by rw[hs];exact h.sz,?_⟩,λu i j gU hj=>?_⟩
 ·have:=(mirror_perm p 0 m ((m - 0) / 2)).toList;exact this.trans h.pm
 ·have g:∀k,k<m->(kas_rev p 0 m).getD k 0=p.getD (m - 1 - k) 0:=λk hk=>by
   refine kn ?_;rw[show kas_rev p 0 m=mirror p 0 m ((m - 0) / 2) from rfl,getElem?_mirror_all (by rw[h.sz];exact hm),if_pos ⟨Nat.zero_le _,hk⟩];congr 1;left
  rw[g i (by left),g j hj];exact u (m - 1 - j) (m - 1 - i) (by left) (by left)
theorem yo(O:Ord lt n)(h:Arr p n){m:Nat}(h1:1<=m)(hm:m<=n)(u:Dn lt p m):gQ n lt (kas_tail3 m n p)/\∃r,cf lt (kas_tail3 m n p)=r/\Arr r.2 n/\1<=r.1/\r.1<=n/\Up lt r.2 r.1:=by
 obtain⟨a1,a2⟩:=Ge (lt:=lt) h hm;obtain⟨b1,b2,b3,b4⟩:=pL O a1 (n - m) m h1 (by left) (a2 u);unfold kas_tail3;refine⟨dO b1 trivial,_,rfl,?_⟩;rw[eX];exact⟨a1,YL h1 b2,by show cf lt _<=n;left,b4⟩
theorem AK(O:Ord lt n)(h:Arr p n)(hn:2<=n):gQ n lt (kas_count n p)/\∃r,cf lt (kas_count n p)=r/\Arr r.2 n/\1<=r.1/\r.1<=n/\Up lt r.2 r.1:=by
 obtain⟨b1,b2,b3,b4⟩:=pL O h (n - 1) 1 (Ys _) (by left) (λi j _ _=>by left);generalize hk:cf lt (kas_asc p (n - 1) 1)=k at *;have key:∀t:KasT (Nat×Array Nat),t=(if (k==n)=true then .ret (k,p)else if k>1 then .ask (p.getD 0 0) (p.getD (k - 1) 0) λc=>if c=true then .ret (k,p)else kas_descPart k n (kas_rev p 0 k)else kas_descPart k n p) ->
   gQ n lt t/\∃r,cf lt t=r/\Arr r.2 n/\1<=r.1/\r.1<=n/\Up lt r.2 r.1:=by
  intro t ht;by_cases e:k=n
  ·rw[if_pos (by simpa using e)]at ht;subst ht;exact⟨trivial,(k,p),rfl,h,b2,by show k<=n;left,b4⟩
  ·rw[if_neg (by simpa using e)]at ht;by_cases e1:k>1
   ·rw[if_pos e1]at ht;subst ht;have hl:lt (p.getD 0 0) (p.getD (k - 1) 0)=true:=b4 0 (k - 1) (by left) (by left);refine⟨⟨h.bd (by left),h.bd (by left),by rw[hl];trivial⟩,(k,p),?_,h,b2,by left,b4⟩;show cf lt (if lt (p.getD 0 0) (p.getD (k - 1) 0)=true then _ else _)=_;rw[hl];rfl
   ·rw[if_neg e1]at ht;have Wn:k=1:=by left
    subst Wn;subst ht;have hl:lt (p.getD 1 0) (p.getD 0 0)=true:=by
     have a1:p.getD 1 0<n:=h.bd (by left);have a0:p.getD 0 0<n:=h.bd (by left);cases c:lt (p.getD 1 0) (p.getD 0 0)with
     |true=>rfl
     |false =>
      exfalso;obtain⟨f,hf⟩:∃f,n - 1=f+1:=⟨n - 2,by left⟩
      rw[hf]at hk;have e':cf lt (kas_asc p (f+1) 1)=cf lt (kas_asc p f 2):=by
       show cf lt (if lt (p.getD 1 0) (p.getD (1 - 1) 0)=true then .ret 1 else kas_asc p f 2)=_;rw[show(1 - 1:Nat)=0 from rfl,c];rfl
      rw[e']at hk;have u2:Up lt p 2:=λi j gU hj=>by
       have:i=0/\j=1:=by left
       obtain⟨rfl,rfl⟩:=this;rcases O.N0 _ _ a0 a1 (λz=>absurd (h.inj (by left) (by left) z) (by left))with z|z
       ·exact z
       ·rw[c]at z;cases z
      obtain⟨_,c2,_,_⟩:=pL O h f 2 (by left) (by left) u2;left
    have d2:Dn lt p 2:=λi j gU hj=>by
     have:i=0/\j=1:=by left
     obtain⟨rfl,rfl⟩:=this;exact hl
    obtain⟨c1,m,c2,c3,c4,c5⟩:=vE O h (n - 2) 2 (by left) (by left) d2;obtain⟨t1,r,t2,t3⟩:=yo O h (m:=m) (by left) (by left) c5;unfold kas_descPart;refine⟨dO c1 ?_,r,?_,t3⟩
    ·rw[show(1+1:Nat)=2 from rfl,show n - 2=n - 2 from rfl,c2];exact t1
    ·rw[eX,show(1+1:Nat)=2 from rfl,c2];exact t2
 have e:=key _ rfl;refine⟨?_,?_⟩
 ·unfold kas_count;exact dO b1 (by rw[hk];exact e.1)
 ·unfold kas_count;rw[eX,hk];exact e.2
theorem Arr.or(O:Ord lt n)(h:Arr p n){i j:Nat}(hi:i<n)(hj:j<n)(e:i≠j)(c:lt (p.getD i 0) (p.getD j 0)=false):lt (p.getD j 0) (p.getD i 0)=true:=by
 rcases O.N0 _ _ (h.bd hi) (h.bd hj) (λz=>e (h.inj hi hj z))with z|z
 ·rw[c]at z;cases z
 ·exact z
theorem lh(O:Ord lt n)(h:Arr p n){k:Nat}(hk:k<n)(u:Up lt p k):∀(f l r:Nat),l<=r->r<=k->r - l<=f->(∀i,i<l->lt (p.getD i 0) (p.getD k 0)=true)->(∀i,r<=i->i<k->lt (p.getD k 0) (p.getD i 0)=true) ->
  gQ n lt (kas_place p k f l r)/\∃m,cf lt (kas_place p k f l r)=m/\m<=k/\(∀i,i<m->lt (p.getD i 0) (p.getD k 0)=true)/\∀i,m<=i->i<k->lt (p.getD k 0) (p.getD i 0)=true
 |0,l,r,hl,hr,hf,a,b=>by
  have:l=r:=by left
  subst this;exact⟨trivial,l,rfl,hr,a,b⟩
 |f+1,l,r,hl,hr,hf,a,b=>by
  have e:kas_place p k (f+1) l r=if l ≥ r then .ret l else .ask (p.getD k 0) (p.getD ((l+r) / 2) 0) λc=>if c=true then kas_place p k f l ((l+r) / 2)else kas_place p k f ((l+r) / 2+1) r:=rfl
  rw[e];by_cases Ud:l ≥ r
  ·rw[if_pos Ud];have:l=r:=by left
   subst this;exact⟨trivial,l,rfl,hr,a,b⟩
  ·rw[if_neg Ud];have hm:l<=(l+r) / 2/\(l+r) / 2<r:=by left
   generalize (l+r) / 2=m at *;have b1:p.getD k 0<n:=h.bd hk;have b2:p.getD m 0<n:=h.bd (by left);cases c:lt (p.getD k 0) (p.getD m 0)with
   |true =>
    obtain⟨c1,m',c2,c3⟩:=lh O h hk u f l m hm.1 (by left) (by left) a λi h1 h2=>by
     by_cases e:i=m
     ·subst e;exact c
     ·exact O.tr _ _ _ b1 b2 (h.bd (by left)) c (u m i (by left) h2)
    refine⟨⟨b1,b2,by rw[c];exact c1⟩,m',?_,c3⟩;show cf lt (if lt (p.getD k 0) (p.getD m 0)=true then _ else _)=_;rw[c];exact c2
   |false =>
    have oU:=h.or O hk (by left) (by left) c;obtain⟨c1,m',c2,c3⟩:=lh O h hk u f (m+1) r (by left) hr (by left) (λi hi=>by
     by_cases e:i=m
     ·subst e;exact oU
     ·exact O.tr _ _ _ (h.bd (by left)) b2 b1 (u i m (by left) (by left)) oU) b
    refine⟨⟨b1,b2,by rw[c];exact c1⟩,m',?_,c3⟩;show cf lt (if lt (p.getD k 0) (p.getD m 0)=true then _ else _)=_;rw[c];exact c2
theorem xp(h:Arr p n){k m:Nat}(hk:k<n)(hm:m<=k)(u:Up lt p k)(a:∀i,i<m->lt (p.getD i 0) (p.getD k 0)=true)(b:∀i,m<=i->i<k->lt (p.getD k 0) (p.getD i 0)=true):
  Arr (bubble p k (k - m)) n/\Up lt (bubble p k (k - m)) (k+1):=by
 have hs:(bubble p k (k - m)).size=p.size:=bubble_size _ _ _;refine⟨⟨by rw[hs];exact h.sz,(bubble_perm p k (k - m)).toList.trans h.pm⟩,λi j gU hj=>?_⟩;have g:∀t,(bubble p k (k - m)).getD t 0=if t=m then p.getD k 0 else if m<t/\t<=k then p.getD (t - 1) 0 else p.getD t 0:=λt=>by
  have e:=getElem?_bubble (xs:=p) (src:=k) (by rw[h.sz];exact hk) (k - m) (Nat.sub_le _ _) t;rw[show k - (k - m)=m by left]at e;by_cases h1:t=m
  ·rw[if_pos h1]at e ⊢;exact kn e
  ·rw[if_neg h1]at e ⊢;by_cases h2:m<t/\t<=k
   ·rw[if_pos h2]at e ⊢;exact kn e
   ·rw[if_neg h2]at e ⊢;exact kn e
 rw[g i,g j];by_cases i1:i=m
 ·rw[if_pos i1,if_neg (by left),if_pos (by left)];exact b (j - 1) (by left) (by left)
 ·rw[if_neg i1];by_cases i2:m<i/\i<=k
  ·rw[if_pos i2,if_neg (by left),if_pos (by left)];exact u (i - 1) (j - 1) (by left) (by left)
  ·rw[if_neg i2];by_cases j1:j=m
   ·rw[if_pos j1];exact a i (by left)
   ·rw[if_neg j1];by_cases j2:m<j/\j<=k
    ·rw[if_pos j2];by_cases e:i=j - 1
     ·left
     ·exact u i (j - 1) (by left) (by left)
    ·rw[if_neg j2];exact u i j gU (by left)
end
theorem AU{lt:Nat->Nat->Bool}{n:Nat}(O:Ord lt n):∀(f:Nat) {p:Array Nat} {k:Nat},Arr p n->k+f=n->Up lt p k->gQ n lt (kas_bin f p k)/\Arr (cf lt (kas_bin f p k)) n/\Up lt (cf lt (kas_bin f p k)) n
 |0,p,k,h,hk,u=>⟨trivial,h,by rw[<- hk];exact u⟩
 |f+1,p,k,h,hk,u=>by
  obtain⟨a1,m,a2,a3,a4,a5⟩:=lh O h (k:=k) (by left) u k 0 k (YQ _) (Ys _) (Ys _) (λi hi=>by left) (λi h1 h2=>by left);obtain⟨b1,b2⟩:=xp h (by left) a3 u a4 a5;obtain⟨c1,c2,c3⟩:=AU O f b1 (by left) b2;have e:kas_bin (f+1) p k=(kas_place p k k 0 k).bind λl=>kas_bin f (bubble p k (k - l)) (k+1):=rfl;rw[e];refine⟨dO a1 (by rw[a2];exact c1),?_⟩;rw[eX,a2];exact⟨c2,c3⟩
theorem BW{lt:Nat->Nat->Bool}{n:Nat}(O:Ord lt n)(hn:2<=n):gQ n lt (kas_sort n)/\Arr (cf lt (kas_sort n)) n/\Up lt (cf lt (kas_sort n)) n:=by
 have h0:Arr (List.toArray (List.range n)) n:=⟨by simp,by simp⟩
 obtain⟨a1,r,a2,a3,a4,a5,a6⟩:=AK O h0 hn;unfold kas_sort;have key:∀t,t=(if r.1<n then kas_bin (n - max r.1 1) r.2 (max r.1 1)else .ret r.2)->gQ n lt t/\Arr (cf lt t) n/\Up lt (cf lt t) n:=by
  intro t ht;by_cases h:r.1<n
  ·rw[if_pos h]at ht;subst ht;rw[show max r.1 1=r.1 by left];exact AU O _ a3 (by left) a6
  ·rw[if_neg h]at ht;subst ht;have:r.1=n:=by left
   exact⟨trivial,a3,by rw[this]at a6;exact a6⟩
 have e:=key _ rfl;refine⟨dO a1 (by rw[a2];exact e.1),?_⟩;rw[eX,a2];exact e.2
end DI
end
section
namespace DI
open PySem PySem.Spec PyProof.Rows L2
def mN(h:Heap)(vs:ai)(nss:aq):Prop:=vs.length=nss.length/\∀(i:Nat) (ns:aa),nss[i]?=some ns->∃t aC,vs[i]?=some (.ref t)/\IsTup h t aC.toArray/\IntsAre aC ns
variable {h':Heap}{nss:aq}{vs:ai}
theorem mN.mono{h:Heap}(k:∀b o,h.get? b=some o->h'.get? b=some o)(t:mN h vs nss):mN h' vs nss :=
 ⟨t.1,λi ns e=>let ⟨a,aC,e1,⟨o,ho,r⟩,e3⟩:=t.2 i ns e;⟨a,aC,e1,⟨o,k _ _ ho,r⟩,e3⟩⟩
theorem mN.mem{h:Heap}(t:mN h vs nss){v:Value}(hv:v∈vs):∃a aC ns,v=.ref a/\IsTup h a aC.toArray/\IntsAre aC ns:=by
 obtain⟨i,hi⟩:=List.mem_iff_getElem?.mp hv;have hl:i<nss.length:=by rw[<- t.1];exact(List.getElem?_eq_some_iff.mp hi).1
 obtain⟨a,aC,e1,e2,e3⟩:=t.2 i _ (Yw hl);rw[hi]at e1;cases e1;exact⟨a,aC,_,rfl,e2,e3⟩
section
variable {prog:ax}{w:World}{A:ay}{E:av}{s:Shared}
theorem lM:∀{vs:ai} {nss:aq} {Q:List (Option Value)->Shared->Prop},mN s.heap vs nss->(∀fs:List (Option Value),fs.length=vs.length->(∀f∈fs,∀v,f=some v->∃n t,v=.int n t)->Q fs s)->wpAny (model prog w) A (vs.mapM firstOfTuple') Q E s
 |[],_,_,_,h=>by rw[List.mapM_nil];exact Yk (h [] rfl λ_ h=>nomatch h)
 |v::vs,[],_,t,_=>by have:=t.1;simp at this
 |v::vs,ns::nss,Q,t,h=>by
  obtain⟨a,aC,e,⟨o,ho,hc,n,hd⟩,hi⟩:=t.2 0 ns rfl;cases e;rw[List.mapM_cons];refine Yj ?_;rw[PySem.W.kas_first_eq];refine Yj (PySem.W.Looks.here (show PySem.W.Looks (model prog w) s.heap (typeOf (.ref a)) o.cls from(PySem.W.Looks.ld ho).andThen .now) ?_);rw[hc,if_neg (by first|decide|simp)];refine Yj (listItems_at ho hd (Yk ?_));refine Yj (lM (vs:=vs) (nss:=nss) ⟨by simpa using t.1,λi ms e=>t.2 (i+1) ms e⟩ λfs h1 h2=>Yk (h _ (by simp[h1]) λf hf v hv=>?_));rcases List.mem_cons.mp hf with rfl|hf
  ·cases hi with
   |nil=>simp at hv
   |cons a' tk hi=>simp at hv;exact⟨_,_,hv.symm⟩
  ·exact h2 f hf v hv
def Ba(κ:SortKind):Prop:=κ=tuples' true\/κ=general'\/κ=oneType'
theorem kind_any{Q:SortKind->Shared->Prop}(t:mN s.heap vs nss)(xJ:vs≠[])(h:∀κ,Ba κ->Q κ s):wpAny (model prog w) A (keyKind' vs.toArray) Q E s:=by
 obtain⟨v0,vr,rfl⟩:∃v0 vr,vs=v0::vr:=by
  cases vs with
  |nil=>exact absurd rfl xJ
  |cons v0 vr=>exact⟨v0,vr,rfl⟩
 rw[kat_kind_eq,List.mapM_toArray,map_eq_pure_bind];refine Yj (Yj (lM t λfs hl hf=>Yk ?_));by_cases ha:(fs.toArray.all λx=>x.isSome)=true
 ·rw[if_pos ha];refine Yj (ZF ?_);obtain⟨gs,hg,hgi⟩:∃gs:ai,fs=gs.map some/\∀v∈gs,∃n t,v=.int n t:=by
   clear h hl t;induction fs with
   |nil=>exact⟨[],rfl,λ_ h=>nomatch h⟩
   |cons f fs ih =>
    simp only[List.all_toArray,List.all_cons,Bool.and_eq_true]at ha;obtain⟨gs,e1,e2⟩:=ih (λf Ww=>hf f (Yq _ Ww)) (by simpa using ha.2);cases f with
    |none=>simp at ha
    |some v =>
     exact⟨v::gs,by rw[e1];rfl,λu hu=>by
      rcases List.mem_cons.mp hu with rfl|hu
      ·exact hf _ Yo _ rfl
      ·exact e2 u hu⟩
  subst hg;obtain⟨g0,gr,rfl⟩:∃g0 gr,gs=g0::gr:=by
   cases gs with
   |nil=>simp at hl
   |cons a b=>exact⟨a,b,rfl⟩
  have Ws:(((g0::gr).map some).toArray.filterMap id)=(g0::gr).toArray:=by simp
  rw[Ws,oneTypeOnly'_eq,List.mapM_toArray,map_eq_pure_bind];refine Yj (Yj (Yj (PySem.W.kas_mapM (r:=Value.type "int") _ (λv hv Q' hq=>by
   obtain⟨n,t,rfl⟩:=hgi v hv;exact(PySem.W.Looks.of_pure (M:=model prog w) rfl).here hq) (Yk ?_))))
  have Af:((List.map (λ_=>Value.type "int") (g0::gr)).toArray.all λx=>x==Value.type "int")=true:=by
   simp only[List.all_toArray,List.all_map,List.all_eq_true];intro _ _;show(Value.type "int" == Value.type "int")=true;decide
  have h0:(List.map (λ_=>Value.type "int") (g0::gr)).toArray[0]?=some (Value.type "int"):=by simp
  rw[h0];simp only[Af,if_true];exact Yk (Yk (h _ (.inl rfl)))
 ·rw[if_neg ha];by_cases hb:((fs.toArray[0]?.bind id).isSome)=true
  ·rw[if_pos hb];exact Yk (h _ (.inr (.inl rfl)))
  ·rw[if_neg hb];rw[oneTypeOnly'_eq,List.mapM_toArray,map_eq_pure_bind];refine Yj (Yj (Yj (PySem.W.kas_mapM (r:=Value.type "tuple") _ (λv hv Q' hq=>by
    obtain⟨a,aC,ns,rfl,⟨o,ho,hc,_⟩,_⟩:=t.mem hv;refine PySem.W.Looks.here (show PySem.W.Looks (model prog w) s.heap (typeOf (.ref a)) o.cls from(PySem.W.Looks.ld ho).andThen .now) ?_;rw[hc];exact hq) (Yk ?_))))
   have Af:((List.map (λ_=>Value.type "tuple") (v0::vr)).toArray.all λx=>x==Value.type "tuple")=true:=by
    simp only[List.all_toArray,List.all_map,List.all_eq_true];intro _ _;show(Value.type "tuple" == Value.type "tuple")=true;decide
   have h0:(List.map (λ_=>Value.type "tuple") (v0::vr)).toArray[0]?=some (Value.type "tuple"):=by simp
   rw[h0];simp only[Af,if_true];exact Yk (Yk (h _ (.inr (.inr rfl))))
theorem G_{κ:SortKind}(hk:Ba κ)(hu:A.units<cLine){a b:Addr}{aC CO:ai}{ns ms:aa}{Q:Bool->Shared->Prop}(ha:IsTup s.heap a aC.toArray)(hb:IsTup s.heap b CO.toArray)(hi:IntsAre aC ns)(hj:IntsAre CO ms)(h:Q (HT.lexLt ns ms) s):
  wpAny (model prog w) A (keyLt' κ (.ref a) (.ref b)) Q E s:=by
 rcases hk with rfl|rfl|rfl
 ·obtain⟨o,ho,_,n,hd⟩:=ha;obtain⟨o',eV,_,n',HM⟩:=hb;exact PySem.W.kat_lt ho hd eV HM (qO 0 hi hj (by simp) h)
 ·exact PySem.W.kat_one _ _ (HT.sJ ha hb (by simpa using hi) (by simpa using hj) hu h)
 ·show wpAny (model prog w) A (oneLt' true (.ref a) (.ref b)) Q E s;rw[oneLt'_eq];simp only[if_true];refine Yj (wpAny_cRoomFor hu ?_);obtain⟨⟨cls,dd,data,sl⟩,ho,hc,n,hd⟩:=id ha;obtain⟨⟨Jc,Bm,data2,Bc⟩,rR,hc2,n2,hd2⟩:=id hb;simp only at hc hd hc2 hd2;subst hc hd hc2 hd2;refine Yj (wpAny_callSpecialIfBound?_slot (name:=Str.ofString "__lt__") ⟨_,ho,rfl⟩ aaa (ZG aaa ⟨_,ho,rfl⟩ PySem.F.entry_tuple_lt (PySem.F.args_tuple_lt_2 _ _) (HT.gR a b _ _ n n2 dd Bm sl Bc ns ms (by simpa using hi) (by simpa using hj)) ⟨ho,rR,?_⟩));exact Y0 h
end
def pP(h:Heap)(d:Addr)(es:Array DictEntry)(ep:Nat):Prop:=∃o,h.get? d=some o/\o.ExactDict/\o.data=.dict es ep
variable {Q:Value->Shared->Prop}
section
variable {prog:ax}{w:World}{A:ay}{E:av}{s:Shared}{d it:Addr}{es:Array DictEntry}{ep i:Nat}
theorem pP.typeIs(h:pP s.heap d es ep):s.TypeIs (.ref d) "dict":=let ⟨o,ho,hx,_⟩:=h;⟨o,ho,hx.1⟩
theorem Dy(hd:(d==sysModules)=false)(hm:pP s.heap d es ep)
  (hQ:Q (.ref s.heap.objs.size) { s with heap:=s.heap.push { cls:=.type "dict_keyiterator",data:=.fields #[.ref d,.int 0 0,.int es.size 0,.int ep 0] } }):wpAny (model prog w) A (pyIter (.ref d)) Q E s:=by
 have hT:=hm.typeIs;obtain⟨o,ho,hx,MO⟩:=hm;refine aaG hT PySem.F.slot_dict_iter (YE PySem.F.slot_dict_iter hT PySem.F.entry_dict_iter ?_ (PySem.F.args_dict_iter_1 _));unfold Builtin.«dict.__iter__» Builtin.Dict.dictSlotNone;refine Yj (Yj (wpAny_notOrdered_dict hT (Yk ?_)));show wpAny _ _ (Builtin.Dict.showsAll d >>= _) _ _ s;unfold Builtin.Dict.showsAll;rw[if_neg (by rw[hd];exact Bool.false_ne_true)];refine Yj (Yk (Yj (aaH ho MO (Yj (wpAny_dictEpoch ho MO ?_)))));exact Yj (YO (Yk ⟨_,rfl,"dict_keyiterator",_,⟨_,Yt _ rfl,rfl⟩,PySem.F.slot_dict_keyiterator_next.lookup,hQ⟩))
theorem Dx{Q:Option Value->Shared->Prop}(hit:s.heap.IsKeyIter it d i es.size ep)(hm:pP s.heap d es ep)(fL:i<es.size)
  (hQ:∀h',h'.IsKeyIter it d (i+1) es.size ep->Heap.SameBut it s.heap h'->Q (some es[i].key) { s with heap:=h' }):wpAny (model prog w) A (pyNext (.ref it)) Q E s:=by
 obtain⟨o,ho,hc,hd⟩:=id hit;obtain⟨od,Mv,Ab,MN⟩:=hm;unfold pyNext;refine Yj (ZJ (YZ (name:=Str.ofString "__next__") hit.typeIs Y1 (YE Y1 hit.typeIs PySem.F.entry_dict_keyiterator_next ?_ (PySem.F.args_dict_keyiterator_next_1 _))));refine Yj (Yk (Yj (Yj ?_)))
 first|refine Yj (Za hit.typeIs (Yk ?_))|refine Yj (Zp hit.typeIs (Yk ?_))
 refine Yj (ZC ho hd ?_);simp only[show Builtin.Dict_items.ownsTuple "dict_keyiterator" = false by decide,Bool.false_eq_true,if_false];show wpAny _ _ (if (Value.ref d==Value.none)=true then _ else _) _ _ s;rw[if_neg (show ¬ ((Value.ref d==Value.none)=true) from Bool.false_ne_true)];refine Yj (Yk (Yj (aaH Mv MN ?_)));rw[if_neg (by simp)];refine Yj (Yk (Yj (wpAny_dictEpoch Mv MN ?_)));rw[if_neg (by simp)];refine Yk ?_;simp only[show ¬ ((i:Int)<0) from by left,if_false,Int.toNat_natCast,Array.getElem?_eq_getElem fL];refine Yj ?_
 first|refine Yj (Za hit.typeIs (Yk ?_))|refine Yj (Zp hit.typeIs (Yk ?_))
 refine Yj (wpAny_isOneOf_keyiter hit.typeIs ?_);show wpAny _ _ (setField (.ref it) 1 (rawInt ((i:Int)+1)) >>= _) _ _ s;refine Yj (Zc ho hd (by simp) ?_);have C3:(s.heap.update it (Obj.mapFields (·.setIfInBounds 1 (rawInt ((i:Int)+1))))).IsKeyIter it d (i+1) es.size ep :=
  ⟨_,Y5 _ ho (aab (aaz hd _)),(aaI ..).trans hc,by rw[Obj.data_mapFields hd];simp[rawInt]⟩
 refine Yj (YD (Yj (wpAny_isOneOf_keyiter (s:={ s with heap:=s.heap.update it (Obj.mapFields (·.setIfInBounds 1 (rawInt ((i:Int)+1)))) }) C3.typeIs ?_)));show wpAny _ _ (pure es[i].key) _ _ _;exact Yk (Yk ⟨_,rfl,Yk (hQ _ C3 (YI ..))⟩)
theorem I0{Q:Option Value->Shared->Prop}(hh:A.handled=none)(hit:s.heap.IsKeyIter it d i es.size ep)(hm:pP s.heap d es ep)(Wq:es.size<=i)
  (hQ:∀h',Heap.ExtBut it s.heap h'->Q none { s with heap:=h' }):wpAny (model prog w) A (pyNext (.ref it)) Q E s:=by
 obtain⟨o,ho,hc,hd⟩:=id hit;obtain⟨od,Mv,Ab,MN⟩:=hm;unfold pyNext;refine Yj (ZJ (YZ (name:=Str.ofString "__next__") hit.typeIs Y1 (YE Y1 hit.typeIs PySem.F.entry_dict_keyiterator_next ?_ (PySem.F.args_dict_keyiterator_next_1 _))));refine Yj (Yk (Yj (Yj ?_)))
 first|refine Yj (Za hit.typeIs (Yk ?_))|refine Yj (Zp hit.typeIs (Yk ?_))
 refine Yj (ZC ho hd ?_);simp only[show Builtin.Dict_items.ownsTuple "dict_keyiterator" = false by decide,Bool.false_eq_true,if_false];show wpAny _ _ (if (Value.ref d==Value.none)=true then _ else _) _ _ s;rw[if_neg (show ¬ ((Value.ref d==Value.none)=true) from Bool.false_ne_true)];refine Yj (Yk (Yj (aaH Mv MN ?_)));rw[if_neg (by simp)];refine Yj (Yk (Yj (wpAny_dictEpoch Mv MN ?_)));rw[if_neg (by simp)];refine Yk ?_;simp only[show ¬ ((i:Int)<0) from by left,if_false,Int.toNat_natCast,Array.getElem?_eq_none Wq];refine Yj ?_
 first|refine Yj (Za hit.typeIs (Yk ?_))|refine Yj (Zp hit.typeIs (Yk ?_))
 show wpAny _ _ (setField (.ref it) 0 .none >>= _) _ _ s;refine Yj (Zc ho hd (by simp) ?_);show wpAny _ _ (newExc (.type "StopIteration") [] >>= _) _ _ _;refine Yj ?_;simp only[newExc,newTuple];refine Yj (YO ?_ (by size_fits));refine Yj (m:=firstArgMember _ _) (wpAny_of_eq (a:=Value.none) (by first|rfl | (simp only[firstArgMember];rfl)) ?_);refine YO ?_ (by size_fits);simp only[raiseNew];refine Yj (wpAny_handled ?_);rw[show A.in1.handled=none from hh];refine Yj (Yk (wpAny_throw ?_));refine Yj (Zq (T:="StopIteration") (b:=true) ⟨_,Yt _ rfl,rfl⟩ isSubtype_stop ?_);exact Yk (hQ _ (((YI ..).extBut.push _).push _))
end
theorem sO:∀a b c:aa,HT.lexLt a b=true->HT.lexLt b c=true->HT.lexLt a c=true
 |[],[],_,h,_=>by rw[HT.gS]at h;cases h
 |[],_::_,[],_,h=>by rw[HT.ck]at h;cases h
 |[],_::_,_::_,_,_=>rfl
 |_::_,[],_,h,_=>by rw[HT.ck]at h;cases h
 |_::_,_::_,[],_,h=>by rw[HT.ck]at h;cases h
 |x::a,y::b,z::c,h1,h2=>by
  rw[HT.cm]at *;by_cases e1:x=y
  ·subst e1;rw[if_pos rfl]at h1;by_cases e2:x=z
   ·subst e2;rw[if_pos rfl]at h2 ⊢;exact sO a b c h1 h2
   ·rw[if_neg e2]at h2 ⊢;exact h2
  ·rw[if_neg e1]at h1;have l1:x<y:=Yn h1;by_cases e2:y=z
   ·subst e2;rw[if_neg (by left)];exact Zm l1
   ·rw[if_neg e2]at h2;have l2:y<z:=Yn h2;rw[if_neg (by left)];exact Zm (by left)
theorem oS:∀a b:aa,HT.lexLt a b=true->HT.lexLt b a=false
 |[],[],_=>rfl
 |[],_::_,_=>rfl
 |_::_,[],h=>by rw[HT.ck]at h;cases h
 |x::a,y::b,h=>by
  rw[HT.cm]at *;by_cases e:x=y
  ·subst e;rw[if_pos rfl]at h ⊢;exact oS a b h
  ·rw[if_neg e]at h;have l:x<y:=Yn h;rw[if_neg (by left)];exact Zg (by left)
theorem ki:∀a b:aa,a≠b->HT.lexLt a b=true\/HT.lexLt b a=true
 |[],[],h=>absurd rfl h
 |[],_::_,_=>.inl rfl
 |_::_,[],_=>.inr rfl
 |x::a,y::b,h=>by
  rw[HT.cm,HT.cm];by_cases e:x=y
  ·subst e;rw[if_pos rfl,if_pos rfl];exact ki a b λz=>h (by rw[z])
  ·rw[if_neg e,if_neg (Ne.symm e)];rcases Int.lt_or_gt_of_ne e with l|l
   ·exact .inl (Zm l)
   ·exact .inr (Zm l)
def bu(nss:aq):aq:=nss.mergeSort λa b=>!HT.lexLt b a
def fJ(nss:aq):Prop:=nss.Pairwise λa b=>HT.lexLt a b=true
theorem uy:∀{l m:aq},fJ l->fJ m->l.Perm m->l=m
 |[],m,_,_,p=>(List.perm_nil.mp p.symm).symm
 |a::l,[],_,_,p=>by have:=p.length_eq;simp at this
 |a::l,b::m,h1,h2,p=>by
  have e:a=b:=by
   have ha:a∈b::m:=p.mem_iff.mp Yo;have hb:b∈a::l:=p.mem_iff.mpr Yo;rcases List.mem_cons.mp ha with e|ha
   ·exact e
   ·rcases List.mem_cons.mp hb with e|hb
    ·exact e.symm
    ·have l1:=(List.pairwise_cons.mp h2).1 a ha;have l2:=(List.pairwise_cons.mp h1).1 b hb;rw[oS _ _ l1]at l2;cases l2
  subst e;rw[uy (List.pairwise_cons.mp h1).2 (List.pairwise_cons.mp h2).2 (List.perm_cons a |>.mp p)]
theorem hV(h:nss.Nodup):fJ (bu nss):=by
 have p:(bu nss).Perm nss:=YT _ _;have nd:(bu nss).Nodup:=p.nodup_iff.mpr h;have sd:(bu nss).Pairwise λa b=>(!HT.lexLt b a)=true:=List.pairwise_mergeSort (λa b c h1 h2=>by
  cases e:HT.lexLt c a with
  |false=>rfl
  |true =>
   exfalso;by_cases wZ:b=c
   ·subst wZ;rw[e]at h1;cases h1
   ·rcases ki b c wZ with l|l
    ·rw[sO _ _ _ l e]at h1;cases h1
    ·rw[l]at h2;cases h2) (λa b=>by
  cases e:HT.lexLt b a with
  |false=>rfl
  |true=>rw[oS _ _ e];rfl) nss
 exact(sd.and nd).imp λ{a b} ⟨h1,h2⟩=>by
  rcases ki a b h2 with l|l
  ·exact l
  ·rw[l]at h1;cases h1
theorem qk{l:aq}(h:nss.Nodup)(hr:fJ l)(p:l.Perm nss):l=bu nss:=uy hr (hV h) (p.trans (YT _ _).symm)
def ltN(nss:aq)(i j:Nat):Bool:=HT.lexLt (nss.getD i []) (nss.getD j [])
theorem GQ(h:nss.Nodup):Ord (ltN nss) nss.length :=
 ⟨λa b c _ _ _ h1 h2=>sO _ _ _ h1 h2,λa b _ _ h=>oS _ _ h,λa b ha hb wZ=>ki _ _ λe=>wZ (by
  have e1:nss.getD a []=nss[a]:=by simp[ha]
  have e2:nss.getD b []=nss[b]:=by simp[hb]
  rw[e1,e2]at e;exact(Z8 h).mp e)⟩
theorem mV(h:nss.Nodup){p:Array Nat}(ha:Arr p nss.length)(hu:Up (ltN nss) p nss.length):(p.toList.map λi=>nss.getD i [])=bu nss:=by
 refine qk h ?_ ?_
 ·refine List.pairwise_iff_getElem.mpr λi j hi hj gU=>?_;simp only[List.length_map,Array.length_toList]at hi hj;have:=hu i j gU (by rw[<- ha.sz];exact hj);unfold ltN at this;have e:∀k (hk:k<p.size),p.getD k 0=p[k]:=λk hk=>by simp[Array.getD,hk]
  rw[e i hi,e j hj]at this;simpa using this
 ·have e:nss=(List.range nss.length).map λi=>nss.getD i []:=by
   refine Zo (by simp) λi h1 h2=>?_;simp[h1]
  refine(ha.pm.map λi=>nss.getD i []).trans ?_;rw[<- e]
variable {ep n1:Nat}
section
variable {prog:ax}{w:World}{A:ay}{E:av}{s:Shared}
theorem qj{a:Addr}{n:Nat}{P:PySem.Fin->Shared->Prop}(ho:s.heap.get? a=some (seqObj "list" vs.toArray n))(nz:vs.length<64)(HF:nss.Nodup)
  (hl:vs.length=nss.length) (KP:SortKind->Prop) (Wm:vs≠[]->∀(Q:SortKind->Shared->Prop),(∀κ,KP κ->Q κ { s with heap:=(((s.heap.update a (Obj.mapSeq λ_=>#[])).push (seqObj "tuple" vs.toArray 0)).push (seqObj "list" #[] 0)) })->wpAny (model prog w) A (keyKind' vs.toArray) Q E { s with heap:=(((s.heap.update a (Obj.mapSeq λ_=>#[])).push (seqObj "tuple" vs.toArray 0)).push (seqObj "list" #[] 0)) })
  (fL:∀κ,KP κ->∀(i j:Nat) (hi:i<nss.length) (hj:j<nss.length) (E':av) (Q:Bool->Shared->Prop),Q (HT.lexLt nss[i] nss[j]) { s with heap:=(((s.heap.update a (Obj.mapSeq λ_=>#[])).push (seqObj "tuple" vs.toArray 0)).push (seqObj "list" #[] 0)) }->wpAny (model prog w) A (keyLt' κ (vs.getD i Value.none) (vs.getD j Value.none)) Q E' { s with heap:=(((s.heap.update a (Obj.mapSeq λ_=>#[])).push (seqObj "tuple" vs.toArray 0)).push (seqObj "list" #[] 0)) })
  (h:∀p:Array Nat,Arr p vs.length->(p.toList.map λi=>nss.getD i [])=bu nss->P (.done (.ret .none)) { s with heap:=sortedHeap s.heap a vs (List.toArray (p.toList.map λi=>vs.getD i Value.none)) }) :
  wpAny (model prog w) A (Builtin.«list.sort» ⟨[.ref a],[]⟩) P E s:=by
 rw[list_sort_plain];have ha:a<s.heap.objs.size:=Yr ho;have hsz:vs.toArray.size=vs.length:=by simp
 have hz:vs.length<=sizeLine:=by rw[sizeLine_eq];left
 refine Yj (listItems_at ho rfl (Yj (listUpdate_at ho rfl ?_ (by rw[hsz];exact hz) (YQ _))));obtain⟨e1,xH⟩:∃e1,(s.heap.update a (Obj.mapSeq λ_=>#[])).get? a=some (seqObj "list" #[] e1):=⟨_,get?_update_seq ho (λ_=>#[])⟩
 refine Yj (seqEpoch_at xH rfl (Yj (wpAny_newTuple (Yj (ZI (YD ?_) (YQ _))) (by simpa using hz))));have Ub:(((s.heap.update a (Obj.mapSeq λ_=>#[])).push (seqObj "tuple" vs.toArray 0)).push (seqObj "list" #[] 0)).get? a=some (seqObj "list" #[] e1):=Ym _ (Ym _ xH);show wpAny (model prog w) A _ P E ({ s with heap:=((s.heap.update a (Obj.mapSeq λ_=>#[])).push (seqObj "tuple" vs.toArray 0)).push (seqObj "list" #[] 0) }:Shared);dsimp only;have fin:∀(kY:SortSt) (p:Array Nat),Arr p vs.length->(p.toList.map λi=>nss.getD i [])=bu nss->(arrOf kY).map (·.2)=List.toArray (p.toList.map λi=>vs.getD i Value.none)->failedOf kY=none->wpAny (model prog w) A (do
   let touched:=(<- seqEpoch a) != e1
   Builtin.List.listUpdate (.ref a) λ_=>(arrOf kY).map (·.2)
   if let some e:=failedOf kY then rule "list.sort.comparison-raised";throw e
   if touched then rule "list.sort.modified";raiseError "ValueError" "list modified during sort"
   ret .none) P E ({ s with heap:=((s.heap.update a (Obj.mapSeq λ_=>#[])).push (seqObj "tuple" vs.toArray 0)).push (seqObj "list" #[] 0) }:Shared):=by
  intro kY p hp hs hA hF;refine Yj (seqEpoch_at Ub rfl ?_);rw[hA];refine Yj (listUpdate_at Ub rfl ?_ (YQ _) (by rw[List.size_toArray,List.length_map,Array.length_toList,hp.sz];exact ZW hz));rw[hF];simp only[bne_self_eq_false,Bool.false_eq_true,if_false];exact Yk (h p hp hs)
 by_cases h2:vs.toArray.size<2
 ·rw[if_pos h2,if_pos h2];refine Yj (Yk ?_);rw[StateT.run_pure];refine Yj (Yk ?_);rw[hsz]at h2;have RG:Arr (List.toArray (List.range vs.length)) vs.length:=⟨by simp,by simp⟩
  refine fin (SortSt.mk' general' (vs.toArray.zip vs.toArray) #[] 7 none) (List.toArray (List.range vs.length)) RG ?_ ?_ rfl
  ·rw[hl]at RG ⊢;exact mV HF RG λi j gU hj=>by left
  ·apply Array.toList_inj.mp;show(Array.map (·.2) (vs.toArray.zip vs.toArray)).toList=_;rw[Array.toList_map,show(vs.toArray.zip vs.toArray)=pairsOf vs from rfl,pairsOf_toList,List.map_snd_zip (Nat.le_refl _)];refine Zo (by simp) λi h1 h2=>?_;simp[h1]
 ·rw[if_neg h2,if_neg h2];rw[hsz]at h2;refine Yj (Wm (λz=>by rw[z]at h2;simp at h2) _ λκ hk=>?_);have ok:=BW (GQ HF) (by rw[<- hl];left);refine Yj (YC (PySem.W.kat_run (ks:=vs) (vs:=vs) (κ:=κ) (Q:=λkY s'=>s'=({ s with heap:=((s.heap.update a (Obj.mapSeq λ_=>#[])).push (seqObj "tuple" vs.toArray 0)).push (seqObj "list" #[] 0) }:Shared)/\∃p,Arr p vs.length/\(p.toList.map λi=>nss.getD i [])=bu nss/\(arrOf kY).map (·.2)=List.toArray (p.toList.map λi=>vs.getD i Value.none)/\failedOf kY=none)
   (G:=λp s'=>s'=({ s with heap:=((s.heap.update a (Obj.mapSeq λ_=>#[])).push (seqObj "tuple" vs.toArray 0)).push (seqObj "list" #[] 0) }:Shared)/\Arr p vs.length/\(p.toList.map λi=>nss.getD i [])=bu nss) rfl (by left) nz (λp kY s' Ya WH hf hG=>⟨hG.1,p,hG.2.1,hG.2.2,PySem.W.kat_snds rfl WH,hf⟩) ?_) (λr s' ⟨e,p,hp,hs,hA,hF⟩=>?_) λ_ _ e=>e)
  rotate_left
  ·subst e;exact fin r.2 p hp hs hA hF
  ·rw[hl];refine vU (lt:=ltN nss) (n:=nss.length) (λi j C hi hj hC=>?_) _ ok.1 ⟨rfl,ok.2.1,mV HF ok.2.1 ok.2.2⟩;unfold PySem.W.kas_ask;have e3:nss.getD i []=nss[i]:=by simp[hi]
   have e4:nss.getD j []=nss[j]:=by simp[hj]
   have Uw:C (HT.lexLt (nss.getD i []) (nss.getD j [])) _:=hC;rw[e3,e4]at Uw;exact fL κ hk i j hi hj _ _ Uw
theorem yx{a:Addr}{n:Nat}{P:PySem.Fin->Shared->Prop}(hu:A.units<cLine)(ho:s.heap.get? a=some (seqObj "list" vs.toArray n))(nz:vs.length<64)(HF:nss.Nodup)
  (ht:mN (((s.heap.update a (Obj.mapSeq λ_=>#[])).push (seqObj "tuple" vs.toArray 0)).push (seqObj "list" #[] 0)) vs nss)
  (h:∀p:Array Nat,Arr p vs.length->(p.toList.map λi=>nss.getD i [])=bu nss->P (.done (.ret .none)) { s with heap:=sortedHeap s.heap a vs (List.toArray (p.toList.map λi=>vs.getD i Value.none)) }) :
  wpAny (model prog w) A (Builtin.«list.sort» ⟨[.ref a],[]⟩) P E s :=
 qj ho nz HF ht.1 Ba (λxJ Q hQ=>kind_any ht xJ hQ) (λκ hk i j hi hj E' Q hq=>by
  obtain⟨x,aC,e1,i1,i2⟩:=ht.2 i _ (Yw hi);obtain⟨y,CO,e2,j1,j2⟩:=ht.2 j _ (Yw hj);rw[show vs.getD i Value.none=.ref x by simp[e1],show vs.getD j Value.none=.ref y by simp[e2]];exact G_ hk hu i1 j1 i2 j2 hq) h
theorem AG{es:Array DictEntry}(hh:A.handled=none)(I d:Addr)(xJ:d≠I):Walks prog w A I [I,d] [I] es.size (λi v=>∃e,es[i]?=some e/\v=e.key) (λi h=>h.IsKeyIter I d i es.size ep/\pP h d es ep) where
 sub:=λb hb=>by simp at hb;simp[hb]
 frame:=λ_ _ _ st hk=>⟨st.1.at λo e=>hk I (by simp) o e,let ⟨o,ho,r⟩:=st.2;⟨o,hk d (by simp) o ho,r⟩⟩
 item:=λi s Q E hi st hQ=>Dx st.1 st.2 hi λh' C3 HB=>hQ _ h' s.toks ⟨es[i],YU hi,rfl⟩ ⟨C3,let ⟨o,ho,r⟩:=st.2;⟨o,HB.extBut d o xJ ho,r⟩⟩ λb o hb e=>HB.extBut b o (λh=>hb (by simp[h])) e
 done:=λs Q E st hQ=>I0 hh st.1 st.2 (Ys _) λh' Wx=>hQ h' s.toks λb o hb e=>Wx b o (λh=>hb (by simp[h])) e
 self:=λ_ _ _ _ st hQ=>wpAny_pyIter_keyiter st.1 hQ
theorem IZ{d:Addr}{es:Array DictEntry}(lo:(d==sysModules)=false):PySem.W.KdlSrc prog w "dict" d d es.size (λi v=>∃e,es[i]?=some e/\v=e.key) (λh=>pP h d es ep) where
 type:=λ_ hm=>hm.typeIs
 there:=λ_ hm=>let ⟨_,ho,_⟩:=hm;⟨Yr ho,Yr ho⟩
 keep:=λ_ _ hm hk=>let ⟨o,ho,r⟩:=hm;⟨o,hk d (.inl rfl) o ho,r⟩
 notList:=by decide
 notTuple:=by decide
 hint:=λ_ _ _ _ hm hq=>PySem.W.kdl_hint_dict hm.typeIs hq
 iter:=λ_ _ hh hm=>⟨_,_,(λ_ _ hq=>Dy lo hm hq),AG hh _ d (let ⟨_,ho,_⟩:=hm;Yv (Yr ho)),⟨⟨_,Yt _ rfl,rfl,rfl⟩,let ⟨o,ho,r⟩:=hm;⟨o,Ym _ ho,r⟩⟩⟩
theorem qi{d:Addr}{es:Array DictEntry}(hh:A.handled=none)(hu:A.units+2<cLine)(lo:(d==sysModules)=false)(hm:pP s.heap d es ep)(nz:es.size<64)(HF:nss.Nodup)(ht:mN s.heap (es.toList.map (·.key)) nss)
  (h:∀(S:Addr) (h':Heap) (tk e:Nat) (p:Array Nat),s.heap.get? S=none->(∀b o,s.heap.get? b=some o->h'.get? b=some o)->Arr p es.size->(p.toList.map λi=>nss.getD i [])=bu nss ->
   h'.get? S=some (seqObj "list" (List.toArray (p.toList.map λi=>(es.toList.map (·.key)).getD i Value.none)) e)->Q (.ref S) { s with heap:=h',toks:=tk }) :
  wpAny (model prog w) A (call (.builtin "sorted") [.ref d]) Q E s:=by
 refine Zk kind_sorted plain_sorted entry_sorted (args_sorted1 _) ?_;unfold Builtin.«sorted»;have hz:es.size<=sizeLine:=by rw[sizeLine_eq];left
 refine Yj (m:=checkCount "sorted" 1 1 _) (Yk (Yj (PySem.W.kdu_collect (A:=A.in1) (IZ lo) hh hm hz λh1 tk acc hk sZ=>?_)));have M3:acc.toList=es.toList.map (·.key):=by
  refine aaF λi=>?_;rw[List.getElem?_map,Array.getElem?_toList,Array.getElem?_toList];by_cases hi:i<es.size
  ·have MI:i<acc.size:=by rw[sZ.1];exact hi
   obtain⟨e,he,hv⟩:=sZ.2 i acc[i] (YU MI);rw[Array.getElem?_eq_getElem MI,he,hv];rfl
  ·rw[Array.getElem?_eq_none (by rw[sZ.1];left),Array.getElem?_eq_none (by left)];rfl
 rw[M3];generalize OE:es.toList.map (·.key)=vs at *;have Bg:vs.length=es.size:=by rw[<- OE];simp
 refine Yj (ZI ?_ (by rw[Bg];exact hz));show wpAny _ _ _ _ _ ({ s with heap:=h1.push (seqObj "list" vs.toArray 0),toks:=tk }:Shared);have Mw:(h1.push (seqObj "list" vs.toArray 0)).get? h1.objs.size=some (seqObj "list" vs.toArray 0):=Yt _ rfl;have k6:∀b o,s.heap.get? b=some o->((((h1.push (seqObj "list" vs.toArray 0)).update h1.objs.size (Obj.mapSeq λ_=>#[])).push (seqObj "tuple" vs.toArray 0)).push (seqObj "list" #[] 0)).get? b=some o:=λb o e=>by
  refine Ym _ (Ym _ ?_);rw[Heap.get?_update_other _ _ (Nat.ne_of_gt (Heap.lt_size (hk b o e)))];exact Ym _ (hk b o e)
 have hle:s.heap.get? h1.objs.size=none:=by
  cases q:s.heap.get? h1.objs.size with
  |none=>rfl
  |some o=>exact absurd (Yr (hk _ o q)) (YG _)
 refine Yj (YD (YE slot_list_sort ⟨_,Mw,rfl⟩ aah (yx (s:={ s with heap:=h1.push (seqObj "list" vs.toArray 0),toks:=tk }) (nss:=nss) (show A.in1.in1.units<cLine by show A.units+1+1<cLine;left) Mw (by rw[Bg];exact nz) HF (ht.mono k6) λp hp hs=>⟨_,rfl,?_⟩) (args_list_sort _)));obtain⟨e,he⟩:=sortedHeap_at (out:=List.toArray (p.toList.map λi=>vs.getD i Value.none)) Mw;refine Yk ⟨_,rfl,h h1.objs.size _ tk e p hle (λb o e=>?_) (by rw[<- Bg];exact hp) hs he⟩;have fL:=Yr (hk b o e);rw[sortedHeap_old (Nat.ne_of_lt fL) (by rw[size_push'];exact Nat.lt_succ_of_lt fL)];exact Ym _ (hk b o e)
end
noncomputable abbrev SH(h:Heap)(z TI TO a:Addr)(f:Bool):Prop :=
 h.get? z=some { cls:=.type "zip",dict:=none,data:=.fields #[rawInt a,.bool f,.bool false,.ref TI,.ref TO],slots:=#[] }
section
variable {prog:ax}{w:World}{A:ay}{E:av}{s:Shared}
end
section
variable {prog:ax}{w:World}{A:ay}{E:av}{s:Shared}
end
structure Zl(h:Heap)(z TI TO i1 i2 l1 l2 S:Addr)(xs ys:aQ)(i:Nat):Prop where
 st:(IsZip h z TI TO .none/\∃a b,IsPair h TO a b)\/∃a f oa,SH h z TI TO a f/\h.get? a=some oa/\S<a
 ti:IsPair h TI (.ref i1) (.ref i2)
 w1:h.IsListIter i1 l1 i
 w2:h.IsListIter i2 l2 i
 q1:h.IsList l1 xs
 q2:h.IsList l2 ys
structure Below(z TI TO i1 i2 l1 l2 S:Addr):Prop where
 D:ZipApart z TI TO i1 i2 l1 l2
 z:z<S
 TI:TI<S
 TO:TO<S
 i1:i1<S
 i2:i2<S
 l1:l1<S
 l2:l2<S
section
variable {prog:ax}{w:World}{A:ay}{E:av}{s:Shared}{z TI TO i1 i2 l1 l2 S:Addr}{xs ys:aQ}{i:Nat}
theorem Zl.keep{h:Heap}(B:Below z TI TO i1 i2 l1 l2 S)(Z:Zl h z TI TO i1 i2 l1 l2 S xs ys i)(hk:∀b o,b≠S->h.get? b=some o->h'.get? b=some o):Zl h' z TI TO i1 i2 l1 l2 S xs ys i:=by
 have n:∀{b},b<S->b≠S:=λh=>Yv h;refine⟨?_,hk _ _ (n B.TI) Z.ti,Z.w1.at λo e=>hk _ o (n B.i1) e,Z.w2.at λo e=>hk _ o (n B.i2) e,Z.q1.at λo e=>hk _ o (n B.l1) e,Z.q2.at λo e=>hk _ o (n B.l2) e⟩;rcases Z.st with ⟨h1,a,b,h2⟩|⟨a,f,oa,h1,h2,h3⟩
 ·exact .inl ⟨hk _ _ (n B.z) h1,a,b,hk _ _ (n B.TO) h2⟩
 ·exact .inr ⟨a,f,oa,hk _ _ (n B.z) h1,hk _ _ (Y3 h3) h2,h3⟩
end
structure Yh(xs ys:aQ)(lo:Addr)(h:Heap)(as:aM):Prop where
 above:∀a∈as,lo<a
 nd:as.Nodup
 pairs:∀(j:Nat) (a:Addr),as[j]?=some a->∃x y,xs[j]?=some x/\ys[j]?=some y/\IsPair h a x y
section
variable {prog:ax}{w:World}{A:ay}{s:Shared}{R:Result->Shared->Prop}{z TI TO i1 i2 l1 l2 S:Addr}{xs ys:aQ}
end
section
variable {prog:ax}{w:World}{A:ay}{E:av}{s:Shared}{z TI TO i1 i2 l1 l2:Addr}{xs ys:aQ}
end
variable {H:Hp}{P:ax}{w:World}
theorem GZ{h:Heap}{a:Addr}{o:HO}(x:cv P w H h a o):∃u,h.get? a=some u:=by
 cases o with
 |lst xs=>obtain⟨_,_,_,_,e⟩:=x;exact⟨_,e⟩
 |tup xs=>obtain⟨_,_,_,o,e,_⟩:=x;exact⟨_,e⟩
 |dK lx=>obtain⟨_,_,_,_,o,_,_,e,_⟩:=x;exact⟨_,e⟩
 |dT lx=>obtain⟨_,_,_,_,o,_,_,e,_⟩:=x;exact⟨_,e⟩
 |set S n=>obtain⟨o,_,_,_,e,_⟩:=x;exact⟨_,e⟩
 |ins C dx fs=>obtain⟨_,_,_,e,_⟩:=x;exact⟨_,e⟩
 |own y=>exact x
 |xd fs=>obtain⟨_,⟨o,_,_,e,_⟩,_⟩:=x;exact⟨_,e⟩
 |jr lo hi=>obtain⟨_,_,_,e⟩:=x;exact⟨_,e⟩
 |fM o u=>exact⟨_,x.1⟩
 |D9 ps=>exact⟨_,x⟩
 |met f y=>exact⟨_,x⟩
 |ext φ=>exact x.2.1
variable {X:Cx}{σ:L2.St}
theorem Inv.L6{pins:ak}{s:Shared}{t':Nat}{a:Addr}{o:HO}(I:Inv X pins σ H s)(k:∀b u,s.heap.get? b=some u->h'.get? b=some u)(ha:s.heap.get? a=none)(new:cv X.prog X.w (upd H a o) h' a o):
  H a=none/\Inv X pins σ (upd H a o) { s with heap:=h',toks:=t' }:=by
 have hn:H a=none:=by
  cases q:H a with
  |none=>rfl
  |some u =>
   obtain⟨z,hz⟩:=GZ (I.cD a u q);rw[ha]at hz;exact nk hz
 have up:∀b u,H b=some u->upd H a o b=some u:=λb u e=>by rw[aS (bU e hn)];exact e
 refine⟨hn,I.step (g':=s.gens) (d':=s.drawn) (ch:=[]) (λb hb=>nomatch hb) (λb o _ _ _ e _=>k b o e) (λb o _ _ _ e _=>⟨o.slots,k b o e⟩) (λb u _ e n=>?_)
  (λb o _ e=>⟨o,k b o e⟩) (λ_ _ e=>up _ _ e) (λ_ _ _ e=>up _ _ e) (λb ps e=>⟨#[],by rw[up _ _ e];simp⟩) (λm hm=>?_) (λb u e=>?_) I.bare⟩
 ·rw[aS λz=>by rw[z,ha]at e;cases e];exact n
 ·obtain⟨o,es,ep,ho,r⟩:=hm;exact⟨o,es,ep,k _ o ho,r⟩
 ·by_cases z:b=a
  ·subst z;rw[aW]at e;cases e;exact new
  ·rw[aS z]at e;exact(I.cD b u e).mq (λc v _ q=>k c v q) (λ_ q=>up _ _ q) λ_ _ q=>up _ _ q
section
variable {X:Cx}{pins:ak}{σ:St}{H:Hp}{s:Shared}{d:Addr}{cs:aq}{as:aM}{xs:af}{ep:Nat}
theorem Gf(I:Inv X pins σ H s)(h:H d=some (.ext (DO d cs as xs ep))):∃es:Array DictEntry,pP s.heap d es ep/\es.size=as.length/\es.toList.map (·.key)=as.map Value.ref/\cs.Nodup/\as.length=cs.length/\(d==sysModules)=false:=by
 obtain⟨⟨zs,o,es,e1,e2,e3,ho,hx,hd,he,hn,hl,hs⟩,_⟩:=(show cv X.prog X.w H s.heap d (.ext (DO d cs as xs ep)) from I.cD d _ h)
 refine⟨es,⟨o,ho,hx,hd⟩,?_,?_,hn,?_,hs⟩
 ·rw[<- Array.length_toList,he,<- e2,List.length_map,List.length_map]
 ·rw[he,<- e2,List.map_map,List.map_map];rfl
 ·rw[<- e1,<- e2,List.length_map,List.length_map]
end
def IY(xs:ae):O D:=match one xs with
 |some d=>match gh d with
  |some z=>ok (.lst .ow (z.1.map cX))
  |none=>none
 |none=>none
theorem fY(g:Fl->Fl):∀cs:aq,aD g (cs.map cX)=cs.map cX
 |[]=>rfl
 |c::cs=>by
  show aZ g (cX c)::aD g (cs.map cX)=_;rw[fY g cs];have:∀c:aa,aD g (c.map D.int)=c.map D.int:=λc=>by
   induction c with
   |nil=>rfl
   |cons i c ih=>show D.int i::aD g (c.map D.int)=_;rw[ih];rfl
  show D.tup (aD g (c.map D.int))::_=_;rw[this];rfl
theorem uz{T:kJ}{N:gL}{k:aU}{a:Addr}{c:aa}(h:T a (c.map V.int)):Rep T N k (.ref a) (cX c):=.tup h (az.ints c)
theorem tS(hc:X.calm=true)(hu:X.A.units+2<cLine):eE X (.builtin "sorted") (λxs H Q=>∃(d:Addr) (cs:aq) (as:aM) (ys:af) (ep:Nat),xs=[.ref d]/\H d=some (.ext (DO d cs as ys ep))/\dq (aN X.K H) as cs/\cs.length<64 /\
  ∀(l:Addr) (bs:aM),H l=none->dq (aN X.K H) bs (bu cs)->Q (.ref l) (upd H l (.lst (bs.map V.ref)))):=by
 intro pins s σ H xs us Q I r h;obtain⟨d,cs,as,ys,ep,rfl,hd,hk,nz,q⟩:=h;obtain⟨u,rfl,ru⟩:=r.one;cases ru;obtain⟨es,Rb,hz,EJ,Rn,hlen,Mm⟩:=Gf I hd;have ht:mN s.heap (es.toList.map (·.key)) cs:=by
  rw[EJ];refine⟨by rw[List.length_map,hlen],λi ns e=>?_⟩;have hi:i<as.length:=by rw[hlen];exact(List.getElem?_eq_some_iff.mp e).1
  obtain⟨CO,rj,ij,_⟩:=I.tuple (hk.tup i as[i] ns (Yw hi) e);exact⟨as[i],CO,by rw[List.getElem?_map,List.getElem?_eq_getElem hi];rfl,ij,cx rj⟩
 refine qi (I.ok.hd hc) hu Mm Rb (by rw[hz,hlen];exact nz) Rn ht λS h' tk e p hS Wl hp hs hl=>?_;rw[EJ]at hl;have Rg:(p.toList.map λi=>(as.map Value.ref).getD i Value.none)=(p.toList.map λi=>as.getD i 0).map Value.ref:=by
  rw[List.map_map];refine Yy λi hi=>?_;have fb:i<as.length:=by
   have:=List.mem_range.mp (hp.pm.mem_iff.mp hi);left
  simp[fb]
 rw[Rg]at hl;have MT:dq (aN X.K H) (p.toList.map λi=>as.getD i 0) (bu cs):=by
  rw[<- hs];refine⟨by simp,λj a c h1 h2=>?_⟩;rw[List.getElem?_map]at h1 h2;cases hj:p.toList[j]? with
  |none=>rw[hj]at h1;exact nk h1
  |some i =>
   rw[hj]at h1 h2;have fb:i<as.length:=by
    have:=List.mem_range.mp (hp.pm.mem_iff.mp (Yz hj));left
   cases h1;cases h2;exact hk.tup i _ _ (by simp[fb]) (by simp[show i<cs.length by left])
 have Mh:∀l:aM,Vals (l.map V.ref) (l.map Value.ref):=λl=>by
  induction l with
  |nil=>exact .nil
  |cons a l ih=>exact .cons rfl ih
 have hsz:sizeLine=16777216:=Zx;obtain⟨hn,I'⟩:=Inv.L6 (t':=tk) (o:=.lst ((p.toList.map λi=>as.getD i 0).map V.ref)) I Wl hS ⟨by rw[List.length_map,List.length_map,Array.length_toList,hp.sz];left,_,e,Mh _,hl⟩;exact⟨.ref S,_,I',rfl,q S _ hn MT⟩
def jA(xs:ae):O D:=match one xs with
 |some d=>match gh d with
  |some z=>if z.1.length<64 then ok (.lst .ow ((bu z.1).map cX))else none
  |none=>none
 |none=>none
variable {xs:ae}
theorem xb{r:D}(h:jA xs=ok r):∃f cs vs,xs=[.cy f cs vs]/\cs.length<64/\r=.lst .ow ((bu cs).map cX):=by
 unfold jA at h;cases h1:one xs with
 |none=>rw[h1]at h;exact nk h
 |some d =>
  rw[h1]at h;have h:(match gh d with|some z=>if z.1.length<64 then ok (D.lst .ow ((bu z.1).map cX))else none|none=>none)=ok r:=h;cases h2:gh d with
  |none=>rw[h2]at h;exact nk h
  |some z =>
   rw[h2]at h;obtain⟨hl,rfl⟩:=qU (show(if z.1.length<64 then ok (D.lst .ow ((bu z.1).map cX))else none)=ok r from h);obtain⟨f,e⟩:=lY h2;exact⟨f,z.1,z.2,by rw[cU h1,e],hl,rfl⟩
theorem m6{T:kJ}{N:gL}:∀{bs:aM} {cs:aq} {k:aU} {n:Nat},dq T bs cs->az T N k n (bs.map V.ref) (cs.map cX)
 |[],[],_,_,_=>.nil
 |[],_::_,_,_,h=>by have:=h.len;simp at this
 |_::_,[],_,_,h=>by have:=h.len;simp at this
 |b::bs,c::cs,_,_,h=>.cons (uz (h.tup 0 b c rfl rfl)) (m6 ⟨by have:=h.len;simpa using this,λj a c' h1 h2=>h.tup (j+1) a c' h1 h2⟩)
variable {F:Addr->Prop}{args elts:au}{cs:aA}{Φ:aX}
theorem AF{n:Nat}(hΦ:Φ n=jA){sc:Scope}{bl:aw}{k:Nat}(L:PX X sc bl k){e:Expr}(he:fw ("sorted" : Str) sc bl e=some args)(hs:mO X F Φ cs args):PE X e (tD X F Φ (.cj n cs))/\PT X e (eN X F Φ (.cj n cs)):=by
 obtain⟨p,pos,a,rfl,rfl,h1,h2⟩:=gK he;cases cs with
 |nil=>exact hs.elim
 |cons c cs=>cases cs with
  |cons _ _=>exact hs.2.2.2.elim
  |nil =>
   have pa:PA X [a] (qb X F Φ [c]):=PA.imp (dC hs.1 (PA.imp ib λ_ _ _ h=>iP h) (hs.2.1 _)) λ_ _ _ h=>eP h;have hu:X.A.units+2<cLine:=YH (aaq (by decide:2<=64) _) L.room.units;have this:PE X (.Call (.Name ("sorted" : Str) p) [a] [] pos) (tD X F Φ (.cj n [c])):=by
    refine PE.imp (dh (tS L.calm hu) (L.gl h1) (L.bl _ h2) (by decide +kernel) pa (he:=hs.2.1 _)) λσ H Q hq=>?_;obtain⟨R,τ,ρ,d,Si,ev,hq⟩:=hq;obtain⟨xs,cS,ev⟩:=aB ev;rw[hΦ]at ev;obtain⟨f,ks,vs,rfl,hl,rfl⟩:=xb ev;refine⟨R,τ,ρ,_,Si,cS,λus H1 e1 r1=>?_⟩;obtain⟨τt,fr,rs⟩:=r1;obtain⟨v,rfl,rv⟩:=rs.one;cases rv with
    |cy hn hk hr =>
     refine⟨_,ks,_,_,_,rfl,hn.dat,hk,hl,λl bs oU MT=>hq _ _ (e1.trans (aG.upd oU)) (bM.qJ (e1.free oU) (e1.trans (aG.upd oU)) aW ?_)⟩;exact m6 (MT.imp λ_ _ h=>aN.same (aG.upd oU) h)
   exact⟨this,cI this λ_=>rfl⟩
def SQ(K:ao)(a:Addr):It :=
  ⟨λi H=>∃xs x,cH K H a xs/\xs[i]?=some x,
   λi H v H'=>∃T x,(∀xs,cH K H a xs->xs[i]?=some x)/\H T=none/\v=.ref T/\H'=upd H T (.tup [.int i,x]),
   λi H=>∃xs,cH K H a xs/\xs.length<=i⟩
variable {K:ao}
theorem wc{tp:Pos}{a e it:Addr}(xJ:e≠it):
  Turn P w K (.Tuple elts n1 tp) (SQ K a) [e,it] e (λi h=>(∃old,IsEnum h e it (i:Int) old)/\h.IsListIter it a i):=by
 refine⟨by simp,λi h st c hc=>?_,λi h h' st k=>?_,?_,?_,λA i s Q E st hQ=>?_⟩
 ·obtain⟨⟨old,he⟩,⟨o1,e1,_,d1⟩⟩:=st;simp only[List.mem_cons,List.not_mem_nil,or_false]at hc;rcases hc with rfl|rfl
  ·exact⟨_,he,λv q=>by cases q⟩
  ·exact⟨o1,e1,λv q=>by rw[d1]at q;cases q⟩
 ·obtain⟨⟨old,he⟩,l1⟩:=st;exact⟨⟨old,k e (by simp) _ he⟩,l1.at λo z=>k it (by simp) o z⟩
 ·intro X hP hw hK hc i pins s σ H E I hf st hg;subst hP hw hK;obtain⟨xs,x,q1,ex⟩:=hg;obtain⟨⟨old,he⟩,l1⟩:=st;obtain⟨aC,rv,p,_⟩:=I.list q1;obtain⟨u,hu,ru⟩:=rv.get ex;refine wpAny_pyNext_enum_item he l1 p.isList (x:=u) (by simpa using hu) xJ λh1 e1 a1 t1 Vq k1=>⟨_,rfl,?_⟩
  refine wpAny_letOwnedTupleGo_enum e1 λh2 e2 Be=>?_;have Xb:s.heap.objs.size≠e:=Y3 (Yr he);have kk:∀c o,c∉[e,it]->s.heap.get? c=some o->h2.get? c=some o:=λc o hc z=>by
   simp only[List.mem_cons,List.not_mem_nil,or_false,not_or]at hc;exact Be.extBut c o hc.1 (k1 c o hc.1 hc.2 z)
  have hT:h2.get? s.heap.objs.size=some { cls:=.type "tuple",data:=.seq #[.int i s.toks,u] }:=Be.extBut _ _ Xb t1;have hn:H s.heap.objs.size=none:=I.cD.fresh (Ys _);have ci:((i+1:Nat):Int)=(i:Int)+1:=by push_cast;rfl
  refine⟨.ref s.heap.objs.size,upd H s.heap.objs.size (.tup [.int i,x]),t5 (s:=s) (h':=h2) (t':=s.toks+1) I hf kk (Ys _) (t6 ⟨_,rfl⟩ ru hT),rfl,⟨_,x,λzs hz=>by rw[I.fZ hz q1];exact ex,hn,rfl,rfl⟩,⟨⟨u,by rw[ci];exact e2⟩,a1.extBut Be.extBut xJ.symm⟩,λc hc=>?_⟩;rw[aS]
  ·exact(hf c hc).1
  ·intro z;subst z;simp only[List.mem_cons,List.not_mem_nil,or_false]at hc;rcases hc with z|z
   ·exact absurd (Yr he) (by rw[<- z];exact YG _)
   ·obtain⟨_,w,_⟩:=l1;exact absurd (Yr w) (by rw[<- z];exact YG _)
 ·intro X hP hw hK hc i pins s σ H E I hf st hg;subst hP hw hK;obtain⟨xs,q1,hl⟩:=hg;obtain⟨⟨old,he⟩,l1⟩:=st;obtain⟨aC,rv,p,_⟩:=I.list q1;have e1:=rv.length;refine wpAny_pyNext_enum_end (I.ok.hd hc) he l1 p.isList (by simp;left) λh1 k1=>⟨rfl,t4 (t':=s.toks) I hf λc o hc z=>?_⟩
  simp only[List.mem_cons,List.not_mem_nil,or_false,not_or]at hc;exact k1 c o hc.2 z
 ·obtain⟨⟨old,he⟩,_⟩:=st;exact wpAny_pyIter_enum he hQ
theorem xq:bootBuiltins "enumerate" = some (.type "enumerate"):=by decide +kernel
theorem Cg{e1:Expr}{ta:TA}{tp p pos:Pos}(hg:Gl X "enumerate")(hm:X.mg "enumerate" = none)(ha:PA X [e1] ta)(hs:∀es,starEach (e1::es) X.env=(false,eval e1 X.env)::starEach es X.env):
  PI X (.Tuple elts n1 tp) (.Call (.Name "enumerate" p) [e1] [] pos) (λσ H R=>ta σ H λvs H1=>∃a,vs=[.ref a]/\(∃xs,cH X.K H1 a xs)/\R (SQ X.K a) H1):=by
 intro pins s σ H R I h;refine Call_ (cZ I hg hm xq (YK (cA (ha pos pins s σ H _ I h) λus s1 bz=>?_) (hs _) rfl));obtain⟨vs,H1,I1,r1,q1⟩:=bz;obtain⟨a,e,⟨xs,q1⟩,q⟩:=q1;subst e;obtain⟨u,rfl,ru⟩:=vals1 r1;cases ru;obtain⟨aC,_,p1,_⟩:=I1.list q1;refine call_enumerate_list p1.isList λh' z l1 sz k=>wpAny_pyIter_enum z ?_;refine⟨s1.heap.objs.size+1,[s1.heap.objs.size+1,s1.heap.objs.size],_,_,H1,rfl,I1.kept (t':=s1.toks) k,wc (Nat.succ_ne_self _),⟨⟨_,z⟩,l1⟩,λb hb=>?_,q⟩;have sX:s1.heap.objs.size<=b:=by
  simp only[List.mem_cons,List.not_mem_nil,or_false]at hb;rcases hb with rfl|rfl<;>first|exact aaL .. |exact Ys _
 exact I1.Aq sX (I1.cD.fresh sX)
noncomputable def bZ(k:Nat):ae->ae
 |[]=>[]
 |x::xs=>.tup [.int k,x]::bZ (k+1) xs
def rn:aE
 |[.lst _ a]=>ok (.lst .ow (bZ 0 a))
 |_=>none
theorem ja:∀(a:ae) (k i:Nat),(bZ k a)[i]?=(a[i]?).map λx=>.tup [.int ((k+i:Nat):Int),x]
 |[],k,i=>by simp[bZ]
 |x::xs,k,0=>by simp[bZ]
 |x::xs,k,i+1=>by
  rw[bZ,List.getElem?_cons_succ,List.getElem?_cons_succ,ja xs (k+1) i,show k+1+i=k+(i+1) by left]
theorem i_:∀(a:ae) (k:Nat),(bZ k a).length=a.length
 |[],k=>rfl
 |x::xs,k=>by rw[bZ,List.length_cons,List.length_cons,i_ xs]
theorem oD{a:Expr}(h:mO X F Φ cs [a]):PA X [a] (qb X F Φ cs)/\(∀es,starEach (a::es) X.env=(false,eval a X.env)::starEach es X.env):=by
 match cs,h with
 |[c],h =>
  obtain⟨h1,h2,_,_⟩:=h;exact⟨PA.imp (dC h1 (PA.imp ib λ_ _ _ h=>iP h) (h2 _)) λ_ _ _ h=>eP h,h2⟩
 |[],h=>exact h.elim
 |_::_::_,h=>exact h.2.2.2.elim
theorem xT{p:Addr}{f:Fl}{a:ae}{H2:Hp}:Jm K (SQ K p) H2 [.ref p] [.lst f a] (aD a_ (bZ 0 a)):=by
 have len:(aD a_ (bZ 0 a)).length=a.length:=by rw[bg,List.length_map,i_]
 have two:∀{H':Hp} {R':ag},az (aN K H') (nd K R' (λ_=>False) (λ_=>none) H') [] 0 [.ref p] (aD a_ [.lst f a]) ->
   ∃xs,cH K H' p xs/\az (aN K H') (nd K R' (λ_=>False) (λ_=>none) H') [0] 0 xs (aD a_ a):=by
  intro H' R' h;rw[aD,aZ,aD]at h;cases h with
  |cons h t=>cases h with
   |lst h r=>exact⟨_,h.sq,r⟩
 refine⟨λi H' R' _ h hi=>?_,λi H' R' x j5 _ h hi hy=>?_,λi H' R' _ h hi=>?_⟩
 ·obtain⟨xs,h1,r1⟩:=two h;rw[len]at hi;have l1:=r1.length;rw[bg,List.length_map]at l1;exact⟨xs,xs[i]'(by left),h1,Yw _⟩
 ·obtain⟨xs,h1,r1⟩:=two h;obtain⟨T,u,g1,hn,rfl,rfl⟩:=hy;obtain⟨d1,e1,p1⟩:=r1.s_ (g1 xs h1);have es:aG H' (upd H' T (.tup [.int i,u])):=aG.upd hn;refine⟨es,.tup [.int i,d1],?_,.tup (aN.of aW) (.cons (.int _) (.cons (p1.Pt es) .nil))⟩;rw[bg,List.getElem?_map]at e1 ⊢;obtain⟨c1,q1,rfl⟩:=Option.map_eq_some_iff.mp e1;rw[ja,q1];simp[aZ,aD]
 ·obtain⟨xs,h1,r1⟩:=two h;rw[len]at hi;have l1:=r1.length;rw[bg,List.length_map]at l1;exact⟨xs,h1,by left⟩
theorem Dk{n:Nat}(hΦ:Φ n=rn){sc:Scope}{bl:aw}{k:Nat}(L:PX X sc bl k){e:Expr}(he:fw "enumerate" sc bl e=some args){tg:Expr}(ht:fj tg=true)(hs:mO X F Φ cs args)
  {pins:ak} {s:Shared} {R:ag} {τ:Addr->Option aU} {ρ:aV} {d:D} {items:ae} (I:Inv X pins σ H s) (Si:SI X F R τ ρ σ H) (cS:cc Φ cs ρ=ok xs) (ed:Φ n xs=ok d) (ei:my d=ok items) (Rr:It->Hp->Prop)
  (hR:∀J H2 vs,aG H H2->b0 X.K (gP X F) R τ (cL cs) H H2 vs xs->Jm X.K J H2 vs xs items->Rr J H2) :
  wpAny (model X.prog X.w) X.A (eval e X.env) (λv s1=>wpAny (model X.prog X.w) X.A (pyIter v) (A_ X pins σ tg Rr) X.xe s1) X.xe s:=by
 obtain⟨p,pos,a,rfl,rfl,h1,h2⟩:=gK he;cases tg<;>try (cases ht;done)
 obtain⟨pa,s1⟩:=oD hs;refine Cg (L.gl h1) (L.bl _ h2) pa s1 pins s σ H Rr I ⟨R,τ,ρ,xs,Si,cS,λvs H1 e1 rv=>?_⟩;have Qa:=rv;obtain⟨τt,fr,rs⟩:=rv;rw[hΦ]at ed;unfold rn at ed;split at ed
 ·cases ed;cases ei;obtain⟨v,rfl,rx⟩:=rs.one;cases rx with
  |lst hx _=>exact⟨_,rfl,⟨_,hx.sq⟩,hR _ H1 _ e1 Qa xT⟩
 ·cases ed
theorem az.EX{T:kJ}{N:gL}{k:aU}:∀(j:Nat) {n:Nat} {vs:af} {ds:ae},az T N k n vs ds->az T N k (n+j) (vs.drop j) (ds.drop j)
 |0,_,_,_,h=>h
 |j+1,_,_,_,.nil=>.nil
 |j+1,n,_,_,.cons h t=>by
  rw[show n+(j+1)=n+1+j by left];exact az.EX j t
theorem az.Ea{T:kJ}{N:gL}{k:aU}:∀(j:Nat) {n:Nat} {vs:af} {ds:ae},az T N k n vs ds->az T N k n (vs.take j) (ds.take j)
 |0,_,_,_,_=>by rw[List.take_zero,List.take_zero];exact .nil
 |j+1,_,_,_,.nil=>.nil
 |j+1,n,_,_,.cons h t=>.cons h (az.Ea j t)
noncomputable def mK{α:Type}(b:Bool)(k:Nat)(xs:List α):List α:=if b then xs.drop k else xs.take k
def K4(K:ao)(b:Bool):V->Option Int->Option Int->Hp->VK->Prop:=λx lo hi H Q=>∃(a:Addr) (xs:af) (k:Nat),x=.ref a/\cH K H a xs/\lo=(if b then some (k:Int)else none)/\hi=(if b then none else some (k:Int))/\k<=xs.length/\∀p,H p=none->Q (.ref p) (upd H p (.lst (mK b k xs)))
theorem uk(b:Bool):SK X (K4 X.K b):=by
 intro pins s σ H x v vl vu lo hi sl Q I rx hs pl pu h;obtain⟨a,xs,k,rfl,hx,rfl,rfl,hk,q⟩:=h;cases rx;obtain⟨aC,r,Ep,hz⟩:=I.list hx;have hl:=b9 Ep;have hlen:aC.length=xs.length:=r.length.symm;refine⟨"list",_,slot_list_getitem.lookup,hl.typeIs,wpAny_getItem_list_slice hl hs pl pu .none (by simp) ?_ (by rw[List.size_toArray,hlen];exact hz)⟩;have e:slicePick aC.toArray (if b then some (k:Int)else none) (if b then none else some (k:Int)) none=(mK b k aC).toArray:=by
  cases b with
  |true=>exact slicePick_from aC.toArray k (by simp;left)
  |false=>exact slicePick_upto aC.toArray k (by simp;left)
 have rc:Vals (mK b k xs) (mK b k aC):=by
  cases b with
  |true=>exact r.drop k
  |false=>exact r.take k
 have lc:(mK b k xs).length<=xs.length:=by
  cases b with
  |true=>show(xs.drop k).length<=_;rw[List.length_drop];left
  |false=>show(xs.take k).length<=_;rw[List.length_take];left
 rw[e];exact⟨.ref s.heap.objs.size,_,I.He (t':=s.toks) rc (YL lc hz),rfl,q _ I.fresh⟩
def cutD(b:Bool)(xs:ae):O D:=match two xs with
 |some z=>match z.1 with
  |.lst _ ds=>match z.2 with
   |.int k=>if 0<=k/\k<=ds.length then ok (.lst .ow (aD bH (mK b k.toNat ds)))else none
   |_=>none
  |_=>none
 |none=>none
theorem DD{b:Bool}{x y d:D}(h:cutD b [x,y]=ok d):∃(f:Fl) (ds:ae) (k:Nat),x=.lst f ds/\y=.int k/\k<=ds.length/\d=.lst .ow (aD bH (mK b k ds)):=by
 cases x<;>first|exact nk h | (cases h;done) | (cases y<;>first|exact nk h | (cases h;done)|skip)
 obtain⟨⟨h1,h2⟩,h3⟩:=qU h;rename_i f ds k;exact⟨f,ds,k.toNat,rfl,by rw[Int.toNat_of_nonneg h1],by left,h3.symm⟩
noncomputable def J8(b:Bool)(e:Expr):Option Expr:=match e with
 |.Slice lo hi st _=>match st with
  |none=>match b with
   |true=>match hi with
    |none=>lo
    |some _=>none
   |false=>match lo with
    |none=>hi
    |some _=>none
  |some _=>none
 |_=>none
theorem BB{b:Bool}{e k:Expr}(h:J8 b e=some k):∃p,e=.Slice (if b then some k else none) (if b then none else some k) none p:=by
 cases e<;>first|exact nk h | (cases h;done)|skip
 rename_i lo hi st p;cases st with
 |some _=>cases h
 |none=>cases b with
  |true=>cases hi with
   |some _=>cases h
   |none=>cases h;exact⟨p,rfl⟩
  |false=>cases lo with
   |some _=>cases h
   |none=>cases h;exact⟨p,rfl⟩
def pz(b:Bool)(_:Scope)(_:aw)(e:Expr):Option (au):=(pU e).bind λz=>(J8 b z.2).bind λk=>some [z.1,k]
theorem xh{b:Bool}{sc:Scope}{bl:aw}{e:Expr}(h:pz b sc bl e=some args):∃a k p pos,e=.Subscript a (.Slice (if b then some k else none) (if b then none else some k) none p) pos/\args=[a,k]:=by
 obtain⟨⟨a,s⟩,hv,h⟩:=bT h;obtain⟨k,hw,h⟩:=bT h;cases h;obtain⟨pos,rfl⟩:=gy hv;obtain⟨p,rfl⟩:=BB hw;exact⟨a,k,p,pos,rfl,rfl⟩
theorem AI{b:Bool}{n:Nat}(hΦ:Φ n=cutD b){sc:Scope}{bl:aw}{k:Nat}(L:PX X sc bl k){e:Expr}(he:pz b sc bl e=some args)(hs:mO X F Φ cs args):PE X e (tD X F Φ (.cj n cs))/\PT X e (eN X F Φ (.cj n cs)):=by
 obtain⟨a,ke,p,pos,rfl,rfl⟩:=xh he;cases cs with
 |nil=>exact hs.elim
 |cons c cs=>cases cs with
  |nil=>exact hs.2.2.2.elim
  |cons c' cs=>cases cs with
   |cons _ _=>exact hs.2.2.2.2.2.2.elim
   |nil =>
    obtain⟨h1,_,_,h2,_,_,_⟩:=hs;have this:PE X (.Subscript a (.Slice (if b then some ke else none) (if b then none else some ke) none p) pos) (tD X F Φ (.cj n [c,c'])):=by
     have go:∀{tl th:TO},PO X (if b then some ke else none) tl->PO X (if b then none else some ke) th->(∀(H1:Hp) (R:ag) (τ:Addr->Option aU) (ρ:aV) (k:Nat) (σ:St) (Q:Option Int->Option Int->Hp->Prop),SI X F R τ ρ σ H1->bj Φ c' ρ=ok (.int k)->(∀H2,aG H1 H2->Q (if b then some (k:Int)else none) (if b then none else some (k:Int)) H2)->tl σ H1 λl H2=>th σ H2 λu H3=>Q l u H3)->PE X (.Subscript a (.Slice (if b then some ke else none) (if b then none else some ke) none p) pos) (tD X F Φ (.cj n [c,c'])):=by
      intro tl th pl pu hh;refine PE.imp (yX (uk b) h1 pl pu) λσ H Q hq=>?_;obtain⟨R,τ,ρ,d,Si,ev,hq⟩:=hq;obtain⟨xs,cS,ev⟩:=aB ev;obtain⟨x,ex,cS⟩:=aB cS;obtain⟨ys,Av,cS⟩:=aB cS;cases cS;obtain⟨y,ey,Av⟩:=aB Av;cases Av;rw[hΦ]at ev;obtain⟨f,ds,j,rfl,rfl,hj,rfl⟩:=DD ev;refine tD.intro Si ex λv H1 e1 r1=>hh H1 R τ ρ j σ (λl u H3=>K4 X.K b v l u H3 Q) (Si.go e1) ey λH2 e2=>?_;have r2:=(r1.go e2).mono (fv':=fI (.cj n [c,c'])) λi hi=>YN _ hi;obtain⟨τt,fr,rp⟩:=r2;obtain⟨q,xs,rfl,hn,rs⟩:=rp.rW;have ee:=e1.trans e2;refine⟨q,xs,j,rfl,hn.sq,rfl,rfl,by rw[rs.length];exact hj,λl hl=>hq _ _ (ee.trans (aG.upd hl)) (bM.qJ (ee.free hl) (ee.trans (aG.upd hl)) aW ?_)⟩;have rc:∃n',az (aN X.K H2) (nd X.K R (iy (gP X F) τ (fI (.cj n [c,c']))) τt H2) [] n' (mK b j xs) (mK b j ds):=by
       cases b with
       |true=>exact⟨_,rs.EX j⟩
       |false=>exact⟨_,rs.Ea j⟩
      obtain⟨n',rc⟩:=rc;exact(rc.fF Si fr).imp (λ_ _ h=>aN.same (aG.upd hl) h) λ_ _ _ _ h=>nd.same (aG.upd hl) h
     cases b with
     |true =>
      refine go (uD h2) uE λH1 R τ ρ k σ Q Si ek hk=>tD.intro Si ek λv H2 e2 r2=>?_;cases r2.isInt;exact⟨k,rfl,hk H2 e2⟩
     |false =>
      refine go uE (uD h2) λH1 R τ ρ k σ Q Si ek hk=>tD.intro Si ek λv H2 e2 r2=>?_;cases r2.isInt;exact⟨k,rfl,hk H2 e2⟩
    exact⟨this,cI this λ_=>by cases b<;>rfl⟩
def nL(f g:Str)(sc:Scope)(bl:aw)(e:Expr):Option (au):=match fw f sc bl e with
 |some z=>match one z with
  |some i=>fw g sc bl i
  |none=>none
 |none=>none
theorem rF{f g:Str}{sc:Scope}{bl:aw}{e:Expr}(h:nL f g sc bl e=some args):∃p pos p' pos' a,e=.Call (.Name f p) [.Call (.Name g p') [a] [] pos'] [] pos/\args=[a]/\mF sc f=true/\f∈bl/\mF sc g=true/\g∈bl:=by
 unfold nL at h;cases h1:fw f sc bl e with
 |none=>rw[h1]at h;exact nk h
 |some z =>
  rw[h1]at h;obtain⟨p,pos,i,rfl,rfl,g1,g2⟩:=gK h1;have h:fw g sc bl i=some args:=h;obtain⟨p',pos',a,rfl,rfl,g3,g4⟩:=gK h;exact⟨p,pos,p',pos',a,rfl,rfl,g1,g2,g3,g4⟩
end DI
end
section
namespace SX
open PySem
def fJ(xs:Array Nat):Prop:=∀a b,a<b->b<xs.size->xs.getD a 0<xs.getD b 0
theorem l6{xs:Array Nat}(hr:fJ xs)(j:Nat):∀(fuel lo hi:Nat),hi - lo<=fuel->lo<=hi->hi<=xs.size->(∀i,i<lo->xs.getD i 0<j)->(∀i,hi<=i->i<xs.size->j<=xs.getD i 0) ->
  SetTable.below.go xs j fuel lo hi<=xs.size/\(∀i,i<SetTable.below.go xs j fuel lo hi->xs.getD i 0<j)/\∀i,SetTable.below.go xs j fuel lo hi<=i->i<xs.size->j<=xs.getD i 0
 |0,lo,hi,h1,h2,h3,h4,h5=>by
  have e:lo=hi:=by left
  subst e;exact⟨h3,h4,h5⟩
 |fuel+1,lo,hi,h1,h2,h3,h4,h5=>by
  rw[SetTable.below.go];by_cases c:lo<hi
  ·rw[if_pos c];have hm:(lo+hi) / 2<xs.size:=by left
   have e:xs.getD ((lo+hi) / 2) j=xs.getD ((lo+hi) / 2) 0:=by simp[hm]
   show _<=_/\_;dsimp only;rw[e];by_cases d:xs.getD ((lo+hi) / 2) 0<j
   ·rw[if_pos d];refine l6 hr j fuel _ hi (by left) (by left) h3 (λi fb=>?_) h5;rcases Y6 (show i<=(lo+hi) / 2 by left)with q|q
    ·exact Nat.lt_trans (hr i _ q hm) d
    ·rw[q];exact d
   ·rw[if_neg d];refine l6 hr j fuel lo _ (by left) (by left) (by left) h4 λi fb hs=>?_;rcases Y6 fb with q|q
    ·have:=hr _ i q hs;left
    ·rw[<- q];left
  ·rw[if_neg c];have e:lo=hi:=by left
   subst e;exact⟨h3,h4,h5⟩
theorem gm{xs:Array Nat}(hr:fJ xs)(j:Nat):SetTable.below xs j<=xs.size/\(∀i,i<SetTable.below xs j->xs.getD i 0<j)/\∀i,SetTable.below xs j<=i->i<xs.size->j<=xs.getD i 0 :=
 l6 hr j _ _ _ (by left) (by left) (Ys _) (λi h=>absurd h (by left)) λi h h'=>absurd h' (by left)
theorem i0{xs:Array Nat}{p x:Nat}(hp:p<=xs.size)(i:Nat):(SetTable.insertAt xs p x).getD i 0=if i<p then xs.getD i 0 else if i=p then x else xs.getD (i - 1) 0:=by
 rw[Array.getD_eq_getD_getElem?,<- Array.getElem?_toList,SetTable.toList_insertAt];by_cases c:i<p
 ·rw[if_pos c,List.getElem?_append_left (by simp;left),List.getElem?_take,if_pos c,Array.getElem?_toList,<- Array.getD_eq_getD_getElem?]
 ·rw[if_neg c,List.getElem?_append_right (by simp;left)];have e:(List.take p xs.toList).length=p:=by simp;left
  rw[e];by_cases d:i=p
  ·rw[if_pos d,d,Nat.sub_self];rfl
  ·rw[if_neg d];obtain⟨k,rfl⟩:∃k,i=p+1+k:=⟨i - (p+1),by left⟩
   rw[show p+1+k - p=k+1 by left,List.getElem?_cons_succ,List.getElem?_drop,Array.getElem?_toList,<- Array.getD_eq_getD_getElem?,show p+1+k - 1=p+k by left]
theorem cJ{α:Type}(xs:Array α)(p:Nat)(x:α):(SetTable.insertAt xs p x).size=xs.size+1:=by
 have:=(SetTable.insertAt_perm xs p x).length_eq;simpa using this
theorem fJ.insert{xs:Array Nat}(hr:fJ xs){j:Nat}(hn:xs[SetTable.below xs j]?≠some j):fJ (SetTable.insertAt xs (SetTable.below xs j) j):=λa b wZ hb=>by
 obtain⟨h1,h2,h3⟩:=gm hr j;have h4:∀i,SetTable.below xs j<=i->i<xs.size->j<xs.getD i 0:=λi hi hs=>by
  rcases Y6 hi with q|q
  ·have:=hr _ i q hs;have:=h3 _ (Ys _) (by left);left
  ·rcases Y6 (h3 i hi hs)with z|z
   ·exact z
   ·exfalso;refine hn ?_;rw[q,Array.getElem?_eq_getElem hs];simp[hs]at z;rw[<- z]
 rw[cJ]at hb;rw[i0 h1,i0 h1];generalize SetTable.below xs j=p at *;by_cases a1:a<p
 ·rw[if_pos a1];by_cases b1:b<p
  ·rw[if_pos b1];exact hr a b wZ (by left)
  ·rw[if_neg b1];by_cases b2:b=p
   ·rw[if_pos b2];exact h2 a a1
   ·rw[if_neg b2];have:=h2 a a1;have:=h4 (b - 1) (by left) (by left);left
 ·rw[if_neg a1,if_neg (show ¬ b<p by left),if_neg (show ¬ b=p by left)];by_cases a2:a=p
  ·rw[if_pos a2];exact h4 (b - 1) (by left) (by left)
  ·rw[if_neg a2];exact hr (a - 1) (b - 1) (by left) (by left)
theorem ux{l:aF}(h:l.Pairwise (· < ·)):fJ l.toArray:=λa b wZ hb=>by
 rw[List.size_toArray]at hb;have:=List.pairwise_iff_getElem.mp h a b (by left) hb wZ;have ha:a<l.length:=by left
 simpa [ha,hb]using this
structure dm(b:Bool)(t:SetTable):Prop where
 led:t.led=b
 xO:t.dummies = #[]
 rise:t.plain=true->fJ t.place
theorem dm.fresh(b:Bool):dm b (.fresh 0 0 b):=⟨rfl,rfl,λ_ a c _ h=>by simp[SetTable.fresh]at h⟩
theorem dm.standIn{b:Bool}{t:SetTable}(I:dm b t)(n:Nat):dm b (t.standIn n):=⟨I.led,rfl,λh=>by simp[SetTable.standIn]at h⟩
theorem dm.off{b:Bool}{t:SetTable}(I:dm b t):dm b { t with plain:=false }:=⟨I.led,I.xO,λh=>by simp at h⟩
theorem i5(j:Nat):SetTable.has #[] j=false:=by simp[SetTable.has]
theorem xw(t:SetTable)(p:SetTable.Probe):(t.advance p).dummy=p.dummy:=by
 unfold SetTable.advance;split<;>rfl
theorem lg{t:SetTable}(hd:t.dummies = #[]){ha:Nat->Int}{h:Int}:∀(fuel:Nat) (p:SetTable.Probe) {j:Nat} {d:Option Nat},p.dummy=none->SetTable.probe.go t ha h fuel p=some (.empty j d)->t.slot j=.empty/\d=none
 |0,p,j,d,_,e=>by cases e
 |fuel+1,p,j,d,hp,e=>by
  rw[SetTable.probe.go]at e;cases hs:t.slot p.j with
  |empty =>
   rw[hs]at e;cases e;exact⟨hs,hp⟩
  |dummy =>
   unfold SetTable.slot at hs;rw[hd,i5]at hs;dsimp only at hs;split at hs
   ·cases hs
   ·simp at hs
  |live i =>
   rw[hs]at e;dsimp only at e;split at e
   ·cases e
   ·exact lg hd fuel _ ((xw t p).trans hp) e
theorem dm.layNew{b:Bool}{t:SetTable}(I:dm b t)(es:Array (Int×Value))(h:Int)(x:Value):dm b (layNew t es h x).2.1:=by
 unfold PySem.layNew;cases hf:t.freeSlot h with
 |none=>exact I.standIn _
 |some z =>
  obtain⟨slot,wd⟩:=z;dsimp only;have key:t.slot slot=.empty:=by
   unfold SetTable.freeSlot at hf;split at hf
   ·rename_i j d hm;obtain⟨e1,e2⟩:=lg I.xO _ _ (by rfl) (show SetTable.probe.go t _ h (10*SetTable.turns t.mask) (t.probeStart h)=_ from hm);subst e2;cases hf;exact e1
   ·cases hf
  have zh:t.place[SetTable.below t.place slot]?≠some slot:=λz=>by
   unfold SetTable.slot at key;dsimp only at key;rw[if_pos (by rw[z];simp)]at key;cases key
  have P:dm b (t.put slot).1:=⟨I.led,by
   show(if SetTable.has t.dummies slot then _ else t.dummies)=_;rw[I.xO,i5];rfl,λhp=>(I.rise hp).insert zh⟩
  unfold SetTable.orStandIn;split
  ·exact P
  ·exact P.standIn _
theorem dm.K2{b:Bool}{t:SetTable}(I:dm b t)(es:Array (Int×Value))(n:Nat):dm b (relayAll t es n).2.1:=by
 unfold relayAll;cases hr:t.relaid (es.map (·.1)) n with
 |none=>exact I.standIn _
 |some z =>
  obtain⟨t',order⟩:=z;dsimp only;have P:dm b t':=by
   unfold SetTable.relaid SetTable.laid at hr;cases ho:SetTable.layClean (SetTable.sizeAbove n - 1) (es.map (·.1))with
   |none=>rw[ho]at hr;cases hr
   |some ow =>
    rw[ho]at hr;cases hr;refine⟨I.led,rfl,λ_=>ux ?_⟩;rw[List.pairwise_map];refine List.Pairwise.filterMap _ ?_ (Zy (n:=SetTable.sizeAbove n - 1+1));intro a a' RD x hx y hy;obtain⟨x',_,rfl⟩:=Option.map_eq_some_iff.mp hx;obtain⟨y',_,rfl⟩:=Option.map_eq_some_iff.mp hy;exact RD
  split
  ·exact P
  ·exact I.standIn _
variable {prog:ax}{w:World}{A:ay}{E:av}{s:Shared}
noncomputable def pO(prog:ax)(w:World)(b:Bool)(h:Heap)(a:Addr)(S:Int->Bool)(n:Nat):Prop :=
 ∃o es ep t,h.get? a=some o/\o.ExactSet/\o.data=Data.set es ep t/\ElemsOf (intKind prog w) es.toList/\(∀k,S k=true ↔ ∃e∈es.toList,(intKind prog w).is k e.2=true)/\es.size<scanBound/\t.fits es.size=true/\es.size=n/\dm b t
theorem pO.keep{b:Bool}{h h':Heap}{a:Addr}{S:Int->Bool}{n:Nat}(x:pO prog w b h a S n)(k:∀o,h.get? a=some o->h'.get? a=some o):pO prog w b h' a S n :=
 let ⟨o,es,ep,t,e,r⟩:=x;⟨o,es,ep,t,k _ e,r⟩
variable {ep:Nat}{o:Obj}
theorem kc{h:Heap}{a:Addr}{es:Array (Int×Value)}{t:SetTable}(ho:h.get? a=some o)(hd:o.data=.set es ep t)(w9:Array (Int×Value))(t':SetTable):
  (h.update a (Obj.putSet w9 t')).get? a=some { o with data:=.set w9 (ep+1) t' }:=by
 have e:=putSet_of w9 t' hd;have:=Y5 (Obj.putSet w9 t') ho (by rw[e];rfl)
 rwa [e]at this
theorem qa{b:Bool}{g:Bool->Sem Unit}(hg:∀(c:Bool) (s₁:Shared) (Q':Unit->Shared->Prop),Q' () s₁->wpAny (model prog w) A (g c) Q' E s₁){a:Addr}{es eu:Array (Int×Value)}{t t2:SetTable}{wd:Bool}{R:Option Bool->Shared->Prop}(ho:s.heap.get? a=some o)(hd:o.data=.set es ep t)(hz:eu.size<scanBound)(hf:t2.fits eu.size=true)(I:dm b t2)
  (h:∀h' mJ xa t3,Heap.SameBut a s.heap h'->h'.get? a=some { o with data:=.set mJ xa t3 }->mJ.toList.Perm eu.toList->t3.fits mJ.size=true->dm b t3->R (some true) { s with heap:=h' }) :
  wpAny (model prog w) A (do storeSet a eu t2;if (!wd&&t2.tooFull)=true then do { g (relayAll t2 eu (SetTable.grown eu.size)).2.2;storeSet a (relayAll t2 eu (SetTable.grown eu.size)).1 (relayAll t2 eu (SetTable.grown eu.size)).2.1;pure (some true) } else pure (some true)) R E s:=by
 have zl:eu.size<=sizeLine:=by rw[sizeLine_eq];unfold scanBound at hz;omega
 refine Yj (ZX ho hd ?_ zl);have g1:=kc ho hd eu t2;have s1:=YI s.heap a (Obj.putSet eu t2);by_cases c:(!wd&&t2.tooFull)=true
 ·rw[if_pos c];have p1:=relayAll_perm t2 eu (SetTable.grown eu.size);have f1:=relayAll_fits t2 eu (SetTable.grown eu.size);have i1:=I.K2 eu (SetTable.grown eu.size);generalize relayAll t2 eu (SetTable.grown eu.size)=X at *;have zs:X.1.size=eu.size:=by simpa using p1.length_eq
  refine Yj (hg _ _ _ (Yj (ZX g1 rfl (Yk ?_) (by left))));exact h _ X.1 _ X.2.1 (s1.trans (YI _ a _)) (kc g1 rfl X.1 X.2.1) p1 f1 i1
 ·rw[if_neg c];exact Yk (h _ eu _ t2 s1 g1 (Zn _) hf I)
theorem add_int{b:Bool}{a:Addr}{S:Int->Bool}{n:Nat}{k:Int}{tk:Tok}{Q:Bool->Shared->Prop}(hS:pO prog w b s.heap a S n)(room:n+1<scanBound)
  (h:∀h',Heap.SameBut a s.heap h'->pO prog w b h' a (λz=>S z||decide (z=k)) (if S k then n else n+1)->Q (!S k) { s with heap:=h' }) :
  wpAny (model prog w) A (setAddHashed a (.int k tk) ((intKind prog w).hash k)) Q E s:=by
 obtain⟨o,es,ep,t,ho,hex,hd,OL,hm,hz,hf,rfl,I⟩:=hS;have hk:(intKind prog w).is k (.int k tk)=true:=intKind_is _ _ _ _;unfold setAddHashed setAddHashedIn;refine YD (Yj (YM ho hd hf ?_));dsimp only;rw[byScan_of (x:=.int k tk) rfl hz OL,if_pos rfl];unfold setAddByScan;refine Yj (Yj (ZF (Yj (wpAny_setScan_of hk ho hd hf OL ?_))));cases hr:List.findIdx? (λe=>(intKind prog w).is k e.2) es.toList with
 |some j =>
  obtain⟨hj,pj,_⟩:=List.findIdx?_eq_some_iff_getElem.mp hr;have sk:S k=true:=(hm k).mpr ⟨_,Y4 hj,pj⟩;have q:=h s.heap (Heap.SameBut.refl a s.heap) ⟨o,es,ep,t,ho,hex,hd,OL,λz=>by
   rw[Bool.or_eq_true,decide_eq_true_eq,<- hm z];exact⟨λy=>y.elim id λe=>by rw[e];exact sk,.inl⟩,hz,hf,by rw[sk];rfl,I⟩
  rw[sk]at q;exact Yk (Yk q)
 |none =>
  have sk:S k=false:=by
   cases c:S k with
   |false=>rfl
   |true =>
    obtain⟨e,he,pe⟩:=(hm k).mp c;rw[List.findIdx?_eq_none_iff.mp hr e he]at pe;cases pe
  have p1:=layNew_perm t es ((intKind prog w).hash k) (.int k tk);have f1:=layNew_fits t es ((intKind prog w).hash k) (.int k tk);have i1:=I.layNew es ((intKind prog w).hash k) (.int k tk);generalize layNew t es ((intKind prog w).hash k) (.int k tk)=L at *;obtain⟨eu,t1,wd,gv⟩:=L;dsimp only at p1 f1 i1 ⊢;rw[Array.toList_push]at p1;have zs:eu.size=es.size+1:=by simpa using p1.length_eq
  have fin:∀h' mJ xa t3,Heap.SameBut a s.heap h'->h'.get? a=some { o with data:=.set mJ xa t3 }->mJ.toList.Perm eu.toList->t3.fits mJ.size=true->dm b t3->Q true { s with heap:=h' }:=λh' mJ xa t3 sb e p3 f3 i3=>by
   have zz:mJ.size=es.size+1:=by have:=p3.length_eq;simp at this;left
   have q:=h h' sb ⟨_,mJ,xa,t3,e,hex,rfl,(OL.push hk rfl).perm (p3.trans p1),mem_push_iff hk hm (p3.trans p1),by left,f3,by rw[sk];exact zz,i3⟩;rw[sk]at q;exact q
  have gw:∀(c:Bool) (s₁:Shared) (Q':Unit->Shared->Prop),Q' () s₁->wpAny (model prog w) A (match c with|true=>rule "set.scan.the-table-gave-way" |false=>pure ()) Q' E s₁:=λc s₁ Q' q=>by
   cases c with
   |true=>exact ZF q
   |false=>exact Yk q
  refine Yj (gw _ _ _ ?_);split
  ·rw[hashByValue_scannable 8 (x:=.int k tk) rfl];refine Yj (Yk ?_);refine qa gw ho hd (by left) ?_ ?_ λh' mJ xa t3 a1 a2 a3 a4 a5=>Yk (fin h' mJ xa t3 a1 a2 a3 a4 a5)
   ·split
    ·exact f1
    ·exact SetTable.fits_plain_off f1
   ·split
    ·exact i1
    ·exact i1.off
  ·refine Yj (Yk ?_);rw[if_pos rfl];exact qa gw ho hd (by left) f1 i1 λh' mJ xa t3 a1 a2 a3 a4 a5=>Yk (fin h' mJ xa t3 a1 a2 a3 a4 a5)
end SX
end
section
namespace SX
open PySem PyProof.Rows
noncomputable def rJ(w:World):Bool:=w.params.followText "set-order"
abbrev ju(w:World):Obj:={ cls:=.type "set",dict:=none,data:=.set #[] 0 (.fresh 0 0 (!rJ w)) }
section
variable {prog:ax}{w:World}{A:ay}{R:Result->Shared->Prop}{I:Addr}{fp wr:aM}{G:Array GenState->Array GenState->Prop}{n:Nat}{P:Nat->Value->Prop}{St:Nat->Shared->Prop}
theorem IP(W:WalksS prog w A.in1 I fp wr G n P St)(D:Addr)(hD:D∉fp)(T:Nat->Heap->Prop)(hT:∀i h h',T i h->(∀b o,b∉wr->h.get? b=some o->h'.get? b=some o)->T i h')
  (HY:∀i v (s:Shared) (Q:Bool->Shared->Prop) (E:av),i<n->P i v->T i s.heap->(∀h' tk z,s.toks<=tk->Heap.SameBut D s.heap h'->T (i+1) h'->Q z { s with heap:=h',toks:=tk })->wpAny (model prog w) A.in1 (setAdd D v) Q E s):∀(k i:Nat) (s:Shared),i+k=n->St i s->T i s.heap ->
   (∀s',Moved (D::wr) G s s'->T n s'.heap->R (.ok (.ret .none)) s') ->
   codeAny (model prog w) A (.builtin "set.update.loop" ⟨[.ref D,.ref I],[]⟩) R s:=by
 have up:∀c∈wr,c∈D::wr:=λc h=>Yq _ h;intro k;induction k with
 |zero =>
  intro i s hk st hS hR;obtain rfl:i=n:=by left
  refine Y2 F.entry_set_update_loop ?_;rw[Around.under_plainId F.plain_set_update_loop _];refine(show wpAny _ A.in1 (pyNext (.ref I) >>= _) _ _ s from Yj (W.done s _ _ st λs' m=>?_));exact(show wpAny _ A.in1 (ret Value.none) _ _ s' from Yk (hR s' (m.mono up) (hT _ _ _ hS m.heap)))
 |succ k ih =>
  intro i s hk st hS hR;have hi:i<n:=by left
  refine Y2 F.entry_set_update_loop ?_;rw[Around.under_plainId F.plain_set_update_loop _];refine(show wpAny _ A.in1 (pyNext (.ref I) >>= _) _ _ s from Yj (W.item i s _ _ hi st λv s' p kY m=>?_));refine(show wpAny _ A.in1 (holding [v] (setAdd D v) >>= _) _ _ s' from Yj (YD ?_));refine HY i v s' _ _ hi p (hT _ _ _ hS m.heap) λh' tk z Q8 sb ON=>?_;refine Yk ⟨Z6 F.plain_set_update_loop _,ih (i+1) _ (by left) (W.frame _ s' _ _ kY Q8 λc hc o e=>?_) ON λs2 m2 WQ=>hR s2 (Moved.trans W.gtrans ((m.mono up).then_heap Q8 λc o hc e=>?_) m2) WQ⟩
  ·rw[sb.2 c λz:c=D=>hD (z▸hc)];exact e
  ·rw[sb.2 c λz:c=D=>hc (by rw[z];exact List.mem_cons_self)];exact e
end
variable {Q:Value->Shared->Prop}{aC:ai}
section
variable {prog:ax}{w:World}{A:ay}{E:av}{s:Shared}
theorem BZ(v:Value)(h:Q (.ref s.heap.objs.size) { s with heap:=s.heap.push (ju w) }):codeAny (model prog w) A (.call (.builtin "set.__new__") ⟨[.type "set",v],[]⟩) (wants Q E) s:=by
 refine codeAny_of_tree (show wpAny _ A.in1 (do checkBuiltinCall "set.__new__" ⟨[.type "set",v],[]⟩;again (.builtin "set.__new__" ⟨[.type "set",v],[]⟩)) _ _ s from Yj (wpAny_of_eq (F.newCall_set_1 v) (Yk ⟨Z6 F.plain_set_new _,Y2 F.entry_set_new ?_⟩)));rw[Around.under_plainId F.plain_set_new _];unfold Builtin.«set.__new__» Builtin.Frozenset.newClass;have e:=sub_set_self;obtain⟨hp,g,d,tk,os⟩:=s;dsimp only at h ⊢
 wp_walk
 refine wpAny_askSetting (Yk ?_);dsimp only;simp only[newObj];exact Yj (wpAny_alloc (Yk (Yk h)))
theorem w4{h:Heap}{a:Addr}(e:h.get? a=some (ju w))(f:Nat->Int):pO prog w (!rJ w) h a (λz=>(firstMet f 0).any (· == z)) (firstMet f 0).length :=
 ⟨_,#[],0,_,e,⟨rfl,rfl,rfl⟩,rfl,λx hx=>by simp at hx,λk=>by simp[firstMet_zero],by decide,rfl,rfl,.fresh _⟩
theorem mY{l:Addr}{T:Nat->Heap->Prop}(hh:A.handled=none)(hl:s.heap.IsList l aC.toArray)(hT:∀i h h',T i h->(∀b o,b≠s.heap.objs.size+1->h.get? b=some o->h'.get? b=some o)->T i h')
  (h0:∀h',(∀b o,s.heap.get? b=some o->h'.get? b=some o)->h'.get? s.heap.objs.size=some (ju w)->T 0 h')
  (HY:∀(i:Nat) (v:Value) (s1:Shared) (Q:Bool->Shared->Prop) (E:av),aC[i]?=some v->T i s1.heap->(∀h' tk z,s1.toks<=tk->Heap.SameBut s.heap.objs.size s1.heap h'->T (i+1) h'->Q z { s1 with heap:=h',toks:=tk })->wpAny (model prog w) A.in1.in1.in1 (setAdd s.heap.objs.size v) Q E s1)
  (h:∀(h':Heap) (tk:Nat),T aC.length h'->(∀b o,b<s.heap.objs.size->s.heap.get? b=some o->h'.get? b=some o)->Q (.ref s.heap.objs.size) { s with heap:=h',toks:=tk }) :
  wpAny (model prog w) A (call (.type "set") [.ref l]) Q E s:=by
 obtain⟨c,tl,k1⟩:=F.called_set.mro;have k2:=F.called_set.made;have k3:=F.called_set.sub;have k4:=F.called_set.notType;have k5:=F.called_set.canCreate;have k6:=F.typeCall_set_1 (.ref l);refine wpAny_call (codeAny_of_tree (show wpAny _ _ (callAny (.type "set") _) _ _ _ from Yk ⟨aax _ (by decide +kernel),Y2 F.entry_type_call ?_⟩));rw[Around.under_plain (weight_type_call_type "set" [.ref l] []) rfl]
 repeat (any_goals (first|assumption|wp_step))
 refine ZA (BZ (.ref l) (E:=E) (Q:=λz s₁=>z=.ref s.heap.objs.size/\s₁={ s with heap:=s.heap.push (ju w) }) ⟨rfl,rfl⟩) λr s₁ hr=>?_;cases r with
 |error e=>exact hr
 |ok fl =>
  cases fl with
  |next=>exact hr.elim
  |brk=>exact hr.elim
  |cont=>exact hr.elim
  |ret z =>
   obtain⟨rfl,rfl⟩:=hr;have g1:(s.heap.push (ju w)).get? s.heap.objs.size=some (ju w):=Yt _ rfl;have g2:Shared.TypeIs { s with heap:=s.heap.push (ju w) } (.ref s.heap.objs.size) "set":=⟨_,g1,rfl⟩
   have g3:=F.called_set.init.lookup;have g4:=F.called_set.init.bind (.ref s.heap.objs.size)
   repeat (any_goals (first|assumption|wp_step))
   refine ZA (codeAny_call_builtin (R:=wants (λr s₂=>r=.none/\∃h' tk,s₂={ s with heap:=h',toks:=tk }/\T aC.length h'/\∀b o,b<s.heap.objs.size->s.heap.get? b=some o->h'.get? b=some o) E) F.called_set.init.plain F.entry_set_init (check_set_init_1 g2 ?_)) λr₂ s₂ gc=>?_
   ·obtain⟨ot,C1,MP,nt,C6⟩:=hl;obtain⟨oc,od,VM,xD⟩:=ot;simp only at MP C6;subst MP;subst C6;have u1:(s.heap.push (ju w)).get? l=some { cls:=.type "list",dict:=od,data:=.seq aC.toArray nt,slots:=xD }:=Ym _ C1;have u2:=F.sub_list_set;have u3:=F.sub_list_frozenset;have u4:(Value.type "list" == Value.type "dict")=false:=by decide
    have u5:(s.heap.push (ju w)).IsList l aC.toArray:=⟨_,u1,rfl,nt,rfl⟩
    unfold Builtin.«set.__init__» noKeywords Builtin.Frozenset.updateFrom;generalize RH:pyIter=PI
    wp_walk
    subst RH;refine aaE u5 (Yj (aau ?_));have u6:l<s.heap.objs.size:=Yr C1;have u7:A.in1.in1.in1.handled=none:=by simp[hh]
    have hz:(s.heap.push (ju w)).objs.size=s.heap.objs.size+1:=ZT ..;have u8:l≠(s.heap.push (ju w)).objs.size:=by rw[hz];exact Yv (YA u6)
    have u9:s.heap.objs.size∉[(s.heap.push (ju w)).objs.size,l]:=by
     rw[hz];intro m;simp at m;exact absurd m (Y3 u6)
    refine IP ((Walks.list u7 _ l u8 aC.toArray).toS) s.heap.objs.size u9 T (λi h h' q k=>hT i h h' q λb o hb e=>k b o (by rw[hz];simpa using hb) e) (λi v s1 Q E hi p q k=>HY i v s1 Q E (by simpa using p) q k) aC.toArray.size 0 _ (by left) ⟨⟨_,Yt _ rfl,rfl,rfl⟩,u5.push _⟩ ?hS0 ?hR
    case hS0=>exact h0 _ (λb o e=>Ym _ (Ym _ e)) (Ym _ g1)
    case hR =>
     intro s' hm Ag;obtain⟨h',g',d',Kh,Lp⟩:=s';cases (show g'=s.gens from hm.gens);cases (show d'=s.drawn from hm.drawn);cases (show Lp=s.os from hm.os);rw[List.size_toArray]at Ag;refine Yk (show wpAny _ _ (ret Value.none) _ _ _ from Yk ⟨rfl,h',Kh,rfl,Ag,λb o hb e=>hm.heap b o (λm=>?_) (Ym _ (Ym _ e))⟩);rcases List.mem_cons.mp m with m|m
     ·exact Yv hb m
     ·have m:b=(s.heap.push (ju w)).objs.size:=by simpa using m
      rw[hz]at m;exact Yv (YA hb) m
   ·cases r₂ with
    |error e=>exact gc
    |ok As =>
     cases As with
     |ret r =>
      obtain⟨rfl,h',tk,rfl,Ag,EK⟩:=gc
      repeat (any_goals (first|assumption|wp_step))
      exact h _ _ Ag EK
     |next=>exact gc.elim
     |brk=>exact gc.elim
     |cont=>exact gc.elim
theorem set_list{l:Addr}{ns:aa}(hh:A.handled=none)(hl:s.heap.IsList l aC.toArray)(hi:IntsAre aC ns)(hb:aC.length+1<scanBound)
  (h:∀(h':Heap) (tk:Nat),pO prog w (!rJ w) h' s.heap.objs.size (λz=>(firstMet (λi=>ns.getD i 0) ns.length).any (· == z)) (firstMet (λi=>ns.getD i 0) ns.length).length->(∀b o,b<s.heap.objs.size->s.heap.get? b=some o->h'.get? b=some o)->Q (.ref s.heap.objs.size) { s with heap:=h',toks:=tk }) :
  wpAny (model prog w) A (call (.type "set") [.ref l]) Q E s:=by
 have My:aC.length=ns.length:=hi.length;refine mY (T:=λi h=>pO prog w (!rJ w) h s.heap.objs.size (λz=>(firstMet (λi=>ns.getD i 0) i).any (· == z)) (firstMet (λi=>ns.getD i 0) i).length) hh hl (λi h h' q k=>q.keep λo e=>k _ o (Yv (YJ _)) e) (λh' _ e=>w4 e _) (λi v s1 Q E p q k=>?_) (by rw[My];exact h);obtain⟨t,rfl⟩:=hi.int_at i v p;have MF:i<aC.length:=(List.getElem?_eq_some_iff.mp p).1;unfold setAdd;have room:(firstMet (λi=>ns.getD i 0) i).length+1<scanBound:=by have:=firstMet_length_le (λi=>ns.getD i 0) i;left
 refine YD (Yj ((intKind prog w).pyHash (k:=ns.getD i 0) (intKind_is _ _ _ _) (add_int (s:={ s1 with toks:=s1.toks+1 }) q room λh' sb ON=>?_)));have e1:(λz=>(firstMet (λi=>ns.getD i 0) i).any (· == z)||decide (z=ns.getD i 0))=λz=>(firstMet (λi=>ns.getD i 0) (i+1)).any (· == z):=funext λz=>by rw[firstMet_succ,step_any]
 have e2:(if (firstMet (λi=>ns.getD i 0) i).any (· == ns.getD i 0)then(firstMet (λi=>ns.getD i 0) i).length else(firstMet (λi=>ns.getD i 0) i).length+1)=(firstMet (λi=>ns.getD i 0) (i+1)).length:=by rw[firstMet_succ,step_length]
 rw[e1,e2]at ON;exact k h' _ _ (Y8 _) sb ON
end
theorem cT:Slot "set_iterator" "__next__" "set_iterator.__next__" :=
 .of (owner:="set_iterator") (n:="__next__") (by rw[typeLookup_type,builtinLookup_eq_fast];kernel_rfl) (by decide +kernel) (by decide +kernel) (by decide +kernel) (by first|exact .inl (by decide +kernel)|exact .inr (by decide +kernel)) (by rw[isSubtype_type];kernel_rfl)
theorem ku:entryFor table "set_iterator.__next__" = some Builtin.«set_iterator.__next__»:=entryFor_of_tree (by kernel_rfl)
theorem Et:Manifest.owners.lookup (String.ofList ['r','o','t','a','r','e','t','i','_','t','e','s'].reverse)=some Manifest.sig_set_iterator:=by kernel_rfl
theorem kI(a:Value):argsOk "set_iterator.__next__" ⟨[a],[]⟩:=by
 unfold argsOk;rw[signature?_of (id:="set_iterator.__next__") (n:=['_','_','t','x','e','n','_','_']) (o:=['r','o','t','a','r','e','t','i','_','t','e','s']) (by kernel_rfl) Et]
 kernel_rfl
theorem uj:Slot "set_iterator" "__iter__" "set_iterator.__iter__" :=
 .of (owner:="set_iterator") (n:="__iter__") (by rw[typeLookup_type,builtinLookup_eq_fast];kernel_rfl) (by decide +kernel) (by decide +kernel) (by decide +kernel) (by first|exact .inl (by decide +kernel)|exact .inr (by decide +kernel)) (by rw[isSubtype_type];kernel_rfl)
theorem Dq:entryFor table "set_iterator.__iter__" = some Builtin.«dict_keyiterator.__iter__»:=entryFor_alias (id':="dict_keyiterator.__iter__") (by kernel_rfl) rfl (by decide +kernel) (by kernel_rfl)
theorem DR(a:Value):argsOk "set_iterator.__iter__" ⟨[a],[]⟩:=by
 unfold argsOk;rw[signature?_of (id:="set_iterator.__iter__") (n:=['_','_','r','e','t','i','_','_']) (o:=['r','o','t','a','r','e','t','i','_','t','e','s']) (by kernel_rfl) Et]
 kernel_rfl
theorem Dr:entryFor table "set.__iter__" = some Builtin.«frozenset.__iter__»:=entryFor_alias (id':="frozenset.__iter__") (by kernel_rfl) rfl (by decide +kernel) (by kernel_rfl)
def SI(h:Heap)(it:Addr)(first:Value)(i:Nat)(a:Addr)(n ep:Nat):Prop:=∃o,h.get? it=some o/\o.cls=.type "set_iterator" /\ o.data=.fields #[first,.int i 0,.ref a,.int n 0,.int ep 0]
variable {prog:ax}{w:World}{A:ay}{E:av}{s:Shared}
variable {ep slot:Nat}{first:Value}{it:Addr}
theorem SI.typ{a:Addr}{i n:Nat}(x:SI s.heap it first i a n ep):s.TypeIs (.ref it) "set_iterator":=let ⟨o,e,c,_⟩:=x;⟨o,e,c⟩
variable {h':Heap}
theorem SI.keep{h:Heap}{a:Addr}{i n:Nat}(x:SI h it first i a n ep)(k:∀o,h.get? it=some o->h'.get? it=some o):SI h' it first i a n ep:=let ⟨o,e,c⟩:=x;⟨o,k _ e,c⟩
theorem SI.yC{h:Heap}{a:Addr}{v:Value}{i n:Nat}(x:SI h it first i a n ep):SI (h.update it (Obj.mapFields (·.setIfInBounds 0 v))) it v i a n ep :=
 let ⟨_,e,c,d⟩:=x;⟨_,Y5 _ e (aab (aaz d _)),(aaI ..).trans c,by rw[Obj.data_mapFields d];simp⟩
theorem SI.B1{h:Heap}{a:Addr}{i n:Nat}(x:SI h it first i a n ep):SI (h.update it (Obj.mapFields (·.setIfInBounds 1 (rawInt ((i:Int)+1))))) it first (i+1) a n ep :=
 let ⟨_,e,c,d⟩:=x;⟨_,Y5 _ e (aab (aaz d _)),(aaI ..).trans c,by rw[Obj.data_mapFields d];simp[rawInt]⟩
structure pS(h:Heap)(a:Addr)(es:Array (Int×Value))(ep:Nat)(t:SetTable):Prop where
 obj:∃o,h.get? a=some o/\o.ExactSet/\o.data=.set es ep t
 fit:t.fits es.size=true
theorem pS.keep{h:Heap}{a:Addr}{es:Array (Int×Value)}{t:SetTable}(x:pS h a es ep t)(k:∀o,h.get? a=some o->h'.get? a=some o):pS h' a es ep t:=let ⟨⟨o,e,r⟩,f⟩:=x;⟨⟨o,k _ e,r⟩,f⟩
theorem ue{h0:Heap}{s:Shared}{Q:Option Value->Shared->Prop}(hh:A.handled=none)(hx:Heap.ExtBut it h0 s.heap)(hQ:∀h',Heap.ExtBut it h0 h'->Q none { s with heap:=h' }):
  wpAny (model prog w) A.in1 (do raiseNew (<- newExc (.type "StopIteration") [])) (λfin s'=>∃v,fin=Fin.done (Flow.ret v)/\wpAny (model prog w) A (pure (some v)) Q E s') (λe s'=>wpAny (model prog w) A (do if <- isInstance e (.type "StopIteration")then pure none else throw e) Q E s') s:=by
 refine Yj ?_;simp only[newExc,newTuple];refine Yj (YO ?_ (by size_fits));refine Yj (m:=firstArgMember _ _) (wpAny_of_eq (a:=Value.none) (by first|rfl | (simp only[firstArgMember];rfl)) ?_);refine YO ?_ (by size_fits);simp only[raiseNew];refine Yj (wpAny_handled ?_);rw[show A.in1.handled=none from hh];refine Yj (Yk (wpAny_throw ?_));refine Yj (Zq (T:="StopIteration") (b:=true) ⟨_,Yt _ rfl,rfl⟩ isSubtype_stop ?_);exact Yk (hQ _ ((hx.push _).push _))
theorem zi{a:Addr}{i nx:Nat}{es:Array (Int×Value)}{t:SetTable}{x:Value}{Q:Option Value->Shared->Prop}(hI:SI s.heap it (.int slot 0) i a es.size ep)(hS:pS s.heap a es ep t)
  (hn:∀(E:av) (Q':Option (Value×Nat)->Shared->Prop),Q' (some (x,nx)) s->wpAny (model prog w) A.in1 (setNext a slot i ep) Q' E s)
  (hQ:∀h',SI h' it (.int nx 0) (i+1) a es.size ep->Heap.ExtBut it s.heap h'->Q (some x) { s with heap:=h' }):wpAny (model prog w) A (pyNext (.ref it)) Q E s:=by
 obtain⟨o,ho,hc,hd⟩:=id hI;obtain⟨⟨os,hos,hex,hds⟩,hf⟩:=id hS;unfold pyNext;refine Yj (ZJ (YZ (name:=Str.ofString "__next__") hI.typ cT (YE cT hI.typ ku ?_ (kI _))));unfold Builtin.«set_iterator.__next__»;refine Yj (Yk (Yj (ZC ho hd ?_)));dsimp only;refine Yj (Zs hos hds hf ?_);rw[if_neg (by simp)];rw[Int.toNat_natCast,Int.toNat_natCast,Int.toNat_natCast];refine Yj (hn _ _ ?_);dsimp only;have e1:=hI.yC (v:=rawInt (nx:Int));have e2:=e1.B1;obtain⟨o1,xH,WD,OM⟩:=id e1;refine Yj (Zc ho hd (by simp) (Yj (Zc xH OM (by simp) ?_)));exact Yk ⟨_,rfl,Yk (hQ _ e2 ((YI ..).trans (YI ..)).extBut)⟩
theorem Dl{a:Addr}{i:Nat}{es:Array (Int×Value)}{t:SetTable}{Q:Option Value->Shared->Prop}(hh:A.handled=none)(hI:SI s.heap it (.int slot 0) i a es.size ep)(hS:pS s.heap a es ep t)
  (hn:∀(E:av) (Q':Option (Value×Nat)->Shared->Prop),Q' none s->wpAny (model prog w) A.in1 (setNext a slot i ep) Q' E s)
  (hQ:∀h',Heap.ExtBut it s.heap h'->Q none { s with heap:=h' }):wpAny (model prog w) A (pyNext (.ref it)) Q E s:=by
 obtain⟨o,ho,hc,hd⟩:=id hI;obtain⟨⟨os,hos,hex,hds⟩,hf⟩:=id hS;unfold pyNext;refine Yj (ZJ (YZ (name:=Str.ofString "__next__") hI.typ cT (YE cT hI.typ ku ?_ (kI _))));unfold Builtin.«set_iterator.__next__»;refine Yj (Yk (Yj (ZC ho hd ?_)));dsimp only;refine Yj (Zs hos hds hf ?_);rw[if_neg (by simp)];rw[Int.toNat_natCast,Int.toNat_natCast,Int.toNat_natCast];refine Yj (hn _ _ (Yj (Zc ho hd (by simp) ?_)));exact ue hh (YI ..).extBut hQ
variable {ps:aQ}
theorem zj{a tp:Addr}{i pl:Nat}{tk:Tok}{es:Array (Int×Value)}{t:SetTable}{x:Int×Value}{Q:Option Value->Shared->Prop}(hI:SI s.heap it (.ref tp) i a es.size ep)(hS:pS s.heap a es ep t)(hT:s.heap.IsTuple tp ps)(hp:ps[i]?=some (.int pl tk))(hx:es[pl]?=some x)
  (hQ:∀h',SI h' it (.ref tp) (i+1) a es.size ep->Heap.ExtBut it s.heap h'->Q (some x.2) { s with heap:=h' }):wpAny (model prog w) A (pyNext (.ref it)) Q E s:=by
 obtain⟨o,ho,hc,hd⟩:=id hI;obtain⟨⟨os,hos,hex,hds⟩,hf⟩:=id hS;obtain⟨ot,C1,_,nt,C6⟩:=id hT;unfold pyNext;refine Yj (ZJ (YZ (name:=Str.ofString "__next__") hI.typ cT (YE cT hI.typ ku ?_ (kI _))));unfold Builtin.«set_iterator.__next__»;refine Yj (Yk (Yj (ZC ho hd ?_)));dsimp only;refine Yj (Zs hos hds hf ?_);rw[if_neg (by simp)];refine Yj (Zd C1 C6 ?_);dsimp only;rw[Int.toNat_natCast,hp];dsimp only;unfold setNextDrawn;refine Yj (Yj (YM hos hds hf ?_));dsimp only;rw[if_neg (by simp),Int.toNat_natCast,hx];dsimp only;refine Yk ?_;refine Yj (Zc ho hd (by simp) ?_);exact Yk ⟨_,rfl,Yk (hQ _ hI.B1 (YI ..).extBut)⟩
theorem Dm{a tp:Addr}{i:Nat}{es:Array (Int×Value)}{t:SetTable}{Q:Option Value->Shared->Prop}(hh:A.handled=none)(hI:SI s.heap it (.ref tp) i a es.size ep)(hS:pS s.heap a es ep t)(hT:s.heap.IsTuple tp ps)(hp:ps[i]?=none)
  (hQ:∀h',Heap.ExtBut it s.heap h'->Q none { s with heap:=h' }):wpAny (model prog w) A (pyNext (.ref it)) Q E s:=by
 obtain⟨o,ho,hc,hd⟩:=id hI;obtain⟨⟨os,hos,hex,hds⟩,hf⟩:=id hS;obtain⟨ot,C1,_,nt,C6⟩:=id hT;unfold pyNext;refine Yj (ZJ (YZ (name:=Str.ofString "__next__") hI.typ cT (YE cT hI.typ ku ?_ (kI _))));unfold Builtin.«set_iterator.__next__»;refine Yj (Yk (Yj (ZC ho hd ?_)));dsimp only;refine Yj (Zs hos hds hf ?_);rw[if_neg (by simp)];refine Yj (Zd C1 C6 ?_);dsimp only;rw[Int.toNat_natCast,hp];dsimp only;have e1:=hI.yC (v:=rawInt 0);obtain⟨o1,xH,WD,OM⟩:=id e1;refine Yj (Zc ho hd (by simp) (Yj (Zc xH OM (by simp) ?_)));exact ue hh ((YI ..).trans (YI ..)).extBut hQ
theorem um{a:Addr}{i n:Nat}(hI:SI s.heap it first i a n ep)(h:Q (.ref it) s):wpAny (model prog w) A (pyIter (.ref it)) Q E s:=by
 refine aaG hI.typ uj (YE uj hI.typ Dq ?_ (DR _));show wpAny _ _ (ret (.ref it)) _ _ s;exact Yk ⟨_,rfl,"set_iterator",_,hI.typ,cT.lookup,h⟩
variable {prog:ax}{w:World}{A:ay}{E:av}{s:Shared}
theorem kB{Q:Bool->Shared->Prop}(h:Q (rJ w) s):wpAny (model prog w) A setsByText Q E s:=by
 unfold setsByText;exact Yj (wpAny_askSetting (Yk h))
theorem lQ{α:Type}:∀(l:List α) (i:Nat) (h:i<l.length),(l[i]::l.eraseIdx i).Perm l
 |x::l,0,_=>Zn _
 |x::l,i+1,h=>by
  show(l[i]'(by simpa using h)::x::l.eraseIdx i).Perm (x::l);exact(List.Perm.swap x _ _).trans (List.Perm.cons x (lQ l i (by simpa using h)))
theorem uG{α:Type}(f:Nat->Nat):∀(n k:Nat) (l:List α) (out:Array α),l.length=n->(pickOrder.go f n k l out).toList.Perm (out.toList++l)
 |0,k,l,out,h=>by
  obtain rfl:l=[]:=List.length_eq_zero_iff.mp h;rw[pickOrder.go,List.append_nil]
 |n+1,k,l,out,h=>by
  rw[pickOrder.go];have hl:f k % l.length<l.length:=ZH _ (by left);rw[List.getElem?_eq_getElem hl];dsimp only;refine(uG f n (k+1) _ _ (by rw[List.length_eraseIdx_of_lt hl];left)).trans ?_;rw[Array.toList_push,List.append_assoc];exact List.Perm.append_left _ (lQ l _ hl)
theorem wC{α:Type}(f:Nat->Nat)(xs:Array α):(pickOrder f xs).toList.Perm xs.toList:=by
 have:=uG f xs.size 0 xs.toList #[] (by simp);simpa [pickOrder]using this
theorem Cy(hb:rJ w=true){a:Addr}{es:Array (Int×Value)}{i:Nat}{t:SetTable}(hS:pS s.heap a es ep t){Q:Option (Value×Nat)->Shared->Prop}(h:Q (((pickOrder (w.params.setOrder a ep) es)[i]?).map λe=>(e.2,0)) s):wpAny (model prog w) A (setNext a 0 i ep) Q E s:=by
 obtain⟨⟨o,ho,hex,hd⟩,hf⟩:=hS;unfold setNext;refine Yj (YM ho hd hf ?_);dsimp only;refine Yj (kB ?_);rw[hb,if_pos rfl,if_neg (by simp)];refine Yj ?_;unfold setWalk;refine Yj (YM ho hd hf ?_);dsimp only;refine Yj (kB ?_);rw[hb,if_pos rfl];exact Yj (wpAny_askSetting (Yk (Yk h)))
noncomputable def slotAt(xs:Array Nat):Nat->Nat
 |0=>0
 |i+1=>xs.getD i 0+1
theorem below_at{xs:Array Nat}(hr:fJ xs):∀{i:Nat},i<=xs.size->SetTable.below xs (slotAt xs i)=i
 |0,_=>by
  obtain⟨_,h2,_⟩:=gm hr 0;show SetTable.below xs 0=0;cases e:SetTable.below xs 0 with
  |zero=>rfl
  |succ k=>have:=h2 0 (by left);left
 |i+1,hi=>by
  obtain⟨h1,h2,h3⟩:=gm hr (xs.getD i 0+1);show SetTable.below xs (xs.getD i 0+1)=i+1;generalize SetTable.below xs (xs.getD i 0+1)=r at *;rcases Zz r (i+1)with c|c|c
  ·have:=h3 r (Ys _) (by left);rcases Y6 (show r<=i by left)with d|d
   ·have:=hr r i d (by left);left
   ·rw[d]at this;left
  ·exact c
  ·have:=h2 (i+1) c;have:=hr i (i+1) (by left) (by left);left
theorem Cz(hb:rJ w=false){a:Addr}{es:Array (Int×Value)}{i:Nat}{t:SetTable}(hS:pS s.heap a es ep t)(I:dm true t)(hp:(!t.plain&&decide (es.size>1))=false)(hi:i<=es.size){Q:Option (Value×Nat)->Shared->Prop}(h:Q ((es[i]?).map λe=>(e.2,slotAt t.place (i+1))) s):wpAny (model prog w) A (setNext a (slotAt t.place i) i ep) Q E s:=by
 obtain⟨⟨o,ho,hex,hd⟩,hf⟩:=hS;have fz:t.place.size=es.size:=by unfold SetTable.fits at hf;simp at hf;exact hf.1
 have hr:fJ t.place:=by
  cases c:t.plain with
  |true=>exact I.rise c
  |false =>
   rw[c]at hp;simp at hp;intro x y h1 h2;left
 unfold setNext;refine Yj (YM ho hd hf ?_);dsimp only;refine Yj (kB ?_);rw[hb,if_neg (by simp)];refine aai (λc=>?_) λ_=>?_
 ·have c':(!t.plain&&decide (es.size>1))=true:=c;rw[hp]at c';cases c'
 ·refine Yj ?_;show wpAny _ _ (if (!t.led&&!es.isEmpty)=true then _ else _) _ _ s;rw[if_neg (by rw[I.led];simp)];refine Yk ?_;rw[below_at hr (by left)];refine Yk ?_;by_cases c:i<es.size
  ·rw[Array.getElem?_eq_getElem c]at h ⊢;rw[Array.getElem?_eq_getElem (show i<t.place.size by left)];have e:slotAt t.place (i+1)=t.place[i]+1:=by
    show t.place.getD i 0+1=_;simp[show i<t.place.size by left]
   rw[e]at h;exact h
  ·rw[Array.getElem?_eq_none (by left)]at h ⊢;exact h
theorem rV{src:Source}{n:Nat}(hn:0<n){Q:Nat->Shared->Prop}(h:∀i,i<n->Q i { s with drawn:=s.drawn.bump src }):wpAny (model prog w) A (choose src n) Q E s:=λΓ p _=>by
 unfold choose;rw[Sem.wp_choose];exact⟨by left,h _ (ZH _ hn)⟩
theorem nE{α:Type}:∀(n:Nat) (xs:List α) (s:Shared) {Q:List α->Shared->Prop},xs.length=n->(∀out d,out.Perm xs->Q out { s with drawn:=d })->wpAny (model prog w) A (drawOrder n xs) Q E s
 |0,xs,s,Q,hn,h=>by
  obtain rfl:xs=[]:=List.length_eq_zero_iff.mp hn;rw[drawOrder];exact Yk (h [] s.drawn (Zn _))
 |n+1,[],s,Q,hn,h=>by cases hn
 |n+1,x::xs,s,Q,hn,h=>by
  rw[drawOrder]
  ·refine Yj (rV (by simp) λi hi=>?_);rw[List.getElem?_eq_getElem hi];dsimp only;refine Yj (nE n _ _ (by rw[List.length_eraseIdx_of_lt hi];left) λout d p=>Yk (h _ d ?_));exact(List.Perm.cons _ p).trans (lQ _ _ hi)
  ·intro e;cases e
variable {prog:ax}{w:World}{A:ay}{E:av}{s:Shared}
noncomputable abbrev PO(ord:List (Int×Value)):Nat->Value->Prop:=λi v=>(ord[i]?).map (·.2)=some v
theorem xV(hh:A.handled=none){a:Addr}(ne:a≠it){es:Array (Int×Value)}{t:SetTable}{ord:List (Int×Value)}(hl:ord.length=es.size)(sl:Nat->Nat)
  (hn:∀(s:Shared) (i:Nat),i<=es.size->pS s.heap a es ep t->∀(E:av) (Q':Option (Value×Nat)->Shared->Prop),Q' ((ord[i]?).map λe=>(e.2,sl (i+1))) s->wpAny (model prog w) A.in1 (setNext a (sl i) i ep) Q' E s) :
  Walks prog w A it [it,a] [it] es.size (PO ord) (λi h=>SI h it (.int (sl i) 0) i a es.size ep/\pS h a es ep t) where
 sub:=λb hb=>by rw[List.mem_singleton.mp hb];exact Yo
 frame:=λi h h' st k=>⟨st.1.keep λo e=>k it Yo o e,st.2.keep λo e=>k a (by simp) o e⟩
 item:=λi s Q E hi st hQ=>by
  have fb:i<ord.length:=by left
  refine zi (x:=ord[i].2) (nx:=sl (i+1)) st.1 st.2 (λE Q' q=>hn s i (by left) st.2 E Q' (by rw[List.getElem?_eq_getElem fb];exact q)) λh' i1 x=>?_;exact hQ _ h' s.toks (by show(ord[i]?).map (·.2)=_;rw[List.getElem?_eq_getElem fb];rfl) ⟨i1,st.2.keep λo e=>x a o ne e⟩ λb o hb e=>x b o (λz=>hb (by rw[z];exact List.mem_singleton.mpr rfl)) e
 done:=λs Q E st hQ=>Dl hh st.1 st.2 (λE Q' q=>hn s _ (Ys _) st.2 E Q' (by rw[List.getElem?_eq_none (by left)];exact q)) λh' x=>hQ h' s.toks λb o hb e=>x b o (λz=>hb (by rw[z];exact List.mem_singleton.mpr rfl)) e
 self:=λi s Q E st hQ=>um st.1 hQ
theorem xW(hh:A.handled=none){a tp:Addr}(ne:a≠it)(nt:tp≠it){es:Array (Int×Value)}{t:SetTable}{pl:aF}(hp:pl.Perm (List.range es.size)):
  Walks prog w A it [it,a,tp] [it] es.size (PO (pl.map λj=>es.getD j (0,.none))) (λi h=>SI h it (.ref tp) i a es.size ep/\pS h a es ep t/\h.IsTuple tp (pl.map λj:Nat=>rawInt (j:Int)).toArray) where
 sub:=λb hb=>by rw[List.mem_singleton.mp hb];exact Yo
 frame:=λi h h' st k=>⟨st.1.keep λo e=>k it Yo o e,st.2.1.keep λo e=>k a (by simp) o e,let ⟨o,e,r⟩:=st.2.2;⟨o,k tp (by simp) o e,r⟩⟩
 item:=λi s Q E hi st hQ=>by
  have hl:pl.length=es.size:=by rw[hp.length_eq,List.length_range]
  have fb:i<pl.length:=by left
  have hj:pl[i]<es.size:=List.mem_range.mp (hp.mem_iff.mp (Y4 fb));refine zj (pl:=pl[i]) (tk:=0) (x:=es[pl[i]]) st.1 st.2.1 st.2.2 (by simp[fb,rawInt]) (YU hj) λh' i1 x=>?_;exact hQ _ h' s.toks (by show((pl.map λj=>es.getD j (0,.none))[i]?).map (·.2)=_;rw[List.getElem?_map,List.getElem?_eq_getElem fb];simp[hj]) ⟨i1,st.2.1.keep λo e=>x a o ne e,let ⟨o,e,r⟩:=st.2.2;⟨o,x tp o nt e,r⟩⟩ λb o hb e=>x b o (λz=>hb (by rw[z];exact List.mem_singleton.mpr rfl)) e
 done:=λs Q E st hQ=>by
  have hl:pl.length=es.size:=by rw[hp.length_eq,List.length_range]
  exact Dm hh st.1 st.2.1 st.2.2 (by simp[hl]) λh' x=>hQ h' s.toks λb o hb e=>x b o (λz=>hb (by rw[z];exact List.mem_singleton.mpr rfl)) e
 self:=λi s Q E st hQ=>um st.1 hQ
structure nV(s s':Shared):Prop where
 heap:∀b o,s.heap.get? b=some o->s'.heap.get? b=some o
 gens:s'.gens=s.gens
 os:s'.os=s.os
 toks:s.toks<=s'.toks
 size:s.heap.objs.size<=s'.heap.objs.size
theorem zK(hh:A.handled=none){a:Addr}{es:Array (Int×Value)}{t:SetTable}(hS:pS s.heap a es ep t)(I:dm (!rJ w) t)(hz:es.size<scanBound) 
  (h:∀(it:Addr) (s1:Shared) (fp:aM) (ord:List (Int×Value)) (St:Nat->Heap->Prop),Walks prog w A it fp [it] es.size (PO ord) St->St 0 s1.heap->(∀b∈fp,b=a\/s.heap.objs.size<=b)->(∀b∈fp,b<s1.heap.objs.size)->ord.Perm es.toList->nV s s1->s.heap.objs.size<=it->Q (.ref it) s1):wpAny (model prog w) A (pyIter (.ref a)) Q E s:=by
 obtain⟨⟨o,ho,hex,hd⟩,hf⟩:=id hS;have hT:s.TypeIs (.ref a) "set":=⟨o,ho,hex.1⟩
 have al:=Yr ho;refine aaG hT F.slot_set_iter (YE F.slot_set_iter hT Dr ?_ (F.args_set_iter_1 _));unfold Builtin.«frozenset.__iter__»;refine Yj (show wpAny _ _ (Builtin.Frozenset.addrOf (.ref a)) _ _ s from Yk ?_);refine Yj ?_;unfold Builtin.Frozenset.sizeOf;refine Yj (Zs ho hd hf (Yk ?_));refine Yj ?_;unfold setDrawn;refine Yj (YM ho hd hf ?_);dsimp only;refine Yj (kB (Yk ?_));show wpAny _ _ (if (!rJ w&&(!t.plain&&decide (es.size>1)))=true then _ else _) _ _ s;by_cases c:(!rJ w&&(!t.plain&&decide (es.size>1)))=true
 ·rw[if_pos c];refine Yj (nE _ _ s (by simp) λpl d hp=>?_);have Yb:({ s with drawn:=d }:Shared).heap.get? a=some o:=ho;refine Yj ?_;simp only[newTuple];refine YO ?_ (by
   show(pl.map λi:Nat=>rawInt (i:Int)).toArray.size<=_;have:=hp.length_eq;simp at this;rw[List.size_toArray,List.length_map,this,sizeLine_eq];unfold scanBound at hz;omega)
  have xH:=Ym { cls:=.type "tuple",data:=.seq (pl.map λi:Nat=>rawInt (i:Int)).toArray } ho;refine Yj (wpAny_setEpoch_of xH hd hf ?_);refine Yj ?_;unfold newFields;refine YO (Yk ⟨_,rfl,"set_iterator",_,⟨_,Yt _ rfl,rfl⟩,cT.lookup,?_⟩);have z1:∀ob:Obj,(s.heap.push ob).objs.size=s.heap.objs.size+1:=λ_=>ZT ..;refine h _ _ [(s.heap.push { cls:=.type "tuple",data:=.seq (pl.map λi:Nat=>rawInt (i:Int)).toArray }).objs.size,a,s.heap.objs.size] (pl.map λj=>es.getD j (0,.none)) _ (xW (t:=t) (ep:=ep) hh (by rw[z1];exact Yv (YA al)) (by rw[z1];exact Yv (YJ _)) hp) ⟨⟨_,Yt _ rfl,rfl,rfl⟩,hS.keep λo e=>Ym _ (Ym _ e),⟨_,Ym _ (Yt _ rfl),rfl,0,rfl⟩⟩ (λb hb=>?_) (λb hb=>?_) ?_ ⟨λb o e=>Ym _ (Ym _ e),rfl,rfl,Ys _,by show _<=(Heap.push _ _).objs.size;rw[Heap.size_push,z1];exact ZW (Y8 _)⟩ (by rw[z1];exact Y8 _)
  ·simp only[List.mem_cons,List.not_mem_nil,or_false]at hb;rcases hb with e|e|e
   ·rw[e,z1];exact .inr (Y8 _)
   ·exact .inl e
   ·rw[e];exact .inr (Ys _)
  ·show b<(Heap.push _ _).objs.size;rw[Heap.size_push,z1];simp only[List.mem_cons,List.not_mem_nil,or_false]at hb;rcases hb with e|e|e
   ·rw[e,z1];exact YJ _
   ·rw[e];exact YA (YA al)
   ·rw[e];exact YA (YJ _)
  ·refine(hp.map _).trans ?_;have:(List.range es.size).map (λj=>es.getD j (0,.none))=es.toList:=by
    refine Zo (by simp) λi h1 h2=>?_;simp at h1;simp[h1]
   rw[this]
 ·rw[if_neg c];refine Yj (Yk (Yj (wpAny_setEpoch_of ho hd hf (Yj ?_))));unfold newFields;refine YO (Yk ⟨_,rfl,"set_iterator",_,⟨_,Yt _ rfl,rfl⟩,cT.lookup,?_⟩);have fin:∀(ord:List (Int×Value)) (sl:Nat->Nat),sl 0=0->ord.Perm es.toList->(∀(s:Shared) (i:Nat),i<=es.size->pS s.heap a es ep t->∀(E:av) (Q':Option (Value×Nat)->Shared->Prop),Q' ((ord[i]?).map λe=>(e.2,sl (i+1))) s->wpAny (model prog w) A.in1 (setNext a (sl i) i ep) Q' E s)->Q (.ref s.heap.objs.size) { s with heap:=s.heap.push { cls:=.type "set_iterator",data:=.fields #[rawInt 0,rawInt 0,.ref a,rawInt es.size,rawInt ep] } }:=λord sl s0 p hn=>by
   refine h _ _ [s.heap.objs.size,a] ord _ (xV (t:=t) (ep:=ep) hh (Yv al) (by simpa using p.length_eq) sl hn) ⟨⟨_,Yt _ rfl,rfl,by rw[s0];rfl⟩,hS.keep λo e=>Ym _ e⟩ (λb hb=>?_) (λb hb=>?_) p ⟨λb o e=>Ym _ e,rfl,rfl,Ys _,by show _<=(Heap.push _ _).objs.size;rw[Heap.size_push];exact Y8 _⟩ (Ys _)
   ·simp only[List.mem_cons,List.not_mem_nil,or_false]at hb;rcases hb with e|e
    ·rw[e];exact .inr (Ys _)
    ·exact .inl e
   ·show b<(Heap.push _ _).objs.size;rw[Heap.size_push];simp only[List.mem_cons,List.not_mem_nil,or_false]at hb;rcases hb with e|e
    ·rw[e];exact YJ _
    ·rw[e];exact YA al
  cases hb:rJ w with
  |true=>exact fin (pickOrder (w.params.setOrder a ep) es).toList (λ_=>0) rfl (wC _ _) λs i _ hS E Q' q=>Cy hb hS (by rw[<- Array.getElem?_toList];exact q)
  |false =>
   rw[hb]at c I;have c':(!t.plain&&decide (es.size>1))=false:=by simpa using c
   exact fin es.toList (slotAt t.place) rfl (Zn _) λs i hi hS E Q' q=>Cz hb hS I c' hi (by rw[<- Array.getElem?_toList];exact q)
theorem z5{a:Addr}{Q:Bool->Shared->Prop}(hT:s.TypeIs (.ref a) "set")(h:Q false s):wpAny (model prog w) A (Builtin.List.listLengthHint (.ref a)) Q E s:=by
 unfold Builtin.List.listLengthHint;refine Yj (Zi hT F.slot_set_len.lookup ?_);generalize MH:("set.__len__" : String)=id0
 wp_delta
 rw[show splitId id0=some ("set","__len__") from by subst MH;decide +kernel];subst MH;refine Yj (Zq (T:="set") (b:=true) hT sub_set_self ?_);refine aai (λz=>absurd z (by decide)) (λ_=>aai (λ_=>?_) λz=>absurd (by decide +kernel) z);exact Yj (aag hT (Yk h))
variable {prog:ax}{w:World}{A:ay}{E:av}{s:Shared}
theorem zL{ord:List (Int×Value)}{acc:aQ}{n:Nat}(hn:ord.length=n)(h:ItemsOf (PO ord) acc n):acc.toList=ord.map (·.2):=by
 obtain⟨h1,h2⟩:=h;refine aaF λi=>?_;rw[Array.getElem?_toList,List.getElem?_map];by_cases c:i<acc.size
 ·rw[Array.getElem?_eq_getElem c];exact(h2 i _ (YU c)).symm
 ·rw[Array.getElem?_eq_none (by left),List.getElem?_eq_none (by left)];rfl
theorem jR(hh:A.handled=none){a:Addr}{es:Array (Int×Value)}{t:SetTable}(hS:pS s.heap a es ep t)(I:dm (!rJ w) t)(hz:es.size<scanBound){Q:ai->Shared->Prop}(h:∀(ord:List (Int×Value)) (s':Shared),ord.Perm es.toList->nV s s'->Q (ord.map (·.2)) s'):wpAny (model prog w) A (collect (.ref a)) Q E s:=by
 obtain⟨⟨o,ho,hex,hd⟩,hf⟩:=id hS;have al:=Yr ho;have zl:es.size<=sizeLine:=by rw[sizeLine_eq];unfold scanBound at hz;omega
 unfold collect;refine Yj (aau (Y2 F.entry_proto_collect ?_));rw[Around.under_plainId F.plain_proto_collect _];refine(show wpAny _ A.in1 (newList [] >>= λl=>again (.builtin "list.__iadd__" ⟨[l,.ref a],[]⟩)) _ _ s from Yj (YO (Yk ⟨Z6 F.plain_list_iadd _,Y2 F.entry_list_iadd ?_⟩)));rw[Around.under_plainId F.plain_list_iadd _]
 let lo:Obj:={ cls:=.type "list",data:=.seq ([]:ai).toArray }
 have g0:(s.heap.push lo).get? s.heap.objs.size=some lo:=Yt _ rfl;have S1:pS (s.heap.push lo) a es ep t:=hS.keep λo e=>Ym _ e;have T1:Shared.TypeIs { s with heap:=s.heap.push lo } (.ref a) "set":=⟨o,Ym _ ho,hex.1⟩
 show wpAny _ A.in1 (Builtin.List.listExtendWith (.ref s.heap.objs.size) (.ref a) (.ref s.heap.objs.size)) _ _ ({ s with heap:=s.heap.push lo }:Shared);unfold Builtin.List.listExtendWith;refine Yj (aag T1 ?_);have h1:Builtin.List.listSameRef (.ref s.heap.objs.size) (.ref a)=false:=by
  simp[Builtin.List.listSameRef];exact Y3 al
 have h2:(Value.type "set" == Value.type "list")=false:=by decide
 have h3:(Value.type "set" == Value.type "tuple")=false:=by decide
 simp only[h1,h2,h3,Bool.or_false,Bool.false_eq_true,if_false];refine Yj (zK (s:={ s with heap:=s.heap.push lo }) (show A.in1.handled=none from hh) S1 I hz λit s2 fp ord St W st fa fl p G il=>?_);have lz:(s.heap.push lo).objs.size=s.heap.objs.size+1:=ZT ..;have nf:s.heap.objs.size∉fp:=λz=>by
  rcases fa _ z with e|e
  ·exact Y3 al e
  ·rw[show({ s with heap:=s.heap.push lo }:Shared).heap.objs.size=s.heap.objs.size+1 from lz]at e;exact absurd e (Nat.not_succ_le_self _)
 have g2:s2.heap.get? s.heap.objs.size=some lo:=G.heap _ _ g0;have T2:s2.TypeIs (.ref a) "set":=⟨o,G.heap _ _ (Ym _ ho),hex.1⟩
 refine Yj (YD (z5 T2 ?_));have Wc:ord.length=es.size:=by simpa using p.length_eq
 have key:∀(R:Result->Shared->Prop) (h':Heap) (c:Nat),(∀b o,b≠s.heap.objs.size->s2.heap.get? b=some o->h'.get? b=some o)->h'.get? s.heap.objs.size=some { cls:=.type "list",data:=.seq #[] c } ->
   (∀s' c',nV s s'->s'.heap.get? s.heap.objs.size=some { cls:=.type "list",dict:=none,data:=.seq (ord.map (·.2)).toArray c',slots:=#[] }->R (.ok (.ret (.ref s.heap.objs.size))) s') ->
   codeAny (model prog w) A (.builtin "list.extend.loop" ⟨[.ref s.heap.objs.size,.ref it,.ref s.heap.objs.size],[]⟩) R { s2 with heap:=h' }:=λR h' c hk hc hR=>by
  refine codeAny_extend_loopS W.toS zl s.heap.objs.size nf (.ref s.heap.objs.size) es.size 0 _ #[] c (by left) (YQ _) (W.frame 0 _ _ st λb hb o e=>hk b o (λz=>nf (z▸hb)) e) hc (ItemsOf.nil _) λs' acc c' m e ia=>?_;have ea:=zL Wc ia;refine hR s' c' ⟨λb o hb=>?_,m.gens.trans G.gens,m.os.trans G.os,YL G.toks m.toks,ZO (Yr e)⟩ (by rw[<- ea];simpa using e);have hl:=Yr hb;refine m.heap b o (λz=>?_) (hk b o (Yv hl) (G.heap b o (Ym _ hb)));rcases List.mem_cons.mp z with z|z
  ·exact Yv hl z
  ·rw[List.mem_singleton.mp z]at hl;have TZ:(s.heap.push lo).objs.size<=it:=il;rw[lz]at TZ;exact absurd (Yu hl (YL (Y8 _) TZ)) (YG _)
 have fin:∀s' c',nV s s'->s'.heap.get? s.heap.objs.size=some { cls:=.type "list",dict:=none,data:=.seq (ord.map (·.2)).toArray c',slots:=#[] }->wpAny (model prog w) A (load s.heap.objs.size >>= λo=>match o.data with
   |.seq xs _=>pure xs.toList
   |_=>unsupported "internal:collect") Q E s':=λs' c' g e=>Yj (wpAny_load e (Yk (by simpa using h ord s' p g)))
 refine aai (λ_=>?_) λ_=>Yk ⟨Z6 F.plain_extend_loop _,key _ _ 0 (λb o _ e=>e) g2 fin⟩;refine Yj (ZF (Yj ?_));show wpAny _ _ (updateSeq s.heap.objs.size (·.push .none) >>= λ_=>updateSeq s.heap.objs.size (·.pop)) _ _ _;refine Yj (wpAny_updateSeq g2 rfl ?_);have g3:=Y5 (Obj.mapSeq (·.push Value.none)) g2 rfl;refine wpAny_updateSeq (hz:=by seq_fits) g3 rfl ?_;have g4:=Y5 (Obj.mapSeq (·.pop)) g3 rfl;refine Yk ⟨Z6 F.plain_extend_loop _,key _ _ _ (λb o hb e=>?_) g4 fin⟩;exact(Ze _ _ (aat hb)).trans ((Ze _ _ (aat hb)).trans e)
theorem sj(hh:A.handled=none){a:Addr}{es:Array (Int×Value)}{t:SetTable}(hS:pS s.heap a es ep t)(I:dm (!rJ w) t)(hz:es.size<64){ks:aa}(hk:IntsAre (es.toList.map (·.2)) ks) 
  (h:∀(l:Addr) (s':Shared) (out:ai) (ns:aa) (c:Nat),nV s s'->s.heap.objs.size<=l->s'.heap.get? l=some (seqObj "list" out.toArray c)->IntsAre out ns->ns.Perm ks->ns.Pairwise (· <= ·)->Q (.ref l) s'):wpAny (model prog w) A (call (.builtin "sorted") [.ref a]) Q E s:=by
 refine Zk kind_sorted plain_sorted entry_sorted (args_sorted1 _) ?_;unfold Builtin.«sorted»;refine Yj (m:=checkCount "sorted" 1 1 _) (Yk (Yj (jR (A:=A.in1) hh hS I (by unfold scanBound;left) λord s1 p G=>?_)));have ol:ord.length=es.size:=by simpa using p.length_eq
 have Ry:(ord.map (·.2)).length<64:=by rw[List.length_map,ol];exact hz
 refine Yj (ZI ?_ (by rw[sizeLine_eq];left));obtain⟨iH,i1,p1⟩:∃iH,IntsAre (ord.map (·.2)) iH/\iH.Perm ks:=by
  have key:∀{xs ys:ai},xs.Perm ys->∀{ms:aa},IntsAre ys ms->∃ns,IntsAre xs ns/\ns.Perm ms:=λ{xs ys} q=>by
   induction q with
   |nil=>intro ms hm;exact⟨ms,hm,Zn _⟩
   |cons x _ ih =>
    intro ms hm;cases hm with
    |cons k tk hm =>
     obtain⟨ns,n1,n2⟩:=ih hm;exact⟨_,.cons k tk n1,List.Perm.cons _ n2⟩
   |swap x y l =>
    intro ms hm;cases hm with
    |cons k tk hm=>cases hm with
     |cons k' Kh hm=>exact⟨_,.cons k' Kh (.cons k tk hm),List.Perm.swap _ _ _⟩
   |trans _ _ ih1 ih2 =>
    intro ms hm;obtain⟨n2,b1,b2⟩:=ih2 hm;obtain⟨n1,c1,c2⟩:=ih1 b1;exact⟨n1,c1,c2.trans b2⟩
  exact key (p.map _) hk
 have g1:(s1.heap.push (seqObj "list" (ord.map (·.2)).toArray 0)).get? s1.heap.objs.size=some (seqObj "list" (ord.map (·.2)).toArray 0):=Yt _ rfl;have up:s.heap.objs.size<=s1.heap.objs.size:=G.size;show wpAny _ _ _ _ _ ({ s1 with heap:=s1.heap.push (seqObj "list" (ord.map (·.2)).toArray 0) }:Shared);refine Yj (YD (YE slot_list_sort ⟨_,g1,rfl⟩ aah (list_sort_tree g1 i1 Ry λout jM a1 a2 a3=>⟨_,rfl,Yk ⟨_,rfl,?_⟩⟩) (args_list_sort _)));obtain⟨c,e⟩:=sortedHeap_at g1 (out:=out);refine h s1.heap.objs.size _ out.toList jM c ⟨λb o hb=>?_,G.gens,G.os,G.toks,ZO (YH up (Yr e))⟩ up (by simpa using e) a1 (a2.trans p1) a3;have hl:=Yr (G.heap b o hb);refine(sortedHeap_old (Yv hl) (by rw[Heap.size_push];exact YA hl)).trans (Ym _ (G.heap b o hb))
end SX
end
section
namespace DI
open PySem PySem.Spec PyProof.Rows L2
def KA(xs:ae):O D:=match one xs with
 |some x=>match x with
  |.lst _ ds=>match intsOf ds with
   |some ns=>if ns.length<64 then ok (.lst .ow ((sortI (dG ns)).map D.int))else none
   |none=>none
  |_=>none
 |none=>none
theorem FY{xs:ae}{d:D}(h:KA xs=ok d):∃(f:Fl) (ns:aa),xs=[.lst f (ns.map D.int)]/\ns.length<64/\d=.lst .ow ((sortI (dG ns)).map D.int):=by
 unfold KA at h;cases hw:one xs with
 |none=>rw[hw]at h;exact nk h
 |some x =>
  obtain rfl:=cU hw;rw[hw]at h;cases x<;>first|exact nk h | (cases h;done)|skip
  rename_i f ds;have h:(match intsOf ds with|some ns=>if ns.length<64 then ok (D.lst .ow ((sortI (dG ns)).map D.int))else none|none=>none)=ok d:=h;cases hn:intsOf ds with
  |none=>rw[hn]at h;exact nk h
  |some ns =>
   rw[hn]at h;obtain⟨h1,h2⟩:=qU h;cases eU hn;exact⟨f,ns,rfl,h1,h2.symm⟩
theorem lp:∀{a b:aa},a.Nodup->(∀x∈a,x∈b)->b.length=a.length->b.Perm a
 |[],b,_,_,hl=>by rw[List.length_eq_zero_iff.mp hl]
 |x::a,b,hn,hm,hl=>by
  obtain⟨n1,n2⟩:=List.nodup_cons.mp hn;have hx:=hm x Yo;refine(List.perm_cons_erase hx).trans (List.Perm.cons x (lp n2 (λy hy=>?_) ?_))
  ·exact(List.mem_erase_of_ne λz:y=x=>n1 (z▸hy)).mpr (hm y (Yq _ hy))
  ·rw[List.length_erase_of_mem hx,hl];rfl
theorem si{σ:aa}{v:Int}(h:σ.Nodup):(step_dedup σ v).Nodup:=by
 unfold step_dedup;split
 ·exact h
 ·rename_i c;refine List.nodup_append.mpr ⟨h,by simp,λa ha b hb z=>?_⟩;rw[List.mem_singleton.mp hb]at z;subst z;exact c (List.any_eq_true.mpr ⟨a,ha,by simp⟩)
theorem jP(f:Nat->Int):∀n,(firstMet f n).Nodup
 |0=>by rw[firstMet_zero];exact YS
 |n+1=>by rw[firstMet_succ];exact si (jP f n)
theorem lU{prog:ax}{w:World}:∀{l:List (Int×Value)},ElemsOf (intKind prog w) l->∃ks:aa,IntsAre (l.map (·.2)) ks/\∀k,k∈ks ↔ ∃e∈l,(intKind prog w).is k e.2=true
 |[],_=>⟨[],.nil,λk=>by simp⟩
 |e::l,h=>by
  obtain⟨ks,i1,i2⟩:=lU (l:=l) h.tail;obtain⟨⟨k,hk,_⟩,_⟩:=h.head;obtain⟨h0,v⟩:=e;have hv:∃t,v=.int k t:=aaD (show Value.isInt k v=true from hk);obtain⟨t,rfl⟩:=hv;refine⟨k::ks,.cons k t i1,λj=>?_⟩;rw[List.mem_cons,i2];constructor
  ·rintro (rfl|⟨e,he,p⟩)
   ·exact⟨_,Yo,intKind_is _ _ _ _⟩
   ·exact⟨e,Yq _ he,p⟩
  ·rintro ⟨e,he,p⟩;rcases List.mem_cons.mp he with rfl|he
   ·exact .inl ((intKind prog w).inj _ _ _ p (intKind_is _ _ _ _))
   ·exact .inr ⟨e,he,p⟩
variable {X:Cx}
theorem Inv.UW{pins:ak}{σ:St}{H:Hp}{s s':Shared}(I:Inv X pins σ H s)(hh:s'.heap=s.heap)(ho:s'.os=s.os)(hg:s'.gens=s.gens):Inv X pins σ H s' :=
 ⟨I.ok,ho.trans I.os,by rw[hg];exact I.bare,by rw[hh];exact I.base,by rw[hh];exact I.loc,by rw[hh];exact I.cell,I.free,I.gd,by rw[hh];exact I.pin,by rw[hh];exact I.cD,I.len⟩
def Vz(K:ao):af->Hp->VK->Prop:=λxs H Q=>∃(p:Addr) (ns:aa),xs=[.ref p]/\cH K H p (ns.map V.int)/\ns.length<64/\∀l,H l=none->Q (.ref l) (upd H l (.lst ((sortI (dG ns)).map V.int)))
theorem jd:bootBuiltins ("sorted" : Str)=some (.builtin "sorted"):=by decide +kernel
theorem Lh{e:Expr}{t:TA}{p p' pos pos':Pos}(hc:X.calm=true)(HJ:Gl X ("sorted" : Str))(MA:X.mg ("sorted" : Str)=none)(MJ:Gl X ("set" : Str))(Mz:X.mg ("set" : Str)=none)(ha:PA X [e] t)
  (mE:∀es,starEach (e::es) X.env=(false,eval e X.env)::starEach es X.env):PE X (.Call (.Name ("sorted" : Str) p) [.Call (.Name ("set" : Str) p') [e] [] pos'] [] pos) (FI (Vz X.K) t):=by
 intro pins s σ H Q I h;refine YR (cZ I HJ MA jd ?_ (by decide) (by decide));refine Y9 ?_ rfl rfl;show wpAny _ _ (spliced ((false,eval (.Call (.Name ("set" : Str) p') [e] [] pos') X.env)::[])) _ _ s;refine ZP ?_;refine YR (cZ I MJ Mz boot_set ?_ (by decide) (by decide));refine YK (cA (ha pos' pins s σ H _ I h) λus s1 bz=>?_) (mE _) rfl;obtain⟨vs,H1,I1,r1,q1⟩:=bz;obtain⟨a,ns,rfl,hq,hl,q⟩:=q1;obtain⟨u,rfl,ru⟩:=r1.one;cases ru;obtain⟨aC,rv,pl,hz⟩:=I1.list hq;have hle:aC.length=ns.length:=by rw[<- rv.length];simp
 refine SX.set_list (I1.ok.hd hc) (b9 pl) (ns:=ns) (cx rv) (by unfold scanBound;left) λh' tk hS kp=>ZV ?_;change SX.pO X.prog X.w (!SX.rJ X.w) h' s1.heap.objs.size (λz=>(dist ns).any (· == z)) (dist ns).length at hS;obtain⟨o,es,ep,tb,g1,g2,g3,g4,g5,g6,g7,g8,g9⟩:=hS;obtain⟨ks,k1,k2⟩:=lU g4;have dl:(dist ns).length<=ns.length:=firstMet_length_le _ _;have I2:Inv X pins σ H1 { s1 with heap:=h',toks:=tk }:=I1.kept (t':=tk) λb u z=>kp b u (Yr z) z;have kl:ks.length=es.size:=by have:=k1.length;simp at this;left
 have VS:ks.Perm (dist ns):=lp (jP _ _) (λx hx=>(k2 x).mpr ((g5 x).mp (List.any_eq_true.mpr ⟨x,hx,by simp⟩))) (by left);refine SX.sj (s:={ s1 with heap:=h',toks:=tk }) (I1.ok.hd hc) ⟨⟨o,g1,g2,g3⟩,g7⟩ g9 (by left) k1 λl s' out jM c G oU e1 i1 p1 p2=>?_;have en:jM=sortI (dG ns):=by
  refine Z_ ((p1.trans VS).trans ?_) p2 (fP _);rw[lX];exact(sortI_perm _).symm
 subst en;have hn:H1 l=none:=I2.cD.fresh oU;have L:=I2.laid (t':=s'.toks) (h':=s'.heap) (a:=l) (o:=.lst ((sortI (dG ns)).map V.int)) G.heap oU ⟨by
  have:=(sortI_perm (dG ns)).length_eq;rw[List.length_map,this,<- lX,sizeLine_eq];left,out,c,gx i1,e1⟩
 exact⟨.ref l,_,Inv.UW L rfl G.os G.gens,rfl,q l hn⟩
theorem Kx{Φ:aX}{n:Nat}(hΦ:Φ n=KA){sc:Scope}{bl:aw}{k:Nat}(L:PX X sc bl k){e:Expr}{args:au}(he:nL ("sorted" : Str) ("set" : Str) sc bl e=some args){F:ag}{cs:aA}(hs:mO X F Φ cs args):PE X e (tD X F Φ (.cj n cs))/\PT X e (eN X F Φ (.cj n cs)):=by
 obtain⟨p,pos,p',pos',a,rfl,rfl,h1,h2,h3,h4⟩:=rF he;obtain⟨pa,s1⟩:=oD hs;cases cs with
 |nil=>exact hs.elim
 |cons c cs=>cases cs with
  |cons _ _=>exact hs.2.2.2.elim
  |nil =>
   have this:PE X (.Call (.Name ("sorted" : Str) p) [.Call (.Name ("set" : Str) p') [a] [] pos'] [] pos) (tD X F Φ (.cj n [c])):=by
    refine PE.imp (Lh L.calm (L.gl h1) (L.bl _ h2) (L.gl h3) (L.bl _ h4) pa s1) λσ H Q hq=>?_;obtain⟨R,τ,ρ,d,Si,ev,hq⟩:=hq;obtain⟨xs,cS,ev⟩:=aB ev;rw[hΦ]at ev;obtain⟨f,ns,rfl,hl,rfl⟩:=FY ev;refine⟨R,τ,ρ,_,Si,cS,λvs H1 e1 r1=>?_⟩;obtain⟨τt,fr,rs⟩:=r1;obtain⟨v,rfl,rv⟩:=rs.one;cases rv with
    |lst h r =>
     cases r.ofInts;refine⟨_,ns,rfl,h.sq,hl,λl hn=>hq _ _ (e1.trans (aG.upd hn)) (bM.qJ (e1.free hn) (e1.trans (aG.upd hn)) (aW ..) ?_)⟩;exact jw (k:=[]) (sortI (dG ns)) (n:=0)
   exact⟨this,cI this λ_=>rfl⟩
end DI
end
section
namespace NT
open PySem PySem.SetTable SX
noncomputable def mM(m:Nat)(p:Probe):Probe:=if p.more>0 then { p with j:=p.j+1,more:=p.more - 1 } else { p with j:=(leap m p.i p.perturb).1,more:=runEnd m (leap m p.i p.perturb).1 - (leap m p.i p.perturb).1,i:=(leap m p.i p.perturb).1,perturb:=(leap m p.i p.perturb).2 }
theorem A1(t:SetTable)(p:Probe):t.advance p=mM t.mask p:=rfl
noncomputable def AX(m i pt:Nat):Probe:={ j:=i,more:=runEnd m i - i,i:=i,perturb:=pt,dummy:=none }
def stM(m:Nat)(h:Int):Probe:=AX m (bits h % (m+1)) (bits h)
def road(m:Nat):Probe->Nat->Probe
 |p,0=>p
 |p,k+1=>road m (mM m p) k
theorem fS(m:Nat):∀(a b:Nat) (p:Probe),road m p (a+b)=road m (road m p a) b
 |0,b,p=>by rw[Nat.zero_add];rfl
 |a+1,b,p=>by rw[show a+1+b=(a+b)+1 by left];exact fS m a b (mM m p)
theorem om(m i:Nat):runEnd m i - i<=9/\i<=runEnd m i/\(i<=m->runEnd m i<=m):=by unfold runEnd;split<;>left
theorem k9(m:Nat):∀(k:Nat) (p:Probe),k<=p.more->road m p k={ p with j:=p.j+k,more:=p.more - k }
 |0,p,_=>by cases p;rfl
 |k+1,p,h=>by
  rw[road,k9 m k _ (by rw[mM,if_pos (by left)];show k<=p.more - 1;left),mM,if_pos (by left)];show Probe.mk _ _ _ _ _=Probe.mk _ _ _ _ _;congr 1
  ·show p.j+1+k=_;left
  ·show p.more - 1 - k=_;left
theorem jq(m i pt:Nat):road m (AX m i pt) (runEnd m i - i+1)=AX m (leap m i pt).1 (leap m i pt).2:=by
 rw[fS,k9 m (runEnd m i - i) (AX m i pt) (Nat.le_refl _)];show mM m _=_;rw[mM,if_neg (by show ¬ (runEnd m i - i - (runEnd m i - i)>0);left)];rfl
noncomputable def qN(m:Nat):Nat->Nat×Nat->Nat×Nat
 |0,z=>z
 |n+1,z=>qN m n (leap m z.1 z.2)
theorem oP(m:Nat):∀(a b:Nat) (z:Nat×Nat),qN m (a+b) z=qN m b (qN m a z)
 |0,b,z=>by rw[Nat.zero_add];rfl
 |a+1,b,z=>by rw[show a+1+b=(a+b)+1 by left];exact oP m a b _
theorem uq(m:Nat):∀(n:Nat) (z:Nat×Nat),∃k,k<=10*n/\road m (AX m z.1 z.2) k=AX m (qN m n z).1 (qN m n z).2
 |0,z=>⟨0,Ys _,rfl⟩
 |n+1,z=>by
  obtain⟨k,h1,h2⟩:=uq m n (leap m z.1 z.2);have:=(om m z.1).1;refine⟨(runEnd m z.1 - z.1+1)+k,by left,?_⟩;rw[fS,jq,h2];rfl
theorem EB(m:Nat):∀(n:Nat) (z:Nat×Nat),(qN m n z).2=z.2 / 32 ^ n
 |0,z=>by simp[qN]
 |n+1,z=>by
  rw[qN,EB m n];show z.2 / 32 / 32 ^ n=_;rw[Nat.div_div_eq_div_mul,Nat.pow_succ,Nat.mul_comm]
theorem QG(m:Nat)(n:Nat)(z:Nat×Nat):(qN m (n+1) z).1<m+1:=by
 rw[oP m n 1 z];exact ZH _ (by left)
noncomputable def w8(m:Nat):Nat->Nat->Nat
 |0,i=>i
 |n+1,i=>w8 m n ((i*5+1) % (m+1))
theorem uS(m:Nat):∀(n i:Nat),(qN m n (i,0)).1=w8 m n i
 |0,_=>rfl
 |n+1,i=>by
  rw[qN,w8,<- uS m n];show(qN m n ((i*5+1+0 / 32) % (m+1),0 / 32)).1=_;rw[Nat.zero_div,Nat.add_zero]
theorem Ng:∀i:Fin 8,∀j:Fin 8,∃n:Fin 8,w8 7 n i=j:=by decide +kernel
theorem IM:∀i:Fin 32,∀j:Fin 32,∃n:Fin 32,w8 31 n i=j:=by decide +kernel
def Mk(m:Nat):Prop:=m=7\/m=31
theorem cover{m:Nat}(hm:Mk m){i pt j:Nat}(hp:pt<2 ^ 64)(hj:j<=m):∃n,n<m+14/\(qN m n (i,pt)).1=j:=by
 have e0:(qN m 13 (i,pt)).2=0:=by
  rw[EB];exact Nat.div_eq_of_lt (Yu hp (by decide))
 have e1:=QG m 12 (i,pt);have key:∃n,n<m+1/\w8 m n (qN m 13 (i,pt)).1=j:=by
  rcases hm with rfl|rfl
  ·obtain⟨n,hn⟩:=Ng ⟨_,e1⟩ ⟨j,by left⟩;exact⟨n,n.isLt,hn⟩
  ·obtain⟨n,hn⟩:=IM ⟨_,e1⟩ ⟨j,by left⟩;exact⟨n,n.isLt,hn⟩
 obtain⟨n,h1,h2⟩:=key;refine⟨13+n,by left,?_⟩;rw[oP,<- h2,<- uS,<- e0]
theorem vL(h:Int):bits h<2 ^ 64:=by
 unfold bits;have:=Zu h (show(0:Int)<2 ^ 64 by decide);have:=Zv h (show(2 ^ 64:Int)≠0 by decide);have e:((2 ^ 64:Nat):Int)=2 ^ 64:=rfl;left
def Reach(m:Nat)(GY:Nat->Prop)(h:Int)(j:Nat):Prop:=∃k,k<10*turns m/\(road m (stM m h) k).j=j/\∀i,i<k->GY (road m (stM m h) i).j
theorem Reach.mono{m:Nat}{GY Lz:Nat->Prop}{h:Int}{j:Nat}(r:Reach m GY h j)(s:∀x,GY x->Lz x):Reach m Lz h j:=let ⟨k,a,b,c⟩:=r;⟨k,a,b,λi hi=>s _ (c i hi)⟩
theorem ur{m:Nat}:∀(k:Nat) (p:Probe),p.j+p.more<=m->(road m p k).j<=m
 |0,p,h=>by show p.j<=m;left
 |k+1,p,h=>by
  rw[road];refine ur k _ ?_;unfold mM;split
  ·show p.j+1+(p.more - 1)<=m;left
  ·show(leap m p.i p.perturb).1+(runEnd m (leap m p.i p.perturb).1 - (leap m p.i p.perturb).1)<=m;have a:(leap m p.i p.perturb).1<m+1:=ZH _ (by left);obtain⟨b,c,d⟩:=om m (leap m p.i p.perturb).1;have:=d (by left);left
theorem Kv(m:Nat)(h:Int):(stM m h).j+(stM m h).more<=m:=by
 show bits h % (m+1)+(runEnd m (bits h % (m+1)) - bits h % (m+1))<=m;have a:bits h % (m+1)<m+1:=ZH _ (by left);obtain⟨b,c,d⟩:=om m (bits h % (m+1));have:=d (by left);left
theorem uu{m:Nat}:∀(k:Nat) (p:Probe),(road m p k).dummy=p.dummy
 |0,_=>rfl
 |k+1,p=>by
  rw[road,uu k];unfold mM;split<;>rfl
theorem yR:∀(n:Nat) (l:aF),(∀j,j<n->j∈l)->n<=l.length
 |0,_,_=>YQ _
 |n+1,l,h=>by
  have hn:=h n (by left);have:=yR n (l.erase n) λj hj=>(List.mem_erase_of_ne (by left)).mpr (h j (by left));rw[List.length_erase_of_mem hn]at this;have:=Z2 hn;left
theorem A2{m:Nat}{l:aF}(h:l.length<=m):∃j,j<=m/\j∉l:=by
 refine Y7 λc=>?_;have:=yR (m+1) l λj hj=>Y7 λz=>c ⟨j,by left,z⟩;left
theorem jm{t:SetTable}(hr:fJ t.place){i j:Nat}(h:t.place[i]?=some j):t.slot j=.live i:=by
 obtain⟨h1,h2,h3⟩:=gm hr j;have hi:i<t.place.size:=(Array.getElem?_eq_some_iff.mp h).1;have e:t.place.getD i 0=j:=by rw[Array.getD_eq_getD_getElem?,h];rfl
 have q:below t.place j=i:=by
  rcases Zz (below t.place j) i with c|c|c
  ·have a:=h3 (below t.place j) (Ys _) (by left);have b:=hr _ i c hi;left
  ·exact c
  ·have:=h2 i c;left
 unfold SetTable.slot;dsimp only;rw[q,if_pos (by rw[h];simp)]
theorem mX{t:SetTable}(hd:t.dummies = #[]){j:Nat}(h:j∉t.place.toList):t.slot j=.empty:=by
 unfold SetTable.slot;dsimp only;rw[if_neg,hd,i5]
 ·rfl
 ·intro c;have c:t.place[below t.place j]?=some j:=by simpa using c
  rw[<- Array.getElem?_toList]at c;exact h (Yz c)
theorem zq{a:Array Nat}{j:Nat}(h:j∈a.toList):∃i:Nat,a[i]?=some j:=by
 obtain⟨i,e⟩:=List.mem_iff_getElem?.mp h;exact⟨i,by rw[<- Array.getElem?_toList];exact e⟩
structure d4(b:Bool)(t:SetTable)(hs:aa):Prop where
 led:t.led=b
 xO:t.dummies = #[]
 rise:fJ t.place
 size:t.place.size=hs.length
 Jy:Mk t.mask
 rl:hs.length<=t.mask
 top:∀j∈t.place.toList,j<=t.mask
 reach:∀(i j:Nat) (h:Int),t.place[i]?=some j->hs[i]?=some h->Reach t.mask (· ∈ t.place.toList) h j
variable {hs:aa}
theorem d4.tabI{b:Bool}{t:SetTable}(N:d4 b t hs):dm b t:=⟨N.led,N.xO,λ_=>N.rise⟩
theorem d4.fits{b:Bool}{t:SetTable}{hs:aa}(N:d4 b t hs){n:Nat}(hn:hs.length=n):t.fits n=true:=by
 unfold SetTable.fits SetTable.fill;rw[N.xO,N.size,hn];have:=N.rl;simp;left
theorem d4.gave{b:Bool}{t:SetTable}(N:d4 b t hs):t.gaveWay=false:=by
 unfold SetTable.gaveWay;rcases N.Jy with e|e<;>rw[e]<;>rfl
theorem d4.fresh(b:Bool):d4 b (.fresh 0 0 b) []:=⟨rfl,rfl,λa c _ h=>by simp[SetTable.fresh]at h,rfl,.inl rfl,by simp,λj h=>by simp[SetTable.fresh]at h,λi j h e=>by simp[SetTable.fresh]at e⟩
theorem d4.off{b:Bool}{t:SetTable}(N:d4 b t hs):d4 b { t with plain:=false } hs:=⟨N.led,N.xO,N.rise,N.size,N.Jy,N.rl,N.top,N.reach⟩
theorem Al{t:SetTable}{ha:Nat->Int}{h:Int}:∀(k fuel:Nat) (p:Probe),k<fuel->(∀i,i<k->∃x,t.slot (road t.mask p i).j=.live x)->(∃x,t.slot (road t.mask p k).j=.live x/\ha x=h)->∃j i nx,probe.go t ha h fuel p=some (.candidate j i nx)/\t.slot j=.live i/\ha i=h
 |0,fuel+1,p,_,_,⟨x,e1,e2⟩=>by
  have e1:t.slot p.j=.live x:=e1;rw[probe.go,e1];dsimp only;rw[if_pos (by rw[e2];simp)];exact⟨_,_,_,rfl,e1,e2⟩
 |k+1,fuel+1,p,hk,ho,hx=>by
  obtain⟨y,e1⟩:=ho 0 (by left);have e1:t.slot p.j=.live y:=e1;rw[probe.go,e1];dsimp only;by_cases c:ha y=h
  ·rw[if_pos (by rw[c];simp)];exact⟨_,_,_,rfl,e1,c⟩
  ·rw[if_neg (by simpa using c),A1];exact Al k fuel _ (by left) (λi hi=>ho (i+1) (by left)) hx
theorem vi{t:SetTable}{ha:Nat->Int}{h:Int}(hd:t.dummies = #[])(Uc:∀j x,t.slot j=.live x->ha x≠h):∀(k fuel:Nat) (p:Probe),k<fuel->p.dummy=none->t.slot (road t.mask p k).j=.empty ->
  ∃n,n<=k/\probe.go t ha h fuel p=some (.empty (road t.mask p n).j none)/\t.slot (road t.mask p n).j=.empty/\∀i,i<n->∃x,t.slot (road t.mask p i).j=.live x
 |k,0,p,hk,_,_=>by left
 |k,fuel+1,p,hk,hp,he=>by
  rw[probe.go];cases hs:t.slot p.j with
  |empty=>exact⟨0,YQ _,by rw[hp];rfl,hs,λi hi=>by left⟩
  |dummy =>
   unfold SetTable.slot at hs;rw[hd,i5]at hs;dsimp only at hs;split at hs
   ·cases hs
   ·simp at hs
  |live x =>
   dsimp only;rw[if_neg (by simpa using Uc _ _ hs),A1];cases k with
   |zero=>rw[show(road t.mask p 0).j=p.j from rfl,hs]at he;cases he
   |succ k =>
    obtain⟨n,a,b,c,d⟩:=vi hd Uc k fuel (mM t.mask p) (by left) ((uu 1 p).trans hp) he;refine⟨n+1,by left,b,c,λi hi=>?_⟩;cases i with
    |zero=>exact⟨x,hs⟩
    |succ i=>exact d i (by left)
theorem d4.met{b:Bool}{t:SetTable}(N:d4 b t hs){ha:Nat->Int}(OJ:∀(i:Nat) (h:Int),hs[i]?=some h->ha i=h){h:Int}(hh:h∈hs):∃j i nx,t.probe ha h (t.probeStart h)=some (.candidate j i nx)/\hs[i]?=some h:=by
 obtain⟨i,hi⟩:=List.mem_iff_getElem?.mp hh;have hl:=(List.getElem?_eq_some_iff.mp hi).1;have hp:i<t.place.size:=by rw[N.size];exact hl
 obtain⟨k,k1,k2,k3⟩:=N.reach i _ h (YU hp) hi;obtain⟨j,i',nx,e1,e2,e3⟩:=Al (t:=t) (ha:=ha) (h:=h) k (10*turns t.mask) (stM t.mask h) k1 (λq hq=>by
  obtain⟨x,hx⟩:=zq (k3 q hq);exact⟨x,jm N.rise hx⟩) ⟨i,by rw[k2];exact jm N.rise (YU hp),OJ i h hi⟩
 refine⟨j,i',nx,e1,?_⟩;have fb:i'<t.place.size:=by
  unfold SetTable.slot at e2;dsimp only at e2;split at e2
  ·rename_i c;cases e2;have c:t.place[below t.place j]?=some j:=by simpa using c
   exact(Array.getElem?_eq_some_iff.mp c).1
  ·split at e2<;>cases e2
 rw[N.size]at fb;have:=OJ i' _ (Yw fb);rw[List.getElem?_eq_getElem fb,<- this,e3]
theorem d4.free{b:Bool}{t:SetTable}(N:d4 b t hs){ha:Nat->Int}(OJ:∀(i:Nat) (h:Int),hs[i]?=some h->ha i=h){h:Int}(hh:h∉hs):∃j,t.probe ha h (t.probeStart h)=some (.empty j none)/\j<=t.mask/\j∉t.place.toList/\Reach t.mask (· ∈ t.place.toList) h j:=by
 obtain⟨j0,a1,a2⟩:=A2 (m:=t.mask) (l:=t.place.toList) (by rw[Array.length_toList,N.size];exact N.rl);obtain⟨n,n1,n2⟩:=cover N.Jy (i:=bits h % (t.mask+1)) (vL h) a1;obtain⟨k,k1,k2⟩:=uq t.mask n (bits h % (t.mask+1),bits h);have e0:(road t.mask (stM t.mask h) k).j=j0:=by
  show(road t.mask (AX t.mask _ _) k).j=j0;rw[k2];exact n2
 have hk:k<10*turns t.mask:=by unfold turns;left
 obtain⟨q,q1,q2,q3,q4⟩:=vi (t:=t) (ha:=ha) (h:=h) N.xO (λj x e z=>by
  unfold SetTable.slot at e;dsimp only at e;split at e
  ·rename_i c;cases e;have c:t.place[below t.place j]?=some j:=by simpa using c
   have hl:below t.place j<hs.length:=by rw[<- N.size];exact(Array.getElem?_eq_some_iff.mp c).1
   have:=OJ _ _ (Yw hl);exact hh (by rw[<- z,this];exact Y4 hl)
  ·split at e<;>cases e) k (10*turns t.mask) (stM t.mask h) hk rfl (by rw[e0];exact mX N.xO a2)
 have zh:(road t.mask (stM t.mask h) q).j∉t.place.toList:=λz=>by
  obtain⟨i,hi⟩:=zq z;rw[jm N.rise hi]at q3;cases q3
 refine⟨_,q2,ur q _ (Kv _ _),zh,q,by left,rfl,λi hi=>?_⟩;obtain⟨x,hx⟩:=q4 i hi;refine Y7 λz=>?_;rw[mX N.xO z]at hx;cases hx
theorem zU{α:Type}(xs:Array α){p:Nat}(hp:p<=xs.size)(x:α)(i:Nat):(insertAt xs p x)[i]?=if i<p then xs[i]? else if i=p then some x else xs[i - 1]?:=by
 rw[<- Array.getElem?_toList,toList_insertAt];by_cases c:i<p
 ·rw[if_pos c,List.getElem?_append_left (by simp;left),List.getElem?_take,if_pos c,Array.getElem?_toList]
 ·rw[if_neg c,List.getElem?_append_right (by simp;left)];have e:(List.take p xs.toList).length=p:=by simp;left
  rw[e];by_cases d:i=p
  ·rw[if_pos d,d,Nat.sub_self];rfl
  ·rw[if_neg d];obtain⟨k,rfl⟩:∃k,i=p+1+k:=⟨i - (p+1),by left⟩
   rw[show p+1+k - p=k+1 by left,List.getElem?_cons_succ,List.getElem?_drop,Array.getElem?_toList,show p+1+k - 1=p+k by left]
theorem d4.put{b:Bool}{t:SetTable}{es:Array (Int×Value)}(N:d4 b t (es.toList.map (·.1))){h:Int}{j:Nat}(hj:j<=t.mask)(hn:j∉t.place.toList)(hr:Reach t.mask (· ∈ t.place.toList) h j)(room:es.size+1<=t.mask)(x:Value):
  d4 b (t.put j).1 ((insertAt es (t.put j).2 (h,x)).toList.map (·.1))/\(t.put j).1.mask=t.mask/\(t.put j).1.plain=t.plain:=by
 have hb:=(gm N.rise j).1;have hs:=N.size;rw[List.length_map,Array.length_toList]at hs;have pm:∀y,y∈(insertAt t.place (below t.place j) j).toList ↔ y=j\/y∈t.place.toList:=λy=>by
  rw[(insertAt_perm t.place (below t.place j) j).mem_iff];simp[or_comm]
 have zh:t.place[below t.place j]?≠some j:=λz=>hn (by rw[<- Array.getElem?_toList]at z;exact Yz z);have sub:∀x,x∈t.place.toList->x∈(insertAt t.place (below t.place j) j).toList:=λx hx=>(pm x).mpr (.inr hx);refine⟨⟨N.led,?_,N.rise.insert zh,?_,N.Jy,?_,λy hy=>?_,λi y g e1 e2=>?_⟩,rfl,rfl⟩
 ·show(if has t.dummies j then _ else t.dummies)=_;rw[N.xO,i5];rfl
 ·show(insertAt t.place (below t.place j) j).size=_;rw[cJ,List.length_map,Array.length_toList,cJ,hs]
 ·rw[List.length_map,Array.length_toList,cJ];exact room
 ·rcases(pm y).mp hy with rfl|hy
  ·exact hj
  ·exact N.top y hy
 ·have e1:(insertAt t.place (below t.place j) j)[i]?=some y:=e1;have e2:((insertAt es (below t.place j) (h,x)).toList.map (·.1))[i]?=some g:=e2;rw[zU _ hb]at e1;rw[List.getElem?_map,Array.getElem?_toList,zU _ (by left)]at e2;show Reach t.mask (· ∈ (insertAt t.place (below t.place j) j).toList) g y;by_cases c:i<below t.place j
  ·rw[if_pos c]at e1 e2;exact(N.reach i y g e1 (by rw[List.getElem?_map,Array.getElem?_toList];exact e2)).mono sub
  ·rw[if_neg c]at e1 e2;by_cases d:i=below t.place j
   ·rw[if_pos d]at e1 e2;cases e1;cases e2;exact hr.mono sub
   ·rw[if_neg d]at e1 e2;exact(N.reach (i - 1) y g e1 (by rw[List.getElem?_map,Array.getElem?_toList];exact e2)).mono sub
structure Own(m:Nat)(owner:Array (Option Nat))(js:aF)(hs:aa):Prop where
 size:owner.size=m+1
 len:js.length=hs.length
 at_:∀j i:Nat,owner[j]?=some (some i) ↔ js[i]?=some j
 Tc:∀(i j:Nat) (h:Int),js[i]?=some j->hs[i]?=some h->Reach m (· ∈ js) h j
theorem Qq{m:Nat}:Own m (Array.replicate (m+1) none) [] [] :=
 ⟨by simp,rfl,λj i=>by
  rw[Array.getElem?_replicate];split<;>simp,λi j h e=>by simp at e⟩
variable {js:aF}
theorem Own.free{m:Nat}{owner:Array (Option Nat)}(O:Own m owner js hs){j:Nat}(hj:j<=m):owner[j]?=some none\/j∈js:=by
 have hl:j<owner.size:=by rw[O.size];left
 cases e:owner[j]with
 |none=>exact .inl (by rw[Array.getElem?_eq_getElem hl,e])
 |some i=>exact .inr (Yz ((O.at_ j i).mp (by rw[Array.getElem?_eq_getElem hl,e])))
theorem Own.mem{m:Nat}{owner:Array (Option Nat)}(O:Own m owner js hs){j:Nat}(hj:j∈js):j<=m/\owner[j]?≠some none:=by
 obtain⟨i,hi⟩:=List.mem_iff_getElem?.mp hj;have e:=(O.at_ j i).mpr hi;refine⟨?_,λz=>by rw[e]at z;cases z⟩;have:=(Array.getElem?_eq_some_iff.mp e).1;rw[O.size]at this;left
theorem vp{m:Nat}{owner:Array (Option Nat)}{js:aF}{hs:aa}(O:Own m owner js hs):∀(fuel i pt n:Nat),i<=m->n<fuel->owner[(qN m n (i,pt)).1]?=some none ->
  ∃j k,layClean.free m owner fuel i pt=some j/\k<10*fuel/\(road m (AX m i pt) k).j=j/\j<=m/\owner[j]?=some none/\∀q,q<k->(road m (AX m i pt) q).j∈js
 |0,i,pt,n,_,hn,_=>by left
 |fuel+1,i,pt,n,hi,hn,he=>by
  obtain⟨b1,b2,b3⟩:=om m i;have b3:=b3 hi;have hj:∀q,q<=runEnd m i - i->(road m (AX m i pt) q).j=i+q:=λq hq=>by rw[k9 m q (AX m i pt) hq];rfl
  have hg:∀q,i+q<=m->((owner.getD (i+q) (some 0)).isNone=true ↔ owner[i+q]?=some none):=λq hq=>by
   have hl:i+q<owner.size:=by rw[O.size];left
   rw[Array.getD_eq_getD_getElem?,Array.getElem?_eq_getElem hl];cases owner[i+q]<;>simp
  have hc:∀q,i+q<=m->¬ (owner.getD (i+q) (some 0)).isNone=true->i+q∈js:=λq hq z=>by
   rcases O.free hq with c|c
   ·exact absurd ((hg q hq).mpr c) z
   ·exact c
  rw[layClean.free];cases hf:(List.range (runEnd m i+1 - i)).find? λk=>(owner.getD (i+k) (some 0)).isNone with
  |some k =>
   dsimp only;obtain⟨f1,as,bs,f2,f3⟩:=List.find?_eq_some_iff_append.mp hf;have hk:k<runEnd m i+1 - i:=by
    have:k∈List.range (runEnd m i+1 - i):=by rw[f2];simp
    exact List.mem_range.mp this
   have bf:∀q,q<k->q∈as:=λq hq=>by
    have pw:=Zy (n:=runEnd m i+1 - i);have:q∈List.range (runEnd m i+1 - i):=List.mem_range.mpr (by left);rw[f2]at this pw;rcases List.mem_append.mp this with c|c
    ·exact c
    ·rcases List.mem_cons.mp c with c|c
     ·left
     ·have:=(List.pairwise_cons.mp (List.pairwise_append.mp pw).2.1).1 q c;left
   refine⟨i+k,k,rfl,by left,hj k (by left),by left,(hg k (by left)).mp f1,λq hq=>?_⟩;rw[hj q (by left)];exact hc q (by left) (by have:=f3 q (bf q hq);intro z;rw[z]at this;cases this)
  |none =>
   have dj:=List.find?_eq_none.mp hf;have GY:∀q,q<=runEnd m i - i->i+q∈js:=λq hq=>hc q (by left) (dj q (List.mem_range.mpr (by left)));show ∃j k,layClean.free m owner fuel (leap m i pt).1 (leap m i pt).2=some j/\_;cases n with
   |zero=>exact absurd he (O.mem (j:=i) (by simpa using GY 0 (by left))).2
   |succ n =>
    obtain⟨j,k,c1,c2,c3,c4,c5,c6⟩:=vp O fuel (leap m i pt).1 (leap m i pt).2 n (aaJ (ZH _ (by left))) (by left) he;refine⟨j,(runEnd m i - i+1)+k,c1,by left,by rw[fS,jq];exact c3,c4,c5,λq hq=>?_⟩;by_cases d:q<=runEnd m i - i
    ·rw[hj q d];exact GY q d
    ·obtain⟨r,rfl⟩:∃r,q=(runEnd m i - i+1)+r:=⟨q - (runEnd m i - i+1),by left⟩
     rw[fS,jq];exact c6 r (by left)
theorem Own.step{m:Nat}(hm:Mk m){owner:Array (Option Nat)}(O:Own m owner js hs)(room:js.length<=m)(h:Int):
  ∃j,layClean.free m owner (turns m) (bits h % (m+1)) (bits h)=some j/\Own m (owner.setIfInBounds j (some js.length)) (js++[j]) (hs++[h]):=by
 obtain⟨j0,a1,a2⟩:=A2 room;obtain⟨n,n1,n2⟩:=cover hm (i:=bits h % (m+1)) (vL h) a1;obtain⟨j,k,c1,c2,c3,c4,c5,c6⟩:=vp O (turns m) (bits h % (m+1)) (bits h) n (aaJ (ZH _ (by left))) (by unfold turns;left) (by rw[n2];exact(O.free a1).resolve_right a2);have nj:j∉js:=λz=>(O.mem z).2 c5;have hl:j<owner.size:=by rw[O.size];left
 refine⟨j,c1,by rw[Array.size_setIfInBounds];exact O.size,by simp[O.len],λy i=>?_,λi y g e1 e2=>?_⟩
 ·rw[Array.getElem?_setIfInBounds];by_cases c:j=y
  ·subst c;rw[if_pos rfl,if_pos hl];constructor
   ·intro z;cases z;simp
   ·intro z;rcases Zz i js.length with d|d|d
    ·rw[List.getElem?_append_left d]at z;exact absurd (Yz z) nj
    ·rw[d]
    ·rw[List.getElem?_eq_none (by simp;left)]at z;cases z
  ·rw[if_neg c,O.at_];rcases Zz i js.length with d|d|d
   ·rw[List.getElem?_append_left d]
   ·subst d;simp[c]
   ·rw[List.getElem?_eq_none (by left),List.getElem?_eq_none (by simp;left)]
 ·have ol:=O.len;rcases Zz i js.length with d|d|d
  ·rw[List.getElem?_append_left d]at e1;rw[List.getElem?_append_left (by left)]at e2;exact(O.Tc i y g e1 e2).mono λx hx=>YN _ hx
  ·subst d;rw[List.getElem?_append_right (Nat.le_refl _),Nat.sub_self]at e1;rw[List.getElem?_append_right (by left),ol,Nat.sub_self]at e2;cases e1;cases e2;exact⟨k,c2,c3,λq hq=>YN _ (c6 q hq)⟩
  ·rw[List.getElem?_eq_none (by simp;left)]at e1;cases e1
theorem vq{m:Nat}(hm:Mk m):∀(l:aa) (owner:Array (Option Nat)) (js:aF) (hs:aa),Own m owner js hs->js.length+l.length<=m ->
  ∃y3 Oz,l.foldl (λacc h=>do
   let (owner,k) <- acc
   let j <- layClean.free m owner (turns m) (bits h % (m+1)) (bits h)
   pure (owner.setIfInBounds j (some k),k+1)) (some (owner,js.length))=some (y3,Oz.length)/\Own m y3 Oz (hs++l)
 |[],owner,js,hs,O,_=>⟨owner,js,rfl,by rw[List.append_nil];exact O⟩
 |h::l,owner,js,hs,O,hl=>by
  rw[List.length_cons]at hl;obtain⟨j,e1,O1⟩:=O.step hm (by left) h;obtain⟨ow,Oz,e2,O2⟩:=vq hm l _ _ _ O1 (by simp;left);refine⟨ow,Oz,?_,by rw[List.append_assoc]at O2;exact O2⟩;rw[List.foldl_cons,<- e2];congr 1;show(layClean.free m owner (turns m) (bits h % (m+1)) (bits h) >>= _)=_;rw[e1,List.length_append];rfl
theorem AL{m:Nat}(hm:Mk m)(hs:Array Int)(hl:hs.size<=m):∃owner js,layClean m hs=some owner/\Own m owner js hs.toList:=by
 obtain⟨ow,js,e,O⟩:=vq hm hs.toList _ [] [] Qq (by simpa using hl);refine⟨ow,js,?_,O⟩;unfold layClean;rw[<- Array.foldl_toList];rw[List.length_nil]at e;rw[e];rfl
theorem CM{b:Bool}{t:SetTable}(es:Array (Int×Value))(Rv:t.led=b){m:Nat}(hm:Mk m)(hl:es.size<=m)(mv:Nat):
  ∃t' order,laid m t.finger mv t.led t.plain (es.map (·.1))=some (t',order)/\d4 b t' ((order.filterMap (es[·]?)).toList.map (·.1))/\(order.filterMap (es[·]?)).toList.Perm es.toList/\t'.mask=m:=by
 obtain⟨ow,js,e1,O⟩:=AL hm (es.map (·.1)) (by simpa using hl);have ol:js.length=es.size:=by have:=O.len;simpa using this
 have lv:∀j i,(j,i)∈((List.range (m+1)).filterMap λj=>(ow.getD j none).map (j,·)) ↔ js[i]?=some j:=λj i=>by
  rw[List.mem_filterMap,<- O.at_];constructor
  ·rintro ⟨y,hy,z⟩;obtain⟨x,hx,q⟩:=Option.map_eq_some_iff.mp z;cases q;have hl:j<ow.size:=by rw[O.size];exact List.mem_range.mp hy
   rw[Array.getD_eq_getD_getElem?,Array.getElem?_eq_getElem hl]at hx;rw[Array.getElem?_eq_getElem hl];exact Zw some hx
  ·intro z;have hl:=(Array.getElem?_eq_some_iff.mp z).1;refine⟨j,List.mem_range.mpr (by rw[O.size]at hl;exact hl),?_⟩;rw[Array.getD_eq_getD_getElem?,z];rfl
 have pw:((List.range (m+1)).filterMap λj=>(ow.getD j none).map (j,·)).Pairwise λa b=>a.1<b.1:=by
  refine List.Pairwise.filterMap _ ?_ (Zy (n:=m+1));intro a a' RD x hx y hy;obtain⟨x',_,rfl⟩:=Option.map_eq_some_iff.mp hx;obtain⟨y',_,rfl⟩:=Option.map_eq_some_iff.mp hy;exact RD
 have e2:laid m t.finger mv t.led t.plain (es.map (·.1))=some ({ mask:=m,place:=((((List.range (m+1)).filterMap λj=>(ow.getD j none).map (j,·)).map (·.1)).toArray),dummies:=#[],finger:=t.finger,led:=t.led,moves:=mv,plain:=t.plain },(((List.range (m+1)).filterMap λj=>(ow.getD j none).map (j,·)).map (·.2)).toArray):=by
  unfold laid;rw[e1];rfl
 generalize ((List.range (m+1)).filterMap λj=>(ow.getD j none).map (j,·))=live at *;have nd:(live.map (·.2)).Nodup:=by
  rw[List.Nodup,List.pairwise_map];refine ZS (λ{a b} ha hb wZ z=>?_) pw;obtain⟨a1,a2⟩:=a;obtain⟨b1,b2⟩:=b;have z:a2=b2:=z;subst z;have q1:=(lv a1 a2).mp ha;have q2:=(lv b1 a2).mp hb;rw[q1]at q2;cases q2;exact absurd wZ (YG _)
 have LM:∀i,i∈live.map (·.2) ↔ i<es.size:=λi=>by
  rw[List.mem_map];constructor
  ·rintro ⟨⟨j,x⟩,hx,rfl⟩;have:=(List.getElem?_eq_some_iff.mp ((lv j x).mp hx)).1;show x<es.size;left
  ·intro hi;exact⟨(js[i]'(by left),i),(lv _ _).mpr (Yw _),rfl⟩
 have perm:(live.map (·.2)).Perm (List.range es.size):=(Zj nd List.nodup_range).mpr λx=>(LM x).trans List.mem_range.symm;have hlen:live.length=es.size:=by simpa using perm.length_eq
 have fm:∀l:aF,(∀i∈l,i<es.size)->l.filterMap (es[·]?)=l.map λi=>es.getD i default:=λl=>by
  induction l with
  |nil=>intro _;rfl
  |cons x l ih =>
   intro h;have hx:=h x Yo;rw[List.filterMap_cons,Array.getElem?_eq_getElem hx,List.map_cons,ih λy hy=>h y (List.mem_cons_of_mem _ hy)];simp[hx]
 have e3:((live.map (·.2)).toArray.filterMap (es[·]?)).toList=(live.map (·.2)).map λi=>es.getD i default:=by
  rw[Array.toList_filterMap];exact fm _ λi hi=>(LM i).mp hi
 refine⟨_,_,e2,?_,?_,rfl⟩
 ·rw[e3];have pl:∀j,j∈live.map (·.1) ↔ j∈js:=λj=>by
   rw[List.mem_map];constructor
   ·rintro ⟨⟨y,x⟩,hx,rfl⟩;exact Yz ((lv y x).mp hx)
   ·intro hj;obtain⟨i,hi⟩:=List.mem_iff_getElem?.mp hj;exact⟨(j,i),(lv j i).mpr hi,rfl⟩
  refine⟨Rv,rfl,ux ?_,by simp,hm,by simp;left,λj hj=>(O.mem ((pl j).mp (by simpa using hj))).1,λi j h q1 q2=>?_⟩
  ·rw[List.pairwise_map];exact pw
  ·have q1:(live.map (·.1))[i]?=some j:=by simpa using q1
   rw[List.getElem?_map]at q1 q2;rw[List.getElem?_map,List.getElem?_map]at q2;obtain⟨⟨y,x⟩,r1,r2⟩:=Option.map_eq_some_iff.mp q1;have r2:y=j:=r2;subst r2;rw[r1]at q2;have hx:=(lv y x).mp (Yz r1);have OC:x<es.size:=by have:=(List.getElem?_eq_some_iff.mp hx).1;left
   have q2:some (es.getD x default).1=some h:=q2;refine(O.Tc x y h hx ?_).mono λz hz=>by
    show z∈(live.map (·.1)).toArray.toList;simpa using (pl z).mpr hz
   rw[<- q2,Array.toList_map,List.getElem?_map,Array.getElem?_toList,Array.getElem?_eq_getElem OC];simp[OC]
 ·rw[e3];refine(perm.map _).trans ?_;have:(List.range es.size).map (λi=>es.getD i default)=es.toList:=by
   refine Zo (by simp) λi h1 h2=>?_;have hi:i<es.size:=by simpa using h1
   simp[hi]
  rw[this]
end NT
end
section
namespace NT
open PySem PySem.Spec PyProof.Rows L2 DI
variable {ks:aa}
section
variable {prog:ax}{w:World}{A:ay}{E:av}{s:Shared}
noncomputable abbrev NK:=Int×aa
noncomputable def oI(k:NK):Int:=reduceHash (Builtin.Tuple.tupleHashOf [hashInt k.1,reduceHash (Builtin.Tuple.tupleHashOf (k.2.map hashInt))])
def cP(prog:ax)(w:World)(h:Heap)(k:NK)(a:Addr):Prop:=∃(o:Obj) (items:aQ) (n:Nat) (b:Addr) (t:Tok),h.get? a=some o/\o.cls=.type "tuple" /\ o.data=.seq items n/\items.toList=[.int k.1 t,.ref b]/\IsTupleKey (intKind prog w) h k.2 b
theorem cP.typ{k:NK}{a:Addr}(x:cP prog w s.heap k a):s.TypeIs (.ref a) "tuple":=let ⟨o,_,_,_,_,h1,h2,_⟩:=x;⟨o,h1,h2⟩
theorem cP.keep{h h':Heap}{k:NK}{a:Addr}(x:cP prog w h k a)(hk:∀b o,h.get? b=some o->o.cls=.type "tuple" -> h'.get? b=some o):cP prog w h' k a:=by
 obtain⟨o,aC,n,b,t,h1,h2,h3,h4,o',its',n',g1,g2,g3,g4⟩:=x;exact⟨o,aC,n,b,t,hk _ _ h1 h2,h2,h3,h4,o',its',n',hk _ _ g1 g2,g2,g3,g4⟩
theorem Cb{n:Nat}{a:Addr}{Q:Bool->Shared->Prop}(hk:IsTupleKey (intKind prog w) s.heap ks a)(h:Q true s):wpAny (model prog w) A (eqIsQuiet (n+1) (.ref a)) Q E s:=by
 have hT:=hk.typeIs;obtain⟨o,items,n,ho,_,hd,hi⟩:=hk;unfold eqIsQuiet;refine Yj (Zi hT F.slot_tuple_eq.lookup ?_);show wpAny _ _ (isInstance (.ref a) (.type "tuple") >>= _) _ _ s;refine Yj (Zq hT aac ?_);simp only[Bool.not_true,Bool.false_eq_true,if_false];refine Yj (Zd ho hd ?_);refine Yj ?_;show wpAny _ _ (forIn items _ _) _ _ s;rw[<- Array.forIn_toList];refine YW _ (λrest r s'=>r.1=none/\s'=s/\∀v∈rest,carriedByValue v=true) _ ?_ ?_ _ _ ⟨rfl,rfl,hi.byValue⟩
 ·rintro v rest r s' ⟨hr,rfl,dj⟩;rw[eqIsQuiet_byValue _ (dj v List.mem_cons_self)];refine Yj (Yk ?_);simp only[Bool.not_true,Bool.false_eq_true,if_false];exact Yk ⟨rfl,rfl,λu sS=>dj u (Yq _ sS)⟩
 ·rintro ⟨r1,r2⟩ s' ⟨hr,rfl,_⟩;simp only at hr;subst hr;exact Yk h
theorem uA{k:NK}{a:Addr}{Q:Bool->Shared->Prop}(hk:cP prog w s.heap k a)(h:Q true s):wpAny (model prog w) A (eqIsQuiet 8 (.ref a)) Q E s:=by
 have hT:=hk.typ;obtain⟨o,items,n,b,t,ho,hc,hd,hi,hb⟩:=hk;unfold eqIsQuiet;refine Yj (Zi hT F.slot_tuple_eq.lookup ?_);show wpAny _ _ (isInstance (.ref a) (.type "tuple") >>= _) _ _ s;refine Yj (Zq hT aac ?_);simp only[Bool.not_true,Bool.false_eq_true,if_false];refine Yj (Zd ho hd ?_);refine Yj ?_;show wpAny _ _ (forIn items _ _) _ _ s;rw[<- Array.forIn_toList];refine YW _ (λrest r s'=>r.1=none/\s'=s/\∀v∈rest,v=.ref b\/v=.int k.1 t) _ ?_ ?_ _ _ ⟨rfl,rfl,λv hv=>by rw[hi]at hv;simpa [or_comm]using hv⟩
 ·rintro v rest r s' ⟨hr,rfl,dj⟩;refine Yj (show wpAny (model prog w) A (eqIsQuiet 7 v) _ E s' from ?_);have fin:wpAny (model prog w) A (eqIsQuiet 7 v) (λq s1=>q=true/\s1=s') E s':=by
   rcases dj v Yo with rfl|rfl
   ·exact Cb (n:=6) hb ⟨rfl,rfl⟩
   ·rw[eqIsQuiet_byValue _ rfl];exact Yk ⟨rfl,rfl⟩
  refine YC fin (λq s1 bz=>?_) λ_ _ e=>e;obtain⟨e1,e2⟩:=bz;subst e1 e2;simp only[Bool.not_true,Bool.false_eq_true,if_false];exact Yk ⟨rfl,rfl,λu sS=>dj u (Yq _ sS)⟩
 ·rintro ⟨r1,r2⟩ s' ⟨hr,rfl,_⟩;simp only at hr;subst hr;exact Yk h
theorem DH{n:Nat}{a:Addr}{Q:Bool->Shared->Prop}(hk:IsTupleKey (intKind prog w) s.heap ks a)(h:Q false s):wpAny (model prog w) A (ofAClassStatement (n+1) (.ref a)) Q E s:=by
 have hT:=hk.typeIs;obtain⟨o,items,n,ho,_,hd,hi⟩:=hk;unfold ofAClassStatement;refine Yj (aag hT ?_);dsimp only;rw[YV (show(("tuple" : String) == "tuple")=true from by decide)];refine Yj (Yk ?_);rw[if_neg (show ¬ (!true)=true from by decide)];refine Yj (Zd ho hd ?_);dsimp only;refine Yj ?_;rw[<- Array.forIn_toList];refine YW _ (λrest r s'=>r.1=none/\s'=s/\∀v∈rest,carriedByValue v=true) _ ?_ ?_ _ _ ⟨rfl,rfl,hi.byValue⟩
 ·rintro v rest r s' ⟨hr,rfl,dj⟩;have hv:=dj v Yo;have e:∀m,ofAClassStatement m v=pure false:=λm=>by
   cases v with
   |ref a=>simp[carriedByValue]at hv
   |_=>cases m<;>rfl
  rw[e];refine Yj (Yk ?_);rw[if_neg (by decide)];exact Yk ⟨rfl,rfl,λu sS=>dj u (Yq _ sS)⟩
 ·rintro ⟨r1,r2⟩ s' ⟨hr,rfl,_⟩;simp only at hr;subst hr;exact Yk h
theorem vJ{k:NK}{a:Addr}{Q:Bool->Shared->Prop}(hk:cP prog w s.heap k a)(h:Q false s):wpAny (model prog w) A (ofAClassStatement 8 (.ref a)) Q E s:=by
 have hT:=hk.typ;obtain⟨o,items,n,b,t,ho,hc,hd,hi,hb⟩:=hk;unfold ofAClassStatement;refine Yj (aag hT ?_);dsimp only;rw[YV (show(("tuple" : String) == "tuple")=true from by decide)];refine Yj (Yk ?_);rw[if_neg (show ¬ (!true)=true from by decide)];refine Yj (Zd ho hd ?_);dsimp only;refine Yj ?_;rw[<- Array.forIn_toList];refine YW _ (λrest r s'=>r.1=none/\s'=s/\∀v∈rest,v=.ref b\/v=.int k.1 t) _ ?_ ?_ _ _ ⟨rfl,rfl,λv hv=>by rw[hi]at hv;simpa [or_comm]using hv⟩
 ·rintro v rest r s' ⟨hr,rfl,dj⟩;have fin:wpAny (model prog w) A (ofAClassStatement 7 v) (λq s1=>q=false/\s1=s') E s':=by
   rcases dj v Yo with rfl|rfl
   ·exact DH (n:=6) hb ⟨rfl,rfl⟩
   ·exact Yk ⟨rfl,rfl⟩
  refine Yj (YC fin (λq s1 bz=>?_) λ_ _ e=>e);obtain⟨e1,e2⟩:=bz;subst e1 e2;rw[if_neg (by decide)];exact Yk ⟨rfl,rfl,λu sS=>dj u (Yq _ sS)⟩
 ·rintro ⟨r1,r2⟩ s' ⟨hr,rfl,_⟩;simp only at hr;subst hr;exact Yk h
theorem NG{n:Nat}{a:Addr}{Q:Bool->Shared->Prop}(hk:IsTupleKey (intKind prog w) s.heap ks a)(h:Q true s):wpAny (model prog w) A (hashByValue (n+1) (.ref a)) Q E s:=by
 have hT:=hk.typeIs;obtain⟨o,items,n,ho,_,hd,hi⟩:=hk;unfold hashByValue;refine Yj (Zi hT F.slot_tuple_hash.lookup ?_);show wpAny _ _ (seqItems? (.ref a) >>= _) _ _ s;refine Yj (Zd ho hd ?_);refine Yj ?_;show wpAny _ _ (forIn items _ _) _ _ s;rw[<- Array.forIn_toList];refine YW _ (λrest r s'=>r.1=none/\s'=s/\∃ks,ItemsAre (intKind prog w) ks rest) _ ?_ ?_ _ _ ⟨rfl,rfl,_,hi⟩
 ·rintro v rest r s' ⟨hr,rfl,_,dj⟩;cases dj with
  |cons h1 h2 =>
   obtain⟨t,rfl⟩:=aaD (show Value.isInt _ v=true from h1);have e:∀m x,hashByValue m (.int x t)=pure true:=λm x=>by cases m<;>rfl
   rw[e];refine Yj (Yk ?_);rw[if_neg (by decide)];exact Yk ⟨rfl,rfl,_,h2⟩
 ·rintro ⟨r1,r2⟩ s' ⟨hr,rfl,_⟩;simp only at hr;subst hr;exact Yk h
theorem NH{k:NK}{a:Addr}{Q:Bool->Shared->Prop}(hk:cP prog w s.heap k a)(h:Q true s):wpAny (model prog w) A (hashByValue 8 (.ref a)) Q E s:=by
 have hT:=hk.typ;obtain⟨o,items,n,b,t,ho,hc,hd,hi,hb⟩:=hk;unfold hashByValue;refine Yj (Zi hT F.slot_tuple_hash.lookup ?_);show wpAny _ _ (seqItems? (.ref a) >>= _) _ _ s;refine Yj (Zd ho hd ?_);refine Yj ?_;show wpAny _ _ (forIn items _ _) _ _ s;rw[<- Array.forIn_toList];refine YW _ (λrest r s'=>r.1=none/\s'=s/\∀v∈rest,v=.ref b\/v=.int k.1 t) _ ?_ ?_ _ _ ⟨rfl,rfl,λv hv=>by rw[hi]at hv;simpa [or_comm]using hv⟩
 ·rintro v rest r s' ⟨hr,rfl,dj⟩;have fin:wpAny (model prog w) A (hashByValue 7 v) (λq s1=>q=true/\s1=s') E s':=by
   rcases dj v Yo with rfl|rfl
   ·exact NG (n:=6) hb ⟨rfl,rfl⟩
   ·exact Yk ⟨rfl,rfl⟩
  refine Yj (YC fin (λq s1 bz=>?_) λ_ _ e=>e);obtain⟨e1,e2⟩:=bz;subst e1 e2;rw[if_neg (by decide)];exact Yk ⟨rfl,rfl,λu sS=>dj u (Yq _ sS)⟩
 ·rintro ⟨r1,r2⟩ s' ⟨hr,rfl,_⟩;simp only at hr;subst hr;exact Yk h
theorem HR{k:NK}{a:Addr}{Q:Int->Shared->Prop}(hu:A.units+1<cLine)(hk:cP prog w s.heap k a)(h:Q (oI k) { s with toks:=s.toks+(k.2.length+3) }):wpAny (model prog w) A (pyHash (.ref a)) Q E s:=by
 have hT:=hk.typ;obtain⟨o,items,n,b,t,ho,hc,hd,hi,hb⟩:=hk;unfold pyHash
 first|unfold pyHashByItsType|skip
 first|refine Yj (wpAny_cRoomFor_or (.inr (by left)) ?_)|skip
 refine Yj (Zi hT F.slot_tuple_hash.lookup ?_);show wpAny _ _ (if (some (Value.builtin "tuple.__hash__")==some Value.none)=true then _ else _) Q E s;rw[if_neg (by rw[beq_builtin_none];exact Bool.false_ne_true)];refine Yj (Zi hT F.slot_tuple_hash.lookup ?_);show wpAny _ _ (callSpecialIfBoundUnlessNone? (.ref a) "__hash__" _ >>= _) Q E s;refine Yj (wpAny_callSpecialIfBoundUnlessNone?_slot hT F.slot_tuple_hash (YE F.slot_tuple_hash hT F.entry_tuple_hash ?_ (F.args_tuple_hash_1 _)));show wpAny _ _ (Builtin.Tuple.tupleItemsOf (.ref a) >>= _) _ _ s;refine Yj (aaA ho hd ?_);refine Yj ?_;rw[<- Array.forIn_toList,hi];have h1:(tupleKind (intKind prog w)).hash k.2=reduceHash (Builtin.Tuple.tupleHashOf (k.2.map hashInt)):=rfl;refine YW _
  (λrest (z:Array Int) s'=>(rest=[.int k.1 t,.ref b]/\z.toList=[]/\s'=s)\/(rest=[.ref b]/\z.toList=[hashInt k.1]/\s'={ s with toks:=s.toks+1 })\/(rest=[]/\z.toList=[hashInt k.1,(tupleKind (intKind prog w)).hash k.2]/\s'={ s with toks:=s.toks+1+(k.2.length+1) }))
  _ ?_ ?_ _ _ (.inl ⟨rfl,rfl,rfl⟩)
 ·rintro x rest z s' (⟨hr,hz,rfl⟩|⟨hr,hz,rfl⟩|⟨hr,_⟩)
  ·cases hr;refine Yj (wpAny_pyHash_int ?_)
   first
    |exact Yk (.inr (.inl ⟨rfl,by simp[hz],rfl⟩))
    |exact Yj (Yk (Yk (.inr (.inl ⟨rfl,by simp[hz],rfl⟩))))
  ·cases hr;refine Yj ((tupleKind (intKind prog w)).pyHash (by first|exact hu | (show _<_;left)) hb ?_)
   first
    |exact Yk (.inr (.inr ⟨rfl,by simp[hz],rfl⟩))
    |exact Yj (Yk (Yk (.inr (.inr ⟨rfl,by simp[hz],rfl⟩))))
  ·cases hr
 ·rintro z s' (⟨hr,_⟩|⟨hr,_⟩|⟨_,hz,rfl⟩)
  ·cases hr
  ·cases hr
  show wpAny _ _ (retInt (Builtin.Tuple.tupleHashOf z.toList)) _ _ _;rw[hz];refine wpAny_ret_mkInt ?_;have he:oI k=reduceHash (Builtin.Tuple.tupleHashOf [hashInt k.1,(tupleKind (intKind prog w)).hash k.2]):=rfl;rw[he]at h;generalize Builtin.Tuple.tupleHashOf [hashInt k.1,(tupleKind (intKind prog w)).hash k.2]=V at h ⊢;show wpAny _ _ (if (decide (-(2:Int) ^ 63<=V)&&decide (V<2 ^ 63))=true then _ else _) Q E _;unfold reduceHash at h;have e:s.toks+1+(k.2.length+1)+1=s.toks+(k.2.length+3):=by left
  by_cases hr:(decide (-(2:Int) ^ 63<=V)&&decide (V<2 ^ 63))=true
  ·rw[if_pos hr];rw[if_pos hr]at h;exact Yk (by simpa [e]using h)
  ·rw[if_neg hr];rw[if_neg hr]at h;exact Yj (ZF (Yk (by simpa [e]using h)))
theorem w_{k:NK}{a b:Addr}{P:PySem.Fin->Shared->Prop}(hu:A.units<cLine)(hx:cP prog w s.heap k a)(hy:cP prog w s.heap k b)(h:P (.done (.ret (.bool true))) s):
  wpAny (model prog w) A (Builtin.«tuple.__eq__» ⟨[.ref a,.ref b],[]⟩) P E s:=by
 have WN:=hy.typ;obtain⟨oa,xs,na,a1,t,We,_,Wz,MI,ha⟩:=hx;obtain⟨ob,ys,nb,b1,u,Wd,_,HL,Ug,hb⟩:=hy;show wpAny _ _ (isInstance (.ref b) (.type "tuple") >>= _) _ _ s;refine Yj (Zq WN aac ?_);simp only[Bool.not_true,Bool.false_eq_true,if_false];refine Yj (aaA We Wz ?_);refine Yj (aaA Wd HL ?_);refine Yj ?_;have hsz:(xs.size==ys.size)=true:=by
  rw[<- Array.length_toList,<- Array.length_toList,MI,Ug];rfl
 rw[MI,Ug];refine YW _
  (λrest r s'=>r.1=none/\s'=s/\∀z∈rest,z=(.int k.1 t,.int k.1 u)\/z=(.ref a1,.ref b1))
  _ ?_ ?_ _ _ ⟨rfl,rfl,λz hz=>by simpa using hz⟩
 ·rintro ⟨p,q⟩ rest r s' ⟨hr,rfl,dj⟩;have fin:wpAny (model prog w) A (eqBool p q) (λz s1=>z=true/\s1=s') E s':=by
   rcases dj _ Yo with e|e
   ·cases e;exact Z7 ⟨by simp,rfl⟩
   ·cases e;exact(tupleKind (intKind prog w)).eqBool hu ha hb ⟨by simp,rfl⟩
  refine Yj (YC fin (λz s1 bz=>?_) λ_ _ e=>e);obtain⟨e1,e2⟩:=bz;subst e1 e2;simp only[Bool.not_true,Bool.false_eq_true,if_false];exact Yk ⟨by first|rfl|trivial,by first|rfl|trivial,λz hz=>dj z (Yq _ hz)⟩
 ·rintro ⟨r1,r2⟩ s' ⟨hr,rfl,_⟩;simp only at hr;subst hr;refine Yk ?_;show P (.done (.ret (.bool (xs.size==ys.size)))) s';rw[hsz];exact h
theorem Nk{k:NK}{a b:Addr}{Q:Bool->Shared->Prop}(hu:A.units+1<cLine)(hx:cP prog w s.heap k a)(hy:cP prog w s.heap k b)(h:Q true s):
  wpAny (model prog w) A (eqBool (.ref a) (.ref b)) Q E s:=by
 unfold eqBool
 try with_reducible refine YD ?_
 show wpAny _ _ (if (Value.ref a==Value.ref b)=true then _ else _) Q E s;by_cases wZ:(Value.ref a==Value.ref b)=true
 ·rw[if_pos wZ];exact Yj (ZF (Yk h))
 ·rw[if_neg wZ];exact Yj (wpAny_richCompare_same_room (op:=.Eq) hx.typ hy.typ F.slot_tuple_eq
   (YE F.slot_tuple_eq hx.typ F.entry_tuple_eq (w_ (by first|exact hu | (show _<_;left)) hx hy ⟨_,rfl,(λe=>nomatch e),Y0 h⟩) (F.args_tuple_eq_2 _ _)) (by left))
theorem F2{a:Addr}{k:NK}(hx:cP prog w s.heap k a)(stored:ai)(hs:∀v∈stored,∃b k',v=.ref b/\cP prog w s.heap k' b){Q:Bool->Shared->Prop}(h:Q false s):wpAny (model prog w) A (searchCouldBeSeen (.ref a) stored) Q E s:=by
 unfold searchCouldBeSeen;refine Yj ?_;refine YW _ (λrest r s'=>r.1=none/\s'=s/\∀v∈rest,∃b k',v=.ref b/\cP prog w s.heap k' b) _ ?_ ?_ _ _ ⟨rfl,rfl,hs⟩
 ·rintro v rest r s' ⟨hr,rfl,dj⟩;obtain⟨b,k',rfl,hb⟩:=dj v Yo;have uL:∀u∈rest,∃b k',u=.ref b/\cP prog w s'.heap k' b:=λu hu=>dj u (Yq _ hu);dsimp only;split
  ·exact Yk ⟨rfl,rfl,uL⟩
  ·refine Yj (uA hx ?_);simp only[Bool.not_true,Bool.false_eq_true,if_false];refine Yj (uA hb ?_);simp only[Bool.not_true,Bool.false_eq_true,if_false];refine Yj (vJ hx ?_);simp only[Bool.false_eq_true,if_false];refine Yj (vJ hb ?_);simp only[Bool.false_eq_true,if_false];exact Yk ⟨rfl,rfl,uL⟩
 ·rintro ⟨r1,r2⟩ s' ⟨hr,rfl,_⟩;simp only at hr;subst hr;exact Yk h
end
end NT
end
section
namespace NT
open PySem PySem.Spec PyProof.Rows SX
inductive eh(G:NK->ag):List (Int×Value)->List NK->Prop
 |nil:eh G [] []
 |cons {k:NK} {a:Addr} {es:List (Int×Value)} {ks:List NK}:G k a->eh G es ks->eh G ((oI k,.ref a)::es) (k::ks)
section
variable {prog:ax}{w:World}{A:ay}{E:av}{s:Shared}{G:NK->ag}
theorem eh.imp{G':NK->ag}{es:List (Int×Value)}{ks:List NK}(x:eh G es ks)(hk:∀k a,G k a->G' k a):eh G' es ks:=by
 induction x with
 |nil=>exact .nil
 |cons a _ ih=>exact .cons (hk _ _ a) ih
theorem eh.perm{es w9:List (Int×Value)}(p:w9.Perm es):∀{ks:List NK},eh G es ks->∃xE,eh G w9 xE/\xE.Perm ks:=by
 induction p with
 |nil=>intro ks x;exact⟨ks,x,Zn _⟩
 |cons z _ ih =>
  intro ks x;cases x with
  |cons a x =>
   obtain⟨xE,x',p'⟩:=ih x;exact⟨_,.cons a x',p'.cons _⟩
 |swap y z l =>
  intro ks x;cases x with
  |cons a x=>cases x with
   |cons b x=>exact⟨_,.cons b (.cons a x),List.Perm.swap _ _ _⟩
 |trans _ _ ih1 ih2 =>
  intro ks x;obtain⟨k2,x2,p2⟩:=ih2 x;obtain⟨k1,x1,p1⟩:=ih1 x2;exact⟨k1,x1,p1.trans p2⟩
theorem eh.len{es:List (Int×Value)}{ks:List NK}(x:eh G es ks):es.length=ks.length:=by
 induction x with
 |nil=>rfl
 |cons _ _ ih=>rw[List.length_cons,List.length_cons,ih]
theorem eh.Mn{es:List (Int×Value)}{ks:List NK}(x:eh G es ks):es.map (·.1)=ks.map oI:=by
 induction x with
 |nil=>rfl
 |cons _ _ ih=>rw[List.map_cons,List.map_cons,ih]
theorem eh.at_{es:List (Int×Value)}{ks:List NK}(x:eh G es ks):∀{i:Nat} {k:NK},ks[i]?=some k->∃a,es[i]?=some (oI k,.ref a)/\G k a:=by
 induction x with
 |nil=>intro i k e;simp at e
 |cons a _ ih =>
  intro i k e;cases i with
  |zero=>cases e;exact⟨_,rfl,a⟩
  |succ i=>exact ih e
theorem eh.all{es:List (Int×Value)}{ks:List NK}(x:eh G es ks):∀e∈es,∃a k,e.2=.ref a/\G k a:=by
 induction x with
 |nil=>intro e he;cases he
 |cons a _ ih =>
  intro e he;rcases List.mem_cons.mp he with rfl|he
  ·exact⟨_,_,rfl,a⟩
  ·exact ih e he
noncomputable def tW(b:Bool)(G:NK->ag)(h:Heap)(a:Addr)(l:List NK):Prop :=
 ∃o es ep t ks,h.get? a=some o/\o.ExactSet/\o.data=Data.set es ep t/\d4 b t (es.toList.map (·.1))/\eh G es.toList ks/\ks.Nodup/\(∀z,z∈ks ↔ z∈l)/\ks.length<=l.length/\es.size*5<t.mask*3
theorem tW.keep{b:Bool}{h h':Heap}{a:Addr}{l:List NK}(x:tW b G h a l)(k:∀o,h.get? a=some o->h'.get? a=some o):tW b G h' a l :=
 let ⟨o,es,ep,t,ks,e,r⟩:=x;⟨o,es,ep,t,ks,k _ e,r⟩
theorem nr{es:Array (Int×Value)}(i:Nat)(h:Int)(e:(es.toList.map (·.1))[i]?=some h):(es[i]?.map (·.1)).getD 0=h:=by
 rw[List.getElem?_map,Array.getElem?_toList]at e;rw[e];rfl
theorem FF{b:Bool}{a:Addr}{o:Obj}{es eu:Array (Int×Value)}{ep:Nat}{t t1:SetTable}{Q:Bool->Shared->Prop}(ho:s.heap.get? a=some o)(hd:o.data=.set es ep t)(N1:d4 b t1 (eu.toList.map (·.1)))(h9:eu.size<=9)(hn:eu.size=es.size+1)(nf:es.size*5<t1.mask*3)
  (h:∀h' mJ xa t3,Heap.SameBut a s.heap h'->h'.get? a=some { o with data:=.set mJ xa t3 }->mJ.toList.Perm eu.toList->d4 b t3 (mJ.toList.map (·.1))->mJ.size*5<t3.mask*3->Q true { s with heap:=h' }) :
  wpAny (model prog w) A (do storeSet a eu t1;if (!false&&t1.tooFull)=true then do { setRelay a (SetTable.grown (es.size+1));pure true } else pure true) Q E s:=by
 have zl:eu.size<=sizeLine:=by rw[sizeLine_eq];left
 refine Yj (ZX ho hd ?_ zl);have g1:=kc ho hd eu t1;have s1:=YI s.heap a (Obj.putSet eu t1);have ef:t1.fill=eu.size:=by
  unfold SetTable.fill;rw[N1.xO,N1.size];simp
 by_cases c:(!false&&t1.tooFull)=true
 ·rw[if_pos c];have c:t1.fill*5 ≥ t1.mask*3:=by
   have c:t1.tooFull=true:=by simpa using c
   unfold SetTable.tooFull at c;exact Yn c
  rw[ef]at c;have m7:t1.mask=7:=by rcases N1.Jy with e|e<;>left
  have n5:eu.size=5:=by left
  have n6:es.size+1=5:=by left
  rw[n6];obtain⟨t',ord,l1,l2,l3,l4⟩:=CM (t:=t1) eu N1.led (m:=31) (.inr rfl) (by left) (t1.movedTo 31);unfold setRelay;refine Yj (Yj (YM g1 rfl (N1.fits (by simp)) ?_));dsimp only;rw[if_neg (show ¬ SetTable.sizeAbove (SetTable.grown 5)>sizeLine from by rw[sizeLine_eq];decide)];have e1:t1.relaid (eu.map (·.1)) (SetTable.grown 5)=some (t',ord):=l1;rw[e1];have zs:(ord.filterMap (eu[·]?)).size=eu.size:=by rw[<- Array.length_toList,l3.length_eq,Array.length_toList]
  refine Yj (wpAny_of_eq (show _=pure (ord.filterMap (eu[·]?),t') from Z1 (by rw[zs];simp)) ?_);refine ZX g1 rfl (Yk ?_) (by show(ord.filterMap (eu[·]?)).size<=_;left);exact h _ _ _ t' (s1.trans (YI _ a _)) (kc g1 rfl _ t') l3 l2 (by show(ord.filterMap (eu[·]?)).size*5<_;left)
 ·rw[if_neg c];refine Yk (h _ eu _ t1 s1 g1 (Zn _) N1 ?_);have c:¬ t1.fill*5 ≥ t1.mask*3:=λz=>c (by
   have:t1.tooFull=true:=Zm z;rw[this];rfl)
  left
theorem add_n{b:Bool}{a r:Addr}{l:List NK}{k:NK}{U:NK->Prop}{Q:Bool->Shared->Prop}(hU:∀x y,U x->U y->oI x=oI y->x=y)(hl:∀x∈l,U x)(hk:U k)(hu:A.units+1<cLine)(hG:∀k a,G k a->cP prog w s.heap k a)(hS:tW b G s.heap a l)(T_:G k r)(room:l.length<=8)
  (h:∀h' z,Heap.SameBut a s.heap h'->tW b G h' a (l++[k])->Q z { s with heap:=h' }) :
  wpAny (model prog w) A (setAddHashed a (.ref r) (oI k)) Q E s:=by
 obtain⟨o,es,ep,t,ks,ho,hex,hd,N,Se,nd,hm,hle,nf⟩:=hS;have en:eh (cP prog w s.heap) es.toList ks:=Se.imp hG;have zl:es.size=ks.length:=by rw[<- Array.length_toList];exact en.len
 have fit:t.fits es.size=true:=N.fits (by simp);have hr:cP prog w s.heap k r:=hG _ _ T_;unfold setAddHashed setAddHashedIn;refine YD (Yj (YM ho hd fit ?_));dsimp only;rw[if_neg (show ¬ byScan (.ref r) es=true from λz=>by unfold byScan at z;simp[Value.scannable]at z)];unfold setSearch setSearchFrom;refine Yj (Yj (YM ho hd fit ?_));dsimp only;rw[N.gave,if_neg (by decide)];by_cases c:k∈ks
 ·obtain⟨j,i,nx,e1,e2⟩:=N.met (ha:=λi=>(es[i]?.map (·.1)).getD 0) nr (h:=oI k) (by rw[en.Mn];exact aar c);have hq:Q false s:=by
   have:=h s.heap false (Heap.SameBut.refl a s.heap) ⟨o,es,ep,t,ks,ho,hex,hd,N,Se,nd,λz=>?_,by simp;left,nf⟩
   ·exact this
   ·rw[List.mem_append,List.mem_singleton,<- hm];exact⟨.inl,λq=>q.elim id λq=>q▸c⟩
  rw[en.Mn,List.getElem?_map]at e2;obtain⟨k',e3,e4⟩:=Option.map_eq_some_iff.mp e2;have e5:k'=k:=hU _ _ (hl _ ((hm _).mp (Yz e3))) hk e4;subst e5;obtain⟨y,e6,hy⟩:=en.at_ e3;rw[Array.getElem?_toList]at e6
  erw [e1]
  dsimp only;have st:∀v∈(es.filter (·.1==oI k')).toList.map (·.2),∃b QP,v=.ref b/\cP prog w s.heap QP b:=λv hv=>by
   obtain⟨e,he,rfl⟩:=List.mem_map.mp hv;obtain⟨x,QP,q1,q2⟩:=en.all e (by
    have:=Array.mem_filter.mp (Array.mem_toList_iff.mp he);exact Array.mem_toList_iff.mpr this.1)
   exact⟨x,QP,q1,q2⟩
  split
  ·refine Yj (F2 hr _ st ?_);rw[if_neg (by decide),e6];dsimp only;refine Yj (YD (Nk hu hy hr ?_));refine Yj (YM ho hd fit ?_);rw[if_pos (by decide)];exact Yk (Yk hq)
  ·rw[e6];dsimp only;refine Yj (YD (Nk hu hy hr ?_));refine Yj (YM ho hd fit ?_);rw[if_pos (by decide)];exact Yk (Yk hq)
 ·have hn:oI k∉es.toList.map (·.1):=λz=>by
   rw[en.Mn]at z;obtain⟨k',e1,e2⟩:=List.mem_map.mp z;exact c (hU _ _ (hl _ ((hm _).mp e1)) hk e2▸e1)
  obtain⟨j,e1,j1,j2,j3⟩:=N.free (ha:=λi=>(es[i]?.map (·.1)).getD 0) nr hn
  erw [e1]
  dsimp only;refine Yk ?_;dsimp only;refine Yj (YM ho hd fit ?_);dsimp only;have XZ:es.size<=8:=by left
  have LI:es.size+1<=t.mask:=by rcases N.Jy with e|e<;>left
  obtain⟨N1,m1,p1⟩:=N.put j1 j2 j3 LI (.ref r);have pm:=SetTable.insertAt_perm es (t.put j).2 (oI k,Value.ref r);have O0:eh G (es.push (oI k,Value.ref r)).toList (ks++[k]):=by
   have key:∀{es:List (Int×Value)} {ks:List NK},eh G es ks->G k r->eh G (es++[(oI k,.ref r)]) (ks++[k]):=λx y=>by
    induction x with
    |nil=>exact .cons y .nil
    |cons a _ ih=>exact .cons a ih
   rw[Array.toList_push];exact key Se T_
  generalize (t.put j).2=pl at *;generalize (t.put j).1=t1 at *;have z1:(SetTable.insertAt es pl (oI k,Value.ref r)).size=es.size+1:=cJ ..;have fin:wpAny (model prog w) A (do storeSet a (SetTable.insertAt es pl (oI k,Value.ref r)) t1;if (!false&&t1.tooFull)=true then do { setRelay a (SetTable.grown (es.size+1));pure true } else pure true) Q E s:=by
   refine FF ho hd N1 (by left) z1 (by rw[m1];exact nf) λh' mJ xa t3 sb g3 p3 N3 VO=>?_;obtain⟨VQ,x3,q3⟩:=O0.perm (p3.trans pm);refine h h' true sb ⟨_,mJ,xa,t3,VQ,g3,hex,rfl,N3,x3,q3.nodup_iff.mpr ?_,λz=>?_,?_,VO⟩
   ·refine List.nodup_append.mpr ⟨nd,by simp,λx hx y hy e=>c ?_⟩;rw[List.mem_singleton.mp hy]at e;exact e▸hx
   ·rw[q3.mem_iff,List.mem_append,List.mem_append,hm]
   ·rw[q3.length_eq];simp;left
  split
  ·refine Yj (NH hr ?_);exact fin
  ·refine Yj (Yk ?_);exact fin
end
end NT
end
section
namespace NT
open PySem PySem.Spec PyProof.Rows SX DI
variable {Q:Value->Shared->Prop}
section
variable {prog:ax}{w:World}{A:ay}{E:av}{s:Shared}{G:NK->ag}
def tY(G:NK->ag)(out:ai)(ks:List NK):Prop:=out.length=ks.length/\∀(i:Nat) (k:NK),ks[i]?=some k->∃a,out[i]?=some (.ref a)/\G k a
theorem wt{l:Addr}{aC:ai}{cs:List NK}{U:NK->Prop}(hh:A.handled=none)(hu:A.units+4<cLine)(hl:s.heap.IsList l aC.toArray)(hU:∀x y,U x->U y->oI x=oI y->x=y)(hc:∀x∈cs,U x)(h8:cs.length<=8)(ho:tY G aC cs)
  (hG:∀k a,G k a->cP prog w s.heap k a)
  (h:∀(h':Heap) (tk:Nat),tW (!rJ w) G h' s.heap.objs.size cs->(∀b o,b<s.heap.objs.size->s.heap.get? b=some o->h'.get? b=some o)->Q (.ref s.heap.objs.size) { s with heap:=h',toks:=tk }) :
  wpAny (model prog w) A (call (.type "set") [.ref l]) Q E s:=by
 refine mY (T:=λi h=>tW (!rJ w) G h s.heap.objs.size (cs.take i)/\∀b o,s.heap.get? b=some o->h.get? b=some o) hh hl (λi h h' q k=>⟨q.1.keep λo e=>k _ o (Yv (YJ _)) e,λb o e=>k b o (Yv (YA (Yr e))) (q.2 b o e)⟩)
  (λh' k e=>⟨⟨_,#[],0,_,[],e,⟨rfl,rfl,rfl⟩,rfl,d4.fresh _,.nil,YS,λz=>by simp,by simp,by simp[SetTable.fresh]⟩,k⟩) (λi v s1 Q E p q k=>?_) λh' tk q kk=>h h' tk (by have:=q.1;rwa [ho.1,List.take_length]at this) kk
 have hi:i<cs.length:=by rw[<- ho.1];exact(List.getElem?_eq_some_iff.mp p).1
 obtain⟨r,e1,g1⟩:=ho.2 i _ (Yw hi);rw[p]at e1;cases e1;have Uv:∀k a,G k a->cP prog w s1.heap k a:=λk a g=>(hG k a g).keep λb o e _=>q.2 b o e;unfold setAdd;refine YD (Yj (HR (by show A.units+1+1+1+1<cLine;left) (Uv _ _ g1) ?_));refine add_n (s:={ s1 with toks:=s1.toks+(cs[i].2.length+3) }) (l:=cs.take i) hU (λx hx=>hc x (List.mem_of_mem_take hx)) (hc _ (Y4 hi)) (by show A.units+1+1+1+1<cLine;left) Uv q.1 g1 (by rw[List.length_take];left) λh' z sb S2=>?_;refine k h' _ z (aaL _ _) sb ⟨?_,λb o e=>?_⟩
 ·rw[List.take_succ,List.getElem?_eq_getElem hi];exact S2
 ·rw[sb.2 b (Nat.ne_of_lt (Heap.lt_size e))];exact q.2 b o e
theorem uN:∀{vs:ai} {ks:List NK},tY (cP prog w s.heap) vs ks->∃fs,PySem.W.KatTups s.heap vs fs/\fs.length=vs.length/\∀v∈fs,PySem.W.Looks (model prog w) s.heap (typeOf v) (.type "int")
 |[],_,_=>⟨[],trivial,rfl,λ_ h=>nomatch h⟩
 |v::vs,[],t=>by have:=t.1;simp at this
 |v::vs,k::ks,t=>by
  obtain⟨a,e1,o,items,n,b,tk,h1,h2,h3,h4,_⟩:=t.2 0 k rfl;cases e1;obtain⟨fs,f1,f2,f3⟩:=uN (vs:=vs) (ks:=ks) ⟨by simpa using t.1,λi ms e=>t.2 (i+1) ms e⟩;refine⟨.int k.1 tk::fs,.cons h1 h2 h3 (by rw[<- Array.getElem?_toList,h4];rfl) f1,by simp[f2],λv hv=>?_⟩;rcases List.mem_cons.mp hv with rfl|hv
  ·exact .now
  ·exact f3 v hv
theorem LU{a b:Addr}{k m:NK}{Q:Bool->Shared->Prop}(ha:cP prog w s.heap k a)(hb:cP prog w s.heap m b)(hs:k.1=m.1->a=b)(h:Q (HT.lexLt [k.1] [m.1]) s):wpAny (model prog w) A (keyLt' (tuples' true) (.ref a) (.ref b)) Q E s:=by
 obtain⟨o,aC,n,x,t,h1,_,h3,h4,_⟩:=ha;obtain⟨o',its',n',y,u,g1,_,g3,g4,_⟩:=hb;have z1:aC.size=2:=by rw[<- Array.length_toList,h4];rfl
 have z2:its'.size=2:=by rw[<- Array.length_toList,g4];rfl
 refine PySem.W.kat_lt h1 h3 g1 g3 ?_;rw[h4,g4,z1,z2];rw[HT.cm]at h;refine aaK (Z7 (PySem.W.kat_go (λe=>?_) λe=>?_))
 ·have e:k.1=m.1:=by simpa using e
  rw[if_pos e]at h;have ab:=hs e;subst ab;rw[h1]at g1;cases g1;rw[h3]at g3;cases g3;have xy:x=y:=by have q:=h4.symm.trans g4;simp at q;exact q.2
  subst xy;refine aaM (aaK ?_);unfold eqBool
  try with_reducible refine YD ?_
  show wpAny _ _ (if (Value.ref x==Value.ref x)=true then _ else _) _ _ s;rw[if_pos (by simp)];exact Yj (ZF (Yk (aaM (PySem.W.kat_nil h))))
 ·have e:¬ k.1=m.1:=by simpa using e
  rw[if_neg e]at h;exact PySem.W.kat_no (oneLt_int h)
theorem qh(hh:A.handled=none){a:Addr}{es:Array (Int×Value)}{ep:Nat}{t:SetTable}(hS:pS s.heap a es ep t)(I:dm (!rJ w) t)(hz:es.size<64){ks:List NK}(en:eh G es.toList ks)(hn:(ks.map (·.1)).Nodup)(hG:∀k a,G k a->cP prog w s.heap k a) 
  (h:∀(l:Addr) (s':Shared) (out:ai) (xE:List NK) (c:Nat),nV s s'->s.heap.objs.size<=l->s'.heap.get? l=some (seqObj "list" out.toArray c)->tY G out xE->xE.Perm ks->(xE.map (·.1)).Pairwise (· <= ·)->Q (.ref l) s'):wpAny (model prog w) A (call (.builtin "sorted") [.ref a]) Q E s:=by
 refine Zk kind_sorted plain_sorted entry_sorted (args_sorted1 _) ?_;unfold Builtin.«sorted»;refine Yj (m:=checkCount "sorted" 1 1 _) (Yk (Yj (jR (A:=A.in1) hh hS I (by unfold scanBound;left) λord s1 p Gr=>?_)));have ol:ord.length=es.size:=by simpa using p.length_eq
 obtain⟨iH,O0,pk⟩:=en.perm p;have kl:ord.length=iH.length:=O0.len;refine Yj (ZI ?_ (by rw[List.length_map,sizeLine_eq];left));have ou:tY G (ord.map (·.2)) iH:=⟨by simp[kl],λi k e=>by
  obtain⟨a,q1,q2⟩:=O0.at_ e;exact⟨a,by rw[List.getElem?_map,q1];rfl,q2⟩⟩
 have g1:(s1.heap.push (seqObj "list" (ord.map (·.2)).toArray 0)).get? s1.heap.objs.size=some (seqObj "list" (ord.map (·.2)).toArray 0):=Yt _ rfl;have up:s.heap.objs.size<=s1.heap.objs.size:=Gr.size;show wpAny _ _ _ _ _ ({ s1 with heap:=s1.heap.push (seqObj "list" (ord.map (·.2)).toArray 0) }:Shared);generalize OE:ord.map (·.2)=vs at *;have vl:vs.length=iH.length:=ou.1;have WS:∀k a,G k a->cP prog w (((((s1.heap.push (seqObj "list" vs.toArray 0)).update s1.heap.objs.size (Obj.mapSeq λ_=>#[])).push (seqObj "tuple" vs.toArray 0)).push (seqObj "list" #[] 0))) k a:=λk a g=>(hG k a g).keep λb o e _=>by
  have:=Gr.heap b o e;refine Ym _ (Ym _ ?_);rw[Heap.get?_update_other _ _ (Nat.ne_of_gt (Heap.lt_size this))];exact Ym _ this
 have Qr:tY (cP prog w (((((s1.heap.push (seqObj "list" vs.toArray 0)).update s1.heap.objs.size (Obj.mapSeq λ_=>#[])).push (seqObj "tuple" vs.toArray 0)).push (seqObj "list" #[] 0)))) vs iH:=⟨vl,λi k e=>let ⟨a,q1,q2⟩:=ou.2 i k e;⟨a,q1,WS _ _ q2⟩⟩
 have Ts:(iH.map (·.1)).Nodup:=(pk.map _).nodup_iff.mpr hn;have Tr:(iH.map λk=>[k.1]).Nodup:=by
  have:(iH.map λk=>[k.1])=(iH.map (·.1)).map λn=>[n]:=by rw[List.map_map];rfl
  rw[this,List.Nodup,List.pairwise_map];exact Ts.imp λh e=>h (by cases e;rfl)
 refine Yj (YD (YE slot_list_sort ⟨_,g1,rfl⟩ aah (qj (s:={ s1 with heap:=s1.heap.push (seqObj "list" vs.toArray 0) }) (nss:=iH.map λk=>[k.1]) g1 (by left) Tr (by simp[vl]) (λκ=>κ=tuples' true) (λxJ Q hQ=>?_) (λκ hκ i j hi hj E' Q hq=>?_) λpm hp hs=>⟨_,rfl,Yk ⟨_,rfl,?_⟩⟩) (args_list_sort _)))
 ·obtain⟨fs,f1,f2,f3⟩:=uN (prog:=prog) (w:=w) (s:={ s1 with heap:=((((s1.heap.push (seqObj "list" vs.toArray 0)).update s1.heap.objs.size (Obj.mapSeq λ_=>#[])).push (seqObj "tuple" vs.toArray 0)).push (seqObj "list" #[] 0)) }) Qr;exact PySem.W.kat_kind (T:=.type "int") f1 (by rw[f2];exact List.length_pos_iff.mpr xJ) f3 (by decide) (hQ _ rfl)
 ·subst hκ;have fb:i<iH.length:=by simpa using hi
  have JL:j<iH.length:=by simpa using hj
  obtain⟨x,e1,q1⟩:=Qr.2 i _ (Yw fb);obtain⟨y,e2,q2⟩:=Qr.2 j _ (Yw JL);rw[show vs.getD i Value.none=.ref x by simp[e1],show vs.getD j Value.none=.ref y by simp[e2]];refine LU q1 q2 (λe=>?_) (by simpa using hq);have e':(iH.map (·.1))[i]'(by simpa using fb)=(iH.map (·.1))[j]'(by simpa using JL):=by simpa using e
  have:=(Z8 Ts).mp e';subst this;rw[e1]at e2;cases e2;rfl
 ·obtain⟨c,e⟩:=sortedHeap_at g1 (out:=List.toArray (pm.toList.map λi=>vs.getD i Value.none));have hm:∀i∈pm.toList,i<iH.length:=λi hi=>by rw[<- vl];exact List.mem_range.mp (hp.pm.mem_iff.mp hi)
  refine h s1.heap.objs.size _ (pm.toList.map λi=>vs.getD i Value.none) (pm.toList.map λi=>iH.getD i (0,[])) c ⟨λb o hb=>?_,Gr.gens,Gr.os,Gr.toks,ZO (YH up (Yr e))⟩ up e ⟨by simp,λi k q=>?_⟩ ?_ ?_
  ·have hl:=Yr (Gr.heap b o hb);exact(sortedHeap_old (Yv hl) (by rw[Heap.size_push];exact YA hl)).trans (Ym _ (Gr.heap b o hb))
  ·rw[List.getElem?_map]at q;obtain⟨j,hj,rfl⟩:=Option.map_eq_some_iff.mp q;have JL:=hm j (Yz hj);obtain⟨x,e1,q1⟩:=ou.2 j _ (Yw JL);refine⟨x,?_,?_⟩
   ·rw[List.getElem?_map,hj];simp[e1]
   ·have:iH.getD j (0,[])=iH[j]:=by simp[JL]
    rw[this];exact q1
  ·refine List.Perm.trans ?_ pk;refine(hp.pm.map _).trans ?_;rw[vl];have:(List.range iH.length).map (λi=>iH.getD i (0,[]))=iH:=by
    refine Zo (by simp) λi h1 h2=>?_;simp[h2]
   rw[this]
  ·have r:=hV Tr;rw[<- hs]at r;unfold DI.fJ at r;rw[List.pairwise_map]at r;rw[List.map_map,List.pairwise_map];refine ZS (λ{i j} hi hj hr=>?_) r;have e1:(iH.map λk=>[k.1]).getD i []=[(iH.getD i (0,[])).1]:=by simp[hm i hi]
   have e2:(iH.map λk=>[k.1]).getD j []=[(iH.getD j (0,[])).1]:=by simp[hm j hj]
   rw[e1,e2,HT.cm]at hr;show(iH.getD i (0,[])).1<=(iH.getD j (0,[])).1;split at hr
   ·rename_i q;left
   ·have:=Yn hr;left
end
end NT
end
section
namespace DI
open PySem PySem.Spec PyProof.Rows L2 NT
def ej(c:NK):D:=.tup [.int c.1,cX c.2]
noncomputable def univ:List NK:=(List.range 10).flatMap λb=>(List.range b).filterMap λa=>if Nat.gcd a b=1 then some (((a*2520 / b:Nat):Int),[(a:Int),(b:Int)])else none
theorem FC:(univ.map oI).Nodup:=by decide +kernel
theorem ye:(univ.map (·.1)).Nodup:=by decide +kernel
theorem map_inj{α β:Type}{f:α->β}:∀{l:List α},(l.map f).Nodup->∀x y,x∈l->y∈l->f x=f y->x=y
 |a::l,h,x,y,hx,hy,e=>by
  obtain⟨h1,h2⟩:=List.nodup_cons.mp (show(f a::l.map f).Nodup from h);rcases List.mem_cons.mp hx with q|q
  ·rcases List.mem_cons.mp hy with r|r
   ·rw[q,r]
   ·exact absurd (by rw[<- q,e];exact aar r) h1
  ·rcases List.mem_cons.mp hy with r|r
   ·exact absurd (by rw[<- r,<- e];exact aar q) h1
   ·exact map_inj h2 x y q r e
noncomputable def qT:D->Option Int
 |.int i=>some i
 |_=>none
def VN(z:D×D):Option NK:=(qT z.1).bind λa=>(keyOf z.2).map λb=>(a,b)
noncomputable def Pq:D->Option (ae)
 |.tup ds=>some ds
 |_=>none
def zg(d:D):Option NK:=((Pq d).bind two).bind VN
theorem CF{d:D}{c:NK}(h:zg d=some c):d=ej c:=by
 obtain⟨z,h1,h2⟩:=Option.bind_eq_some_iff.mp h;obtain⟨ds,h3,h4⟩:=Option.bind_eq_some_iff.mp h1;obtain⟨a,h5,h6⟩:=Option.bind_eq_some_iff.mp h2;obtain⟨b,h7,rfl⟩:=Option.map_eq_some_iff.mp h6;cases d<;>first | (cases h3;done)|skip
 cases h3;obtain⟨x,y⟩:=z;have h5:qT x=some a:=h5;cases x<;>first | (cases h5;done)|skip
 cases h5;have h7:keyOf y=some b:=h7;rw[hJ h4,iZ h7];rfl
theorem zf(c:NK):zg (ej c)=some c:=by
 show(keyOf (cX c.2)).map (λb=>(c.1,b))=_;rw[show keyOf (cX c.2)=some c.2 from bF c.2];rfl
def oH:ae->Option (List NK)
 |[]=>some []
 |d::ds=>(zg d).bind λc=>(oH ds).map (c :: ·)
theorem uM:∀{ds:ae} {cs:List NK},oH ds=some cs->ds=cs.map ej
 |[],cs,h=>by cases h;rfl
 |d::ds,cs,h=>by
  obtain⟨c,h1,h2⟩:=Option.bind_eq_some_iff.mp (show(zg d).bind (λc=>(oH ds).map (c :: ·))=some cs from h);obtain⟨l,h3,rfl⟩:=Option.map_eq_some_iff.mp h2;rw[CF h1,uM h3];rfl
theorem qI:∀cs:List NK,oH (cs.map ej)=some cs
 |[]=>rfl
 |c::cs=>by
  show(zg (ej c)).bind (λc=>(oH (cs.map ej)).map (c :: ·))=_;rw[zf,qI cs];rfl
noncomputable def wo:List NK->Int->aa
 |[],_=>[]
 |c::cs,n=>if c.1=n then c.2 else wo cs n
theorem k7:∀{cs:List NK} {c:NK},(∀x y,x∈cs->y∈cs->x.1=y.1->x=y)->c∈cs->wo cs c.1=c.2
 |d::cs,c,hn,h=>by
  unfold wo;by_cases e:d.1=c.1
  ·rw[if_pos e,hn d c List.mem_cons_self h e]
  ·rw[if_neg e];rcases List.mem_cons.mp h with rfl|h
   ·exact absurd rfl e
   ·exact k7 (λx y hx hy=>hn x y (Yq _ hx) (Yq _ hy)) h
def iR(cs:List NK):List NK:=(sortI (dG (cs.map (·.1)))).map λn=>(n,wo cs n)
def wm(xs:ae):O D:=match one xs with
 |some x=>match x with
  |.lst _ ds=>match oH ds with
   |some cs=>if cs.length<=8/\∀c∈cs,c∈univ then ok (.lst .ow ((iR cs).map ej))else none
   |none=>none
  |_=>none
 |none=>none
theorem BQ{xs:ae}{d:D}(h:wm xs=ok d):∃(f:Fl) (cs:List NK),xs=[.lst f (cs.map ej)]/\cs.length<=8/\(∀c∈cs,c∈univ)/\d=.lst .ow ((iR cs).map ej):=by
 unfold wm at h;cases hw:one xs with
 |none=>rw[hw]at h;exact nk h
 |some x =>
  obtain rfl:=cU hw;rw[hw]at h;cases x<;>first|exact nk h | (cases h;done)|skip
  rename_i f ds;have h:(match oH ds with|some cs=>if cs.length<=8/\∀c∈cs,c∈univ then ok (D.lst .ow ((iR cs).map ej))else none|none=>none)=ok d:=h;cases hn:oH ds with
  |none=>rw[hn]at h;exact nk h
  |some cs =>
   rw[hn]at h;obtain⟨⟨h1,h2⟩,h3⟩:=qU h;cases uM hn;exact⟨f,cs,rfl,h1,h2,h3.symm⟩
theorem iu:∀(ns m:aa),m.Nodup->(ns.foldl (λ(m:aa) (k:Int)=>if m.any (· == k)then m else m++[k]) m).Nodup/\∀x,x∈ns.foldl (λ(m:aa) (k:Int)=>if m.any (· == k)then m else m++[k]) m ↔ x∈m\/x∈ns
 |[],m,h=>⟨h,λx=>by simp⟩
 |k::ns,m,h=>by
  rw[List.foldl_cons];by_cases c:m.any (· == k)=true
  ·rw[if_pos c];obtain⟨i1,i2⟩:=iu ns m h;obtain⟨y,hy,e⟩:=List.any_eq_true.mp c;have e:y=k:=by simpa using e
   subst e;refine⟨i1,λx=>?_⟩;rw[i2,List.mem_cons];exact⟨λz=>z.elim .inl λz=>.inr (.inr z),λz=>z.elim .inl λz=>z.elim (λz=>.inl (z▸hy)) .inr⟩
  ·rw[if_neg c];have nk:k∉m:=λz=>c (List.any_eq_true.mpr ⟨k,z,by simp⟩);obtain⟨i1,i2⟩:=iu ns (m++[k]) (List.nodup_append.mpr ⟨h,by simp,λa ha b hb z=>nk (by rw[List.mem_singleton.mp hb]at z;exact z▸ha)⟩);refine⟨i1,λx=>?_⟩;rw[i2,List.mem_append,List.mem_singleton,List.mem_cons,or_assoc]
def Ek(K:ao)(H:Hp)(ys:af)(cs:List NK):Prop:=ys.length=cs.length/\∀(i:Nat) (c:NK),cs[i]?=some c->∃t x,ys[i]?=some (.ref t)/\aN K H t [.int c.1,.ref x]/\aN K H x (c.2.map V.int)
theorem Ek.same{K:ao}{H H':Hp}{ys:af}{cs:List NK}(h:Ek K H ys cs)(e:aG H H'):Ek K H' ys cs:=⟨h.1,λi c q=>let ⟨t,x,a,b,c⟩:=h.2 i c q;⟨t,x,a,aN.same e b,aN.same e c⟩⟩
theorem yH{K:ao}{H:Hp}{N:gL}{k:aU}{n:Nat}{ys:af}{cs:List NK}(r:az (aN K H) N k n ys (cs.map ej)):Ek K H ys cs:=by
 refine⟨by rw[r.length,List.length_map],λi c e=>?_⟩;obtain⟨v,hv,rv⟩:=r.get (j:=i) (d:=ej c) (by rw[List.getElem?_map,e];rfl);obtain⟨t,xs,rfl,ht,rs⟩:=Rep.xY rv;cases rs with
 |cons h1 rs=>cases rs with
  |cons h2 rs =>
   cases rs;obtain⟨x,_,rfl,hx,r1⟩:=Rep.xY h2;cases r1.ofInts;cases h1;exact⟨t,x,hv,ht,hx⟩
theorem qz{K:ao}{H:Hp}{N:gL}:∀{ys:af} {cs:List NK} {k:aU} {n:Nat},Ek K H ys cs->az (aN K H) N k n ys (cs.map ej)
 |[],[],_,_,_=>.nil
 |[],_::_,_,_,h=>by have:=h.1;simp at this
 |_::_,[],_,_,h=>by have:=h.1;simp at this
 |y::ys,c::cs,_,_,h=>by
  obtain⟨t,x,e1,e2,e3⟩:=h.2 0 c rfl;cases e1;exact .cons (.tup e2 (.cons (.int _) (.cons (uz e3) .nil))) (qz ⟨by have:=h.1;simpa using this,λi c' h1=>h.2 (i+1) c' h1⟩)
def RW(X:Cx)(H:Hp)(h:Heap)(k:NK)(a:Addr):Prop:=cP X.prog X.w h k a/\∃x,aN X.K H a [.int k.1,.ref x]/\aN X.K H x (k.2.map V.int)
theorem nc{X:Cx}{H:Hp}{h:Heap}:∀{out:ai} {ks:List NK},tY (RW X H h) out ks->∃bs,Vals bs out/\Ek X.K H bs ks
 |[],[],_=>⟨[],.nil,rfl,λi c e=>by simp at e⟩
 |[],_::_,o=>by have:=o.1;simp at this
 |_::_,[],o=>by have:=o.1;simp at this
 |v::out,k::ks,o=>by
  obtain⟨a,e,_,x,g1,g2⟩:=o.2 0 k rfl;cases e;obtain⟨bs,v1,r1⟩:=nc (out:=out) (ks:=ks) ⟨by have:=o.1;simpa using this,λi c q=>o.2 (i+1) c q⟩;refine⟨.ref a::bs,.cons rfl v1,by simp[r1.1],λi c q=>?_⟩;cases i with
  |zero=>cases q;exact⟨a,x,rfl,g1,g2⟩
  |succ i=>exact r1.2 i c q
def VA(K:ao):af->Hp->VK->Prop:=λxs H Q=>∃(p:Addr) (ys:af) (cs:List NK),xs=[.ref p]/\cH K H p ys/\Ek K H ys cs/\cs.length<=8/\(∀c∈cs,c∈univ)/\∀l bs,H l=none->Ek K H bs (iR cs)->Q (.ref l) (upd H l (.lst bs))
variable {X:Cx}
theorem GF{e:Expr}{t:TA}{p p' pos pos':Pos}(hu:X.A.units+5<cLine)(hc:X.calm=true)(HJ:Gl X ("sorted" : Str))(MA:X.mg ("sorted" : Str)=none)(MJ:Gl X ("set" : Str))(Mz:X.mg ("set" : Str)=none)(ha:PA X [e] t)
  (mE:∀es,starEach (e::es) X.env=(false,eval e X.env)::starEach es X.env):PE X (.Call (.Name ("sorted" : Str) p) [.Call (.Name ("set" : Str) p') [e] [] pos'] [] pos) (FI (VA X.K) t):=by
 intro pins s σ H Q I h;refine YR (cZ I HJ MA jd ?_ (by decide) (by decide));refine Y9 ?_ rfl rfl;show wpAny _ _ (spliced ((false,eval (.Call (.Name ("set" : Str) p') [e] [] pos') X.env)::[])) _ _ s;refine ZP ?_;refine YR (cZ I MJ Mz boot_set ?_ (by decide) (by decide));refine YK (cA (ha pos' pins s σ H _ I h) λus s1 bz=>?_) (mE _) rfl;obtain⟨vs,H1,I1,r1,q1⟩:=bz;obtain⟨a,ys,cs,rfl,hq,⟨yl,hT⟩,h8,HI,q⟩:=q1;obtain⟨u,rfl,ru⟩:=r1.one;cases ru;obtain⟨aC,rv,pl,hz⟩:=I1.list hq;have hle:aC.length=cs.length:=by rw[<- rv.length];exact yl
 have hG:∀k a,RW X H1 s1.heap k a->cP X.prog X.w s1.heap k a:=λk a g=>g.1;have ho:tY (RW X H1 s1.heap) aC cs:=⟨hle,λi c ec=>by
  obtain⟨t,x,e1,e2,e3⟩:=hT i c ec;obtain⟨u,hu,ru⟩:=rv.get e1;cases ru;obtain⟨X7,rk,⟨o,g1,g2,n,g3⟩,_⟩:=I1.tuple e2;obtain⟨w1,w2,rfl,r1,r2⟩:=vals2 rk;obtain⟨tk,rfl⟩:=r1;cases r2;exact⟨t,hu,⟨o,_,n,x,tk,g1,g2,g3,by simp,lA I1 e3⟩,x,e2,e3⟩⟩
 refine NT.wt (U:=λx=>x∈univ) (I1.ok.hd hc) (by first|exact Nat.lt_trans (YJ _) hu | (show _<_;left)) (b9 pl) (λx y hx hy=>map_inj FC x y hx hy) HI h8 ho hG λh' tk hS kp=>ZV ?_;obtain⟨o,es,ep,tb,ks,g1,g2,g3,N,en,nd,hm,Yd,_⟩:=hS;have I2:Inv X pins σ H1 { s1 with heap:=h',toks:=tk }:=I1.kept (t':=tk) λb u z=>kp b u (Yr z) z;have zl:es.size=ks.length:=by rw[<- Array.length_toList];exact en.len
 have Mc:∀x y,x∈cs->y∈cs->x.1=y.1->x=y:=λx y hx hy=>map_inj ye x y (HI x hx) (HI y hy);have Tp:(ks.map (·.1)).Nodup:=by
  rw[List.Nodup,List.pairwise_map];exact ZS (λ{x y} hx hy xJ e=>xJ (Mc x y ((hm x).mp hx) ((hm y).mp hy) e)) nd
 refine NT.qh (s:={ s1 with heap:=h',toks:=tk }) (I1.ok.hd hc) ⟨⟨o,g1,g2,g3⟩,N.fits (by simp)⟩ N.tabI (by left) en Tp (λk a g=>(hG k a g).keep λb o e _=>kp b o (Yr e) e) λl s' out xE c G oU e1 ou p1 p2=>?_;have QF:∀k∈xE,k∈cs:=λk hk=>(hm k).mp (p1.mem_iff.mp hk);have ef:xE.map (·.1)=sortI (dG (cs.map (·.1))):=by
  refine Z_ ?_ p2 (fP _);refine List.Perm.trans ?_ (sortI_perm _).symm;refine(p1.map _).trans (List.Perm.symm ?_);obtain⟨d1,d2⟩:=iu (cs.map (·.1)) [] YS;refine(Zj d1 Tp).mpr λx=>(d2 x).trans ?_;rw[List.mem_map,List.mem_map];exact⟨λz=>z.elim (λz=>nomatch z) λ⟨k,hk,e⟩=>⟨k,(hm k).mpr hk,e⟩,λ⟨k,hk,e⟩=>.inr ⟨k,(hm k).mp hk,e⟩⟩
 have Xe:xE=iR cs:=by
  unfold iR;rw[<- ef,List.map_map]
  conv=>lhs;rw[<- List.map_id xE]
  refine Yy λk hk=>?_;show k=(k.1,wo cs k.1)
  rw[k7 Mc (QF k hk)]
 subst Xe;obtain⟨bs,vb,rb⟩:=nc ou;have hn:H1 l=none:=I2.cD.fresh oU;have L:=I2.laid (t':=s'.toks) (h':=s'.heap) (a:=l) (o:=.lst bs) G.heap oU ⟨by
  rw[rb.1,p1.length_eq,sizeLine_eq];left,out,c,vb,e1⟩
 exact⟨.ref l,_,Inv.UW L rfl G.os G.gens,rfl,q l bs hn rb⟩
theorem FR{Φ:aX}{n:Nat}(hΦ:Φ n=wm){sc:Scope}{bl:aw}{k:Nat}(L:PX X sc bl k){e:Expr}{args:au}(he:nL ("sorted" : Str) ("set" : Str) sc bl e=some args){F:ag}{cs:aA}(hs:mO X F Φ cs args):PE X e (tD X F Φ (.cj n cs))/\PT X e (eN X F Φ (.cj n cs)):=by
 obtain⟨p,pos,p',pos',a,rfl,rfl,h1,h2,h3,h4⟩:=rF he;obtain⟨pa,s1⟩:=oD hs;cases cs with
 |nil=>exact hs.elim
 |cons c cs=>cases cs with
  |cons _ _=>exact hs.2.2.2.elim
  |nil =>
   have hu:X.A.units+5<cLine:=YH (aaq (by decide:5<=64) _) L.room.units;have this:PE X (.Call (.Name ("sorted" : Str) p) [.Call (.Name ("set" : Str) p') [a] [] pos'] [] pos) (tD X F Φ (.cj n [c])):=by
    refine PE.imp (GF hu L.calm (L.gl h1) (L.bl _ h2) (L.gl h3) (L.bl _ h4) pa s1) λσ H Q hq=>?_;obtain⟨R,τ,ρ,d,Si,ev,hq⟩:=hq;obtain⟨xs,cS,ev⟩:=aB ev;rw[hΦ]at ev;obtain⟨f,cs,rfl,hl,HI,rfl⟩:=BQ ev;refine⟨R,τ,ρ,_,Si,cS,λvs H1 e1 r1=>?_⟩;obtain⟨τt,fr,rs⟩:=r1;obtain⟨v,rfl,rv⟩:=rs.one;cases rv with
    |lst h r =>
     refine⟨_,_,cs,rfl,h.sq,yH r,hl,HI,λl bs hn MT=>hq _ _ (e1.trans (aG.upd hn)) (bM.qJ (e1.free hn) (e1.trans (aG.upd hn)) (aW ..) ?_)⟩;exact qz (MT.same (aG.upd hn))
   exact⟨this,cI this λ_=>rfl⟩
end DI
end
section
namespace DI
open PySem (Str)
section
variable {α β:Type}
@[simp]theorem cG(a:α)(f:α->O β):bd (ok a) f=f a:=rfl
@[simp]theorem O8(c:Nat)(f:α->O β):bd (some (.error c)) f=some (.error c):=rfl
noncomputable def Jl(f:α->O β)(x:O α):O β:=bd x f
@[simp]theorem Sz(f:α->O β)(a:α):Jl f (ok a)=f a:=rfl
@[simp]theorem Pc(f:α->O β)(c:Nat):Jl f (some (.error c))=some (.error c):=rfl
end
def NJ(op:D3)(x y:O D):O D:=bd x λx=>bd y λy=>bV op x y
@[simp]theorem O7(op:D3)(x y:D):NJ op (ok x) (ok y)=bV op x y:=rfl
def Nv(op:xR)(x y:O D):O D:=bd x λx=>bd y λy=>eZ op x y
@[simp]theorem O5(op:xR)(x y:D):Nv op (ok x) (ok y)=eZ op x y:=rfl
def TV(x y:O D):O D:=bd x λx=>bd y λy=>Hn x y
@[simp]theorem QQ(x y:D):TV (ok x) (ok y)=Hn x y:=rfl
def LC(x:O D):O D:=bd (bd x fe) λb=>ok (.bl (!b))
@[simp]theorem Ou(b:Bool):LC (ok (.bl b))=ok (.bl (!b)):=rfl
@[simp]theorem Kf(b:Bool):fe (.bl b)=ok b:=rfl
def p6(x:O D):O Bool:=bd x fe
@[simp]theorem NY(b:Bool):p6 (ok (.bl b))=ok b:=rfl
@[simp]theorem Ke(c:Nat):p6 (some (.error c))=some (.error c):=rfl
def TX(t:Ty)(x:O D):O D:=bd x λx=>ok (.bl (fi t x))
@[simp]theorem QX(t:Ty)(x:D):TX t (ok x)=ok (.bl (fi t x)):=rfl
def AR(m:aE)(xs:O (ae)):O D:=bd xs λxs=>bd (m (aD a_ xs)) λr=>ok (aZ mG r)
def RY(x:O D):O D:=bd x λr=>ok (aZ mG r)
@[simp]theorem RX(r:D):RY (ok r)=ok (aZ mG r):=rfl
@[simp]theorem OS(c:Nat):RY (some (.error c))=some (.error c):=rfl
@[simp]theorem NA(m:aE)(xs:ae):AR m (ok xs)=RY (m (aD a_ xs)):=rfl
@[simp]theorem JU(m:aE)(c:Nat):AR m (some (.error c))=some (.error c):=rfl
noncomputable def vG(x:O D)(xs:O (ae)):O (ae):=bd x λx=>bd xs λxs=>ok (x::xs)
@[simp]theorem Nu(x:D)(xs:ae):vG (ok x) (ok xs)=ok (x::xs):=rfl
@[simp]theorem JR(c:Nat)(xs:O (ae)):vG (some (.error c)) xs=some (.error c):=rfl
@[simp]theorem Ja(x:D)(c:Nat):vG (ok x) (some (.error c))=some (.error c):=rfl
noncomputable def Ho(x:O Bool)(a b:O D):O D:=bd x λk=>if k then a else b
@[simp]theorem QV(a b:O D):Ho (ok true) a b=a:=rfl
@[simp]theorem QW(a b:O D):Ho (ok false) a b=b:=rfl
def DT(x y:O D):O D:=bd (bd x fe) λc=>if c then y else ok (.bl false)
@[simp]theorem SA(y:O D):DT (ok (.bl true)) y=y:=rfl
@[simp]theorem SD(y:O D):DT (ok (.bl false)) y=ok (.bl false):=rfl
@[simp]theorem SE(a b:Bool):DT (ok (.bl a)) (ok (.bl b))=ok (.bl (a&&b)):=by cases a<;>rfl
def Om(x y:O D):O D:=bd (bd x fe) λc=>if c then ok (.bl true)else y
@[simp]theorem Tf(y:O D):Om (ok (.bl true)) y=ok (.bl true):=rfl
@[simp]theorem Th(y:O D):Om (ok (.bl false)) y=y:=rfl
@[simp]theorem Ti(a b:Bool):Om (ok (.bl a)) (ok (.bl b))=ok (.bl (a||b)):=by cases a<;>rfl
def zE(x:O D):O D:=bd (bd x fe) λc=>ok (.bl c)
@[simp]theorem L5(c:Bool):zE (ok (.bl c))=ok (.bl c):=rfl
@[simp]theorem KG(d:D):ui (some (some d))=ok (aZ bH d):=rfl
section
variable (Φ:aX)(ρ:aV)
@[simp]theorem UL:bj Φ .bD ρ=ok .bD:=rfl
@[simp]theorem Xo(b:Bool):bj Φ (.bl b) ρ=ok (.bl b):=rfl
@[simp]theorem EV(i:Int):bj Φ (.int i) ρ=ok (.int i):=rfl
@[simp]theorem UR(x:Str)(i:Int):bj Φ (.glo x i) ρ=ok (.int i):=rfl
@[simp]theorem Yf(i:Nat):bj Φ (.v i) ρ=ui ρ[i]?:=rfl
@[simp]theorem UT(op:D3)(a b:CE):bj Φ (.bin op a b) ρ=NJ op (bj Φ a ρ) (bj Φ b ρ):=rfl
@[simp]theorem US(op:xR)(a b:CE):bj Φ (.cmp op a b) ρ=Nv op (bj Φ a ρ) (bj Φ b ρ):=rfl
@[simp]theorem UN(a:CE):bj Φ (.neg a) ρ=Jl CG (bj Φ a ρ):=rfl
@[simp]theorem UK(a:CE):bj Φ (.not a) ρ=LC (bj Φ a ρ):=rfl
@[simp]theorem UQ(a:CE)(t:Ty):bj Φ (.vc a t) ρ=TX t (bj Φ a ρ):=rfl
@[simp]theorem UP(c a b:CE):bj Φ (.ite c a b) ρ=Ho (p6 (bj Φ c ρ)) (bj Φ a ρ) (bj Φ b ρ):=rfl
@[simp]theorem Sg(f:Nat)(es:aA):bj Φ (.call f es) ρ=AR (Φ f) (cc Φ es ρ):=rfl
@[simp]theorem Xp(f:Bf)(es:aA):bj Φ (.bf f es) ρ=Jl (vM f) (cc Φ es ρ):=rfl
@[simp]theorem UH(f:Nat)(es:aA):bj Φ (.cj f es) ρ=Jl (Φ f) (cc Φ es ρ):=rfl
@[simp]theorem Xn(a b:CE):bj Φ (.ix a b) ρ=TV (bj Φ a ρ) (bj Φ b ρ):=rfl
@[simp]theorem UG(es:aA):bj Φ (.tup es) ρ=Jl (λxs=>ok (.tup xs)) (cc Φ es ρ):=rfl
@[simp]theorem UO(es:aA):bj Φ (.lst es) ρ=Jl (λxs=>ok (.lst .ow xs)) (cc Φ es ρ):=rfl
@[simp]theorem UU(es:aA):bj Φ (.and es) ρ=lP Φ es ρ:=rfl
@[simp]theorem Xm(es:aA):bj Φ (.or es) ρ=tj Φ es ρ:=rfl
@[simp]theorem Sk(e:CE):lP Φ [e] ρ=zE (bj Φ e ρ):=rfl
@[simp]theorem Sj(e e':CE)(es:aA):lP Φ (e::e'::es) ρ=DT (bj Φ e ρ) (lP Φ (e'::es) ρ):=rfl
@[simp]theorem UJ(e:CE):tj Φ [e] ρ=zE (bj Φ e ρ):=rfl
@[simp]theorem UI(e e':CE)(es:aA):tj Φ (e::e'::es) ρ=Om (bj Φ e ρ) (tj Φ (e'::es) ρ):=rfl
@[simp]theorem UM:cc Φ [] ρ=ok []:=rfl
@[simp]theorem Sf(e:CE)(es:aA):cc Φ (e::es) ρ=vG (bj Φ e ρ) (cc Φ es ρ):=rfl
@[simp]theorem Yg(e:CE):rS Φ e ρ=p6 (bj Φ e ρ):=rfl
theorem So(e:CE):bd (bj Φ e ρ) fe=p6 (bj Φ e ρ):=rfl
@[simp]theorem Sn:fE Φ [] ρ=ok true:=rfl
@[simp]theorem Sl(e:CE):fE Φ [e] ρ=p6 (bj Φ e ρ):=by
 rw[fE,So];cases h:p6 (bj Φ e ρ)with
 |none=>rfl
 |some r=>cases r with
  |error c=>rfl
  |ok b=>cases b<;>simp[fE,bd,ok]
end
def o3(is:aF):Nat->aV->aV
 |_,[]=>[]
 |n,d::ρ=>(if n∈is then d.map (aZ a_)else d)::o3 is (n+1) ρ
theorem ET(is:aF):∀(ρ:aV) (n:Nat),ρ.mapIdx (λi d=>if i+n∈is then d.map (aZ a_)else d)=o3 is n ρ
 |[],_=>rfl
 |d::ρ,n=>by
  rw[List.mapIdx_cons,o3,<- ET is ρ (n+1)];simp only[Nat.zero_add,Nat.add_assoc,Nat.add_comm 1 n]
theorem tf(is:aF)(ρ:aV):fM is ρ=o3 is 0 ρ:=by rw[<- ET];rfl
@[simp]theorem Nb(is:aF)(n:Nat):o3 is n []=[]:=rfl
@[simp]theorem JO(is:aF)(n:Nat)(d:aI)(ρ:aV):o3 is n (d::ρ)=(if n∈is then d.map (aZ a_)else d)::o3 is (n+1) ρ:=rfl
def cC(e:CE)(ρ:aV)(x:O D):O (D×aV):=bd x λd=>ok (keep e d ρ)
variable {ρ ρ1:aV}
@[simp]theorem qQ{e:CE}{d:D}(h:aP bR d=false):cC e ρ (ok d)=ok (d,ρ):=by
 show ok (keep e d ρ)=_;rw[keep,h];rfl
@[simp]theorem L7{e:CE}{d:D}(h:aP bR d=true):cC e ρ (ok d)=ok (aZ a_ d,o3 (fI e) 0 ρ):=by
 show ok (keep e d ρ)=_;rw[keep,h,<- tf];rfl
@[simp]theorem JD(e:CE)(ρ:aV)(c:Nat):cC e ρ (some (.error c))=some (.error c):=rfl
def zp(i:Nat)(ρ:aV)(o:Option (aI)):O (D×aV):=match o with
 |some (some d)=>if aP cw d then ok (d,ρ.set i none)else ok (d,ρ)
 |_=>none
@[simp]theorem LJ{i:Nat}{d:D}(h:aP cw d=true):zp i ρ (some (some d))=ok (d,ρ.set i none):=YV h
@[simp]theorem LK{i:Nat}{d:D}(h:aP cw d=false):zp i ρ (some (some d))=ok (d,ρ):=Z1 (by rw[h];exact Yp)
@[simp]theorem X8(Φ:aX)(i:Nat)(ρ:aV):gJ Φ (.v i) ρ=zp i ρ ρ[i]?:=rfl
noncomputable def VX:CE->Bool
 |.v _=>true
 |_=>false
@[simp]theorem TN(Φ:aX)(ρ:aV)(op:D3)(a b:CE):gJ Φ (.bin op a b) ρ=cC (.bin op a b) ρ (bj Φ (.bin op a b) ρ):=rfl
@[simp]theorem TM(Φ:aX)(ρ:aV)(op:xR)(a b:CE):gJ Φ (.cmp op a b) ρ=cC (.cmp op a b) ρ (bj Φ (.cmp op a b) ρ):=rfl
@[simp]theorem QO(Φ:aX)(ρ:aV)(f:Nat)(es:aA):gJ Φ (.call f es) ρ=cC (.call f es) ρ (bj Φ (.call f es) ρ):=rfl
@[simp]theorem VW(Φ:aX)(ρ:aV)(f:Bf)(es:aA):gJ Φ (.bf f es) ρ=cC (.bf f es) ρ (bj Φ (.bf f es) ρ):=rfl
@[simp]theorem TB(Φ:aX)(ρ:aV)(f:Nat)(es:aA):gJ Φ (.cj f es) ρ=cC (.cj f es) ρ (bj Φ (.cj f es) ρ):=rfl
@[simp]theorem VU(Φ:aX)(ρ:aV)(a b:CE):gJ Φ (.ix a b) ρ=cC (.ix a b) ρ (bj Φ (.ix a b) ρ):=rfl
@[simp]theorem Tz(Φ:aX)(ρ:aV)(es:aA):gJ Φ (.tup es) ρ=cC (.tup es) ρ (bj Φ (.tup es) ρ):=rfl
@[simp]theorem TJ(Φ:aX)(ρ:aV)(es:aA):gJ Φ (.lst es) ρ=cC (.lst es) ρ (bj Φ (.lst es) ρ):=rfl
@[simp]theorem EE(Φ:aX)(ρ:aV)(i:Int):gJ Φ (.int i) ρ=cC (.int i) ρ (bj Φ (.int i) ρ):=rfl
@[simp]theorem VV(Φ:aX)(ρ:aV)(i:Bool):gJ Φ (.bl i) ρ=cC (.bl i) ρ (bj Φ (.bl i) ρ):=rfl
@[simp]theorem TF(Φ:aX)(ρ:aV): gJ Φ (.bD) ρ=cC (.bD) ρ (bj Φ (.bD) ρ):=rfl
@[simp]theorem TH(Φ:aX)(ρ:aV)(a:CE):gJ Φ (.neg a) ρ=cC (.neg a) ρ (bj Φ (.neg a) ρ):=rfl
@[simp]theorem TC(Φ:aX)(ρ:aV)(a:CE):gJ Φ (.not a) ρ=cC (.not a) ρ (bj Φ (.not a) ρ):=rfl
@[simp]theorem TQ(Φ:aX)(ρ:aV)(es:aA):gJ Φ (.and es) ρ=cC (.and es) ρ (bj Φ (.and es) ρ):=rfl
@[simp]theorem VT(Φ:aX)(ρ:aV)(es:aA):gJ Φ (.or es) ρ=cC (.or es) ρ (bj Φ (.or es) ρ):=rfl
@[simp]theorem TK(Φ:aX)(ρ:aV)(a b c:CE):gJ Φ (.ite a b c) ρ=cC (.ite a b c) ρ (bj Φ (.ite a b c) ρ):=rfl
@[simp]theorem QN(Φ:aX)(ρ:aV)(n:Nat)(t:Tg)(caps:aF)(ik:IK)(es bx:aA)(elt:CE):gJ Φ (.comp n t caps ik es bx elt) ρ=cC (.comp n t caps ik es bx elt) ρ (bj Φ (.comp n t caps ik es bx elt) ρ):=rfl
@[simp]theorem TL(Φ:aX)(ρ:aV)(a:CE)(t:Ty):gJ Φ (.vc a t) ρ=cC (.vc a t) ρ (bj Φ (.vc a t) ρ):=rfl
theorem QM(Φ:aX)(e:CE)(ρ:aV)(h:VX e=false):gJ Φ e ρ=cC e ρ (bj Φ e ρ):=by cases e<;>first|rfl|cases h
@[simp]theorem Ju(ρ:aV):eQ [] [] ρ=ok ρ:=rfl
variable {ds:ae}{is:aF}
@[simp]theorem F1{i:Nat}{d:D}(h:i<ρ.length):eQ (i::is) (d::ds) ρ=eQ is ds (ρ.set i (some d)):=YV h
@[simp]theorem N8{i:Nat}{d:D}(h:i<ρ.length):cg (.nm i) d ρ=ok (ρ.set i (some d)):=YV h
@[simp]theorem N7(h:aK cw ds=false):cg (.tp is) (.tup ds) ρ=eQ is ds ρ:=Z1 (by rw[h];exact Yp)
def Jk(i:Nat)(r:O (D×aV)):O (Fo×aV):=bd r λr=>bd (cg (.nm i) r.1 r.2) λρ'=>ok (.nx,ρ')
@[simp]theorem vV{i:Nat}{d:D}(h:i<ρ.length):Jk i (ok (d,ρ))=ok (.nx,ρ.set i (some d)):=by
 show bd (cg (.nm i) d ρ) _=_;rw[cg,if_pos h];rfl
@[simp]theorem NO(i:Nat)(c:Nat):Jk i (some (.error c))=some (.error c):=rfl
def NN(is:aF)(r:O (D×aV)):O (Fo×aV):=bd r λr=>bd (cg (.tp is) r.1 r.2) λρ'=>ok (.nx,ρ')
@[simp]theorem Pa(h:aK cw ds=false):NN is (ok (.tup ds,ρ))=bd (eQ is ds ρ) λρ'=>ok (.nx,ρ'):=by
 show bd (cg (.tp is) (.tup ds) ρ) _=_;rw[cg,h];rfl
noncomputable def retS(r:O (D×aV)):O (Fo×aV):=bd r λr=>ok (.rt r.1,r.2)
@[simp]theorem N9(d:D)(ρ:aV):retS (ok (d,ρ))=ok (.rt d,ρ):=rfl
@[simp]theorem K1(c:Nat):retS (some (.error c))=some (.error c):=rfl
noncomputable def R9(ρ:aV)(x:O D):O (Fo×aV):=bd x λ_=>ok (.nx,ρ)
@[simp]theorem R8(ρ:aV)(d:D):R9 ρ (ok d)=ok (.nx,ρ):=rfl
@[simp]theorem OX(ρ:aV)(c:Nat):R9 ρ (some (.error c))=some (.error c):=rfl
noncomputable def t8(Φ:aX)(ss:aj)(r:O (Fo×aV)):O (Fo×aV):=bd r λr=>match r with
 | (.nx,ρ')=>bw Φ ss ρ'
 |r=>ok r
@[simp]theorem p_(Φ:aX)(ss:aj)(ρ:aV):t8 Φ ss (ok (.nx,ρ))=bw Φ ss ρ:=rfl
@[simp]theorem Ki(Φ:aX)(ss:aj)(d:D)(ρ:aV):t8 Φ ss (ok (.rt d,ρ))=ok (.rt d,ρ):=rfl
@[simp]theorem Jt(Φ:aX)(ss:aj)(c:Nat):t8 Φ ss (some (.error c))=some (.error c):=rfl
noncomputable def CT(Φ:aX)(a b:aj)(ρ:aV)(x:O Bool):O (Fo×aV):=bd x λk=>if k then bw Φ a ρ else bw Φ b ρ
@[simp]theorem QT(Φ:aX)(a b:aj)(ρ:aV):CT Φ a b ρ (ok true)=bw Φ a ρ:=rfl
@[simp]theorem QU(Φ:aX)(a b:aj)(ρ:aV):CT Φ a b ρ (ok false)=bw Φ b ρ:=rfl
@[simp]theorem L8(Φ:aX)(a b:aj)(ρ:aV)(c:Nat):CT Φ a b ρ (some (.error c))=some (.error c):=rfl
def NP(i:Nat)(r:O (D×aV)):O (Fo×aV):=bd r λr=>match sC r.2[i]? with
  |some ds=>if ds.length<eO then ok (.nx,r.2.set i (some (.lst .ow (ds++[r.1]))))else none
  |none=>none
@[simp]theorem Pb{i:Nat}{d:D}(h:ρ[i]?=some (some (.lst .ow ds)))(hl:ds.length<eO):NP i (ok (d,ρ))=ok (.nx,ρ.set i (some (.lst .ow (ds++[d])))):=by
 show(match sC ρ[i]? with|some ds=>_|none=>_)=_;rw[h];exact YV hl
section
variable (Φ:aX)(ρ:aV)
@[simp]theorem SY:bw Φ [] ρ=ok (.nx,ρ):=rfl
@[simp]theorem eF(s:CS)(ss:aj):bw Φ (s::ss) ρ=t8 Φ ss (kr Φ s ρ):=rfl
@[simp]theorem xU(i:Nat)(e:CE):kr Φ (.asg (.nm i) e) ρ=Jk i (gJ Φ e ρ):=rfl
@[simp]theorem Pk(is:aF)(e:CE):kr Φ (.asg (.tp is) e) ρ=NN is (gJ Φ e ρ):=rfl
@[simp]theorem SW(e:CE):kr Φ (.ret e) ρ=retS (gJ Φ e ρ):=rfl
theorem mP(c:CE)(b:aj):kr Φ (.Fv c b) ρ=dP (λρ=>bd (rS Φ c ρ) λk=>if k then bd (bw Φ b ρ) λr=>match r with
   | (.nx,ρ')=>ok (.inl ρ')
   | (.rt d,ρ')=>ok (.inr (.rt d,ρ'))
  else ok (.inr (.nx,ρ))) ρ:=rfl
theorem JZ(i j:Nat)(a b:CE):kr Φ (.par i j a b) ρ=bd (bj Φ a ρ) λx=>bd (bj Φ b ρ) λy=>if aP anyF x=false/\aP anyF y=false/\i<ρ.length/\j<ρ.length then ok (.nx,(ρ.set i (some x)).set j (some y))else none:=rfl
@[simp]theorem U_(c:Nat):kr Φ (.rs c) ρ=some (.error c):=rfl
@[simp]theorem Va(e:CE):kr Φ (.ex e) ρ=R9 ρ (bj Φ e ρ):=rfl
@[simp]theorem J0(c:CE)(a b:aj):kr Φ (.ifs c a b) ρ=CT Φ a b ρ (p6 (bj Φ c ρ)):=rfl
@[simp]theorem S0(i:Nat)(e:CE):kr Φ (.app i e) ρ=NP i (gJ Φ e ρ):=rfl
end
noncomputable def mk(Φ:aX)(ar n:Nat)(b:aj):aE:=λds=>if ds.length=ar then oo Φ n b ds else none
noncomputable def jz(r:O (Fo×aV)):O D:=bd r λr=>match r.1 with
 |.nx=>ok .bD
 |.rt d=>ok d
@[simp]theorem OZ(ρ:aV):jz (ok (.nx,ρ))=ok .bD:=rfl
@[simp]theorem OY(d:D)(ρ:aV):jz (ok (.rt d,ρ))=ok d:=rfl
@[simp]theorem Nm(c:Nat):jz (some (.error c))=some (.error c):=rfl
variable {ar:Nat}{Φ:aX}
theorem mk_eq{n:Nat}{b:aj}(h:ds.length=ar):mk Φ ar n b ds=jz (bw Φ b (ds.map some++List.replicate (n - ds.length) none)):=YV h
theorem sH{n:Nat}{b:aj}(ds:ae)(r:D)(h:mk Φ ar n b ds=ok r):ds.length=ar/\oo Φ n b ds=ok r:=by
 unfold mk at h;split at h
 ·rename_i hl;exact⟨hl,h⟩
 ·cases h
theorem Int.beq_eq_decide_eq(i j:Int):(i==j)=decide (i=j):=rfl
section
variable (g:Fl->Fl)(p:Fl->Bool)
@[simp]theorem CJ(b:Bool):aZ g (.bl b)=.bl b:=rfl
@[simp]theorem qM(b:Int):aZ g (.int b)=.int b:=rfl
@[simp]theorem LR:aZ g .bD=.bD:=rfl
@[simp]theorem LQ(ds:ae):aZ g (.tup ds)=.tup (aD g ds):=rfl
@[simp]theorem zt(f:Fl)(ds:ae):aZ g (.lst f ds)=.lst (g f) (aD g ds):=rfl
@[simp]theorem LS(f:Fl)(ks:aq)(vs:ae):aZ g (.cy f ks vs)=.cy (g f) ks (aD g vs):=rfl
@[simp]theorem JA:aD g []=[]:=rfl
@[simp]theorem G7(d:D)(ds:ae):aD g (d::ds)=aZ g d::aD g ds:=rfl
@[simp]theorem JC(a b:ae):aD g (a++b)=aD g a++aD g b:=by simp only[bg,List.map_append]
@[simp]theorem JB(ds:ae):(aD g ds).length=ds.length:=by rw[bg,List.length_map]
theorem bX{α:Type}{e:α->D}(h:∀x,aZ g (e x)=e x)(xs:List α):aD g (xs.map e)=xs.map e:=by
 rw[bg,List.map_map];exact Yy λx _=>h x
theorem bY{α:Type}{e:α->D}(h:∀x,aP p (e x)=false):∀xs:List α,aK p (xs.map e)=false
 |[]=>by rw[List.map_nil,aK]
 |x::xs=>by rw[List.map_cons,aK,h x,bY h xs];rfl
@[simp]theorem C_(b:Bool):aP p (.bl b)=false:=aav rfl
@[simp]theorem i6(b:Int):aP p (.int b)=false:=aav rfl
@[simp]theorem MZ:aP p .bD=false:=aav rfl
@[simp]theorem MY(ds:ae):aP p (.tup ds)=aK p ds:=aav rfl
@[simp]theorem Ae(f:Fl)(ds:ae):aP p (.lst f ds)=(p f||aK p ds):=aav rfl
@[simp]theorem M1(f:Fl)(ks:aq)(vs:ae):aP p (.cy f ks vs)=(p f||aK p vs):=aav rfl
@[simp]theorem JN:aK p []=false:=aav rfl
@[simp]theorem HU(d:D)(ds:ae):aK p (d::ds)=(aP p d||aK p ds):=aav rfl
@[simp]theorem wY:∀a b:ae,aK p (a++b)=(aK p a||aK p b)
 |[],b=>by simp
 |d::a,b=>by simp[wY a b,Bool.or_assoc]
@[simp]theorem ic(ns:aa):aD g (ns.map D.int)=ns.map D.int:=bX g (qM g) ns
@[simp]theorem sY(ns:aa):aK p (ns.map D.int)=false:=bY p (i6 p) ns
@[simp]theorem wI(ns:List Bool):aD g (ns.map D.bl)=ns.map D.bl:=bX g (CJ g) ns
@[simp]theorem wX(ns:List Bool):aK p (ns.map D.bl)=false:=bY p (C_ p) ns
@[simp]theorem JE(t:Ty)(d:D):fi t (aZ g d)=fi t d:=by cases d<;>cases t<;>rfl
end
@[simp]theorem Iq:bH .ow=.al:=rfl
@[simp]theorem Ir:bH .fz=.fz:=rfl
@[simp]theorem Iu:bH .al=.al:=rfl
@[simp]theorem Ip:bH .sc=.sc:=rfl
@[simp]theorem Il:a_ .ow=.fz:=rfl
@[simp]theorem Im:a_ .fz=.fz:=rfl
@[simp]theorem Io:a_ .al=.fz:=rfl
@[simp]theorem Ik:a_ .sc=.sc:=rfl
@[simp]theorem II:mG .ow=.ow:=rfl
@[simp]theorem IJ:mG .fz=.al:=rfl
@[simp]theorem IL:mG .al=.al:=rfl
@[simp]theorem IH:mG .sc=.sc:=rfl
@[simp]theorem IE:bR .ow=false:=rfl
@[simp]theorem IF:bR .fz=false:=rfl
@[simp]theorem IG:bR .al=true:=rfl
@[simp]theorem ID:bR .sc=false:=rfl
@[simp]theorem IA:cw .ow=true:=rfl
@[simp]theorem IB:cw .fz=false:=rfl
@[simp]theorem IC:cw .al=false:=rfl
@[simp]theorem Iz:cw .sc=false:=rfl
@[simp]theorem Iv:mD .ow=false:=rfl
@[simp]theorem Iw:mD .fz=false:=rfl
@[simp]theorem Iy:mD .al=false:=rfl
noncomputable def ah(ns:aa):ae:=ns.map D.int
noncomputable def tT(ns:List Bool):ae:=ns.map D.bl
@[simp]theorem JI(ns:aa):(ah ns).length=ns.length:=ZN ..
@[simp]theorem NI(ns:List Bool):(tT ns).length=ns.length:=ZN ..
@[simp]theorem JH:ah []=[]:=rfl
@[simp]theorem HA(n:Int)(ns:aa):ah (n::ns)=.int n::ah ns:=rfl
@[simp]theorem Hz(ns:aa)(n:Int):ah ns++[.int n]=ah (ns++[n]):=by simp[ah]
@[simp]theorem jx(ns:aa)(i:Nat):(ah ns)[i]?=ns[i]?.map D.int:=List.getElem?_map ..
@[simp]theorem bO(g:Fl->Fl)(ns:aa):aD g (ah ns)=ah ns:=ic g ns
@[simp]theorem EM(p:Fl->Bool)(ns:aa):aK p (ah ns)=false:=sY p ns
@[simp]theorem G8(g:Fl->Fl)(ns:List Bool):aD g (tT ns)=tT ns:=wI g ns
@[simp]theorem HV(p:Fl->Bool)(ns:List Bool):aK p (tT ns)=false:=wX p ns
@[simp]theorem Fb(i j:Int):bV .add (.int i) (.int j)=ok (.int (i+j)):=rfl
@[simp]theorem U1(i j:Int):bV .sub (.int i) (.int j)=ok (.int (i - j)):=rfl
theorem gY{i j:Int}(h:fD i j=true):bV .mul (.int i) (.int j)=ok (.int (i*j)):=YV h
theorem gn{i j:Int}(h:nH j=true):bV .fdiv (.int i) (.int j)=ok (.int (i.fdiv j)):=YV h
@[simp]theorem l7{i j:Int}(h:j≠0):bV .mod (.int i) (.int j)=ok (.int (i.fmod j)):=YV h
theorem E_{i j:Int}(h:uC i j=true):bV .pow (.int i) (.int j)=ok (.int (i ^ j.toNat)):=YV h
@[simp]theorem Tt(i:Int):CG (.int i)=ok (.int (-i)):=rfl
theorem mulOk_of{i j:Int}(h:i.natAbs<2 ^ 9000)(h':j.natAbs<2 ^ 9000):fD i j=true:=by
 simp only[fD,big,h,h',decide_true,Bool.and_self,Bool.or_true]
theorem ig{n:Nat}(h:n<2 ^ 64):n<2 ^ 9000:=Yu h (YF (by decide) (by decide))
theorem oK{i:Int}(j:Int)(h:i.natAbs<2 ^ 64):fD i j=true:=by simp only[fD,h,decide_true,Bool.true_or]
theorem CH{j:Int}(i:Int)(h:j.natAbs<2 ^ 64):fD i j=true:=by simp only[fD,h,decide_true,Bool.true_or,Bool.or_true]
theorem dk{j:Int}(h0:j≠0)(h:j.natAbs<2 ^ 9000):nH j=true:=by
 simp only[nH,big,h,decide_true,Bool.and_true,decide_eq_true_eq];exact h0
@[simp]theorem O9{i j:Int}(h:j.natAbs<2 ^ 64):bV .mul (.int i) (.int j)=ok (.int (i*j)):=gY (CH i h)
@[simp]theorem O_{i j:Int}(h:i.natAbs<2 ^ 64):bV .mul (.int i) (.int j)=ok (.int (i*j)):=gY (oK j h)
@[simp]theorem NM{i j:Int}(h0:j≠0)(h:j.natAbs<2 ^ 64):bV .fdiv (.int i) (.int j)=ok (.int (i.fdiv j)):=gn (dk h0 (ig h))
theorem ND{a b:D}(ha:eG 40 a=true)(hb:eG 40 b=true):eZ .eq a b=ok (.bl (jQ a b)):=by
 show(if eG 40 a&&eG 40 b then _ else _)=_;rw[ha,hb];rfl
theorem Jf{a b:D}(ha:eG 40 a=true)(hb:eG 40 b=true):eZ .ne a b=ok (.bl (!jQ a b)):=by
 show(if eG 40 a&&eG 40 b then _ else _)=_;rw[ha,hb];rfl
@[simp]theorem gH(n:Nat)(i:Int):eG n (.int i)=true:=by cases n<;>rfl
@[simp]theorem Qy(n:Nat)(i:Bool):eG n (.bl i)=true:=by cases n<;>rfl
@[simp]theorem Oq(n:Nat):eG n .bD=true:=by cases n<;>rfl
@[simp]theorem oF(n:Nat)(ds:ae):eG (n+1) (.tup ds)=ds.all (eG n):=rfl
@[simp]theorem Cv(n:Nat)(f:Fl)(ds:ae):eG (n+1) (.lst f ds)=ds.all (eG n):=rfl
@[simp]theorem Ql(i j:Int):eZ .eq (.int i) (.int j)=ok (.bl (decide (i=j))):=by rw[ND (gH _ _) (gH _ _)];show ok (D.bl (i==j))=_;rw[Int.beq_eq_decide_eq]
@[simp]theorem Qk(i j:Int):eZ .ne (.int i) (.int j)=ok (.bl (!decide (i=j))):=by rw[Jf (gH _ _) (gH _ _)];show ok (D.bl (!(i==j)))=_;rw[Int.beq_eq_decide_eq]
@[simp]theorem VC(i j:Int):eZ .lt (.int i) (.int j)=ok (.bl (decide (i<j))):=rfl
@[simp]theorem VD(i j:Int):eZ .le (.int i) (.int j)=ok (.bl (decide (i<=j))):=rfl
@[simp]theorem VE(i j:Int):eZ .gt (.int i) (.int j)=ok (.bl (decide (j<i))):=rfl
@[simp]theorem VF(i j:Int):eZ .ge (.int i) (.int j)=ok (.bl (decide (j<=i))):=rfl
@[simp]theorem T5(ds:ae)(i:Int):Hn (.tup ds) (.int i)=kH ds i:=rfl
@[simp]theorem T6(f:Fl)(ds:ae)(i:Int):Hn (.lst f ds) (.int i)=kH ds i:=rfl
theorem l8{n:Nat}{d:D}(h:ds[n]?=some d):kH ds (n:Int)=ok (aZ bH d):=by
 have hn:n<ds.length:=(List.getElem?_eq_some_iff.mp h).1;have e:nq ds.length (n:Int)=some n:=by unfold nq;rw[if_pos (by left),if_pos (by left)];rfl
 unfold kH;rw[e,Option.bind_some,h]
theorem at_of{i:Int}{d:D}(h0:0<=i)(h:ds[i.toNat]?=some d):kH ds i=ok (aZ bH d):=by
 have:=l8 h
 rwa [show((i.toNat:Nat):Int)=i by left]at this
@[simp]theorem XD(d:D)(ds:ae):kH (d::ds) 0=ok (aZ bH d):=l8 (n:=0) rfl
@[simp]theorem XC(a d:D)(ds:ae):kH (a::d::ds) 1=ok (aZ bH d):=l8 (n:=1) rfl
@[simp]theorem XB(a b d:D)(ds:ae):kH (a::b::d::ds) 2=ok (aZ bH d):=l8 (n:=2) rfl
@[simp]theorem OV(ds:ae):vM .len [.tup ds]=ok (.int ds.length):=rfl
@[simp]theorem OW(f:Fl)(ds:ae):vM .len [.lst f ds]=ok (.int ds.length):=rfl
@[simp]theorem UC(i:Int):vM .abs [.int i]=ok (.int i.natAbs):=by
 show ok (D.int (if i<0 then -i else i))=_;congr 2;split<;>left
@[simp]theorem Ni(f:Fl)(ds:ae):vM .list1 [.lst f ds]=ok (.lst .ow (aD bH ds)):=rfl
@[simp]theorem Nh(ds:ae):vM .list1 [.tup ds]=ok (.lst .ow (aD bH ds)):=rfl
@[simp]theorem OT(f:Fl)(ds:ae):vM .tuple1 [.lst f ds]=ok (.tup (aD bH ds)):=rfl
@[simp]theorem UA(f:Fl)(ns:aa):vM .n9 [.lst f (ah ns)]=ok (.int ns.sum):=by
 show(match intsOf (ns.map D.int)with|some ns=>_|none=>_)=_;rw[bF]
@[simp]theorem UB(f:Fl)(bs:List Bool):vM .all1 [.lst f (tT bs)]=ok (.bl (bs.all id)):=by
 show(match gX (bs.map D.bl)with|some ns=>_|none=>_)=_;rw[nM]
variable {ns:aa}
@[simp]theorem OU(h:ns.length<64):vM .gE [.tup (ah ns)]=ok (.lst .ow (ah (sortI ns))):=by
 show mW _=_;unfold mW ah;rw[bF];exact YV h
@[simp]theorem R5(h:ns.length<4000):LV (.tup (ah ns))=ok (.int (dG ns).length):=by
 show(match intsOf (ns.map D.int)with|some ns=>_|none=>_)=_;rw[bF];exact YV h
@[simp]theorem vw(i j:Int):jQ (.int i) (.int j)=decide (i=j):=by show(i==j)=_;rw[Int.beq_eq_decide_eq]
@[simp]theorem Sb(i j:Bool):jQ (.bl i) (.bl j)=(i==j):=rfl
@[simp]theorem vv(a b:ae):jQ (.tup a) (.tup b)=dw a b:=rfl
@[simp]theorem Dj(f g:Fl)(a b:ae):jQ (.lst f a) (.lst g b)=dw a b:=rfl
@[simp]theorem Ax:dw [] []=true:=rfl
@[simp]theorem eY(a b:D)(as bs:ae):dw (a::as) (b::bs)=(jQ a b&&dw as bs):=rfl
theorem lR:∀{as bs:ae},dw as bs=true->as.length=bs.length
 |[],[],_=>rfl
 |[],_::_,h=>(Yp h).elim
 |_::_,[],h=>(Yp h).elim
 |a::as,b::bs,h=>by
  replace h:(_&&_)=true:=h;rw[Bool.and_eq_true]at h;rw[List.length_cons,List.length_cons,lR h.2]
theorem i9{α:Type}{e:α->D}[DecidableEq α](h:∀x y,jQ (e x) (e y)=decide (x=y)):∀xs ys:List α,dw (xs.map e) (ys.map e)=decide (xs=ys)
 |[],[]=>by simp
 |[],y::ys=>by
  cases z:dw ([].map e) ((y::ys).map e)with
  |true=>have:=lR z;simp at this
  |false=>simp
 |x::xs,[]=>by
  cases z:dw ((x::xs).map e) ([].map e)with
  |true=>have:=lR z;simp at this
  |false=>simp
 |x::xs,y::ys=>by
  rw[List.map_cons,List.map_cons,eY,h,i9 h xs ys];by_cases e1:x=y<;>by_cases e2:xs=ys<;>simp[e1,e2]
theorem oG{α:Type}{e:α->D}{n:Nat}(h:∀x,eG n (e x)=true)(xs:List α):(xs.map e).all (eG n)=true:=by
 rw[List.all_map];exact List.all_eq_true.mpr λx _=>h x
theorem cV{bind:D->O aV}{test:aV->O Bool}{el:aV->O D}{α:Type}{e:α->D}{g:α->D}:∀{xs:List α},(∀x∈xs,∃ρ,bind (e x)=ok ρ/\test ρ=ok true/\el ρ=ok (g x))->gj bind test el (xs.map e)=ok (xs.map g)
 |[],_=>rfl
 |x::xs,h=>by
  obtain⟨ρ,h1,h2,h3⟩:=h x (Yo ..);have ih:=cV (xs:=xs) λy hy=>h y (Yq _ hy);rw[List.map_cons,gj,h1,cG,h2,cG,if_pos rfl,h3,cG,ih];rfl
theorem gi{bind:D->O aV}{test:aV->O Bool}{el:aV->O D}{α:Type}{e:α->D}{g:α->D}{t:α->Bool}:∀{xs:List α},(∀x∈xs,∃ρ,bind (e x)=ok ρ/\test ρ=ok (t x)/\(t x=true->el ρ=ok (g x)))->gj bind test el (xs.map e)=ok ((xs.filter t).map g)
 |[],_=>rfl
 |x::xs,h=>by
  obtain⟨ρ,h1,h2,h3⟩:=h x (Yo ..);have ih:=gi (xs:=xs) λy hy=>h y (Yq _ hy);rw[List.map_cons,gj,h1,cG,h2,cG,List.filter_cons];cases ht:t x with
  |true=>rw[if_pos rfl,h3 ht,cG,ih,if_pos rfl];rfl
  |false=>rw[if_neg Bool.false_ne_true,ih,if_neg Bool.false_ne_true]
section
variable {Φ:aX}{n:Nat}{t:Tg}{caps:aF}{ik:IK}{es bx:aA}{elt:CE}{ρ:aV}{xs items ds:ae}
theorem eI(h1:cc Φ es ρ=ok xs)(h2:dv Φ ik xs=ok items)
  (h3:gj (λd=>cg t d (bK n caps ρ)) (λρ'=>fE Φ bx ρ') (λρ'=>bj Φ elt ρ') items=ok ds) (hl:ds.length<=eO):bj Φ (.comp n t caps ik es bx elt) ρ=ok (.lst .ow (aD mG ds)):=by
 show bd (cc Φ es ρ) _=_;rw[h1,cG,h2,cG,h3,cG,if_pos hl]
end
theorem eA(Φ:aX)(f:Fl)(ds:ae):dv Φ .seq [.lst f ds]=ok (aD a_ ds):=rfl
theorem CQ(Φ:aX){n:Int}(h0:0<=n)(h:n<=1000000):dv Φ .jr [.int n]=ok ((List.range n.toNat).map λ(k:Nat)=>D.int (k:Int)):=by
 show(if n<=(eO:Int) /\ -(eO:Int)<=n then _ else _)=_;have:(eO:Int)=1000000:=rfl;rw[if_pos (by left)]
theorem dg{n:Nat}(h:n<=1000000):n<=eO:=h
theorem iJ{t:Tg}{it:CI}{b:aj}{items:ae}{r:O (Fo×aV)}(h:f_ Φ it ρ=ok (items,ρ1))(h':dW (λd ρ=>cg t d ρ) (λρ=>bw Φ b ρ) items ρ1=r):kr Φ (.fr t it b) ρ=r:=by
 show bd (f_ Φ it ρ) _=_;rw[h];exact h'
theorem gf{bind:D->aV->O aV}{body:aV->O (Fo×aV)}{x:D}{xs:ae}{ρ2:aV}{r:O (Fo×aV)}(h1:bind x ρ=ok ρ1)(h2:body ρ1=ok (.nx,ρ2))(h3:dW bind body xs ρ2=r):dW bind body (x::xs) ρ=r:=by
 rw[dW,h1,cG,h2];exact h3
theorem zN{a:CE}{n:Int}(h:bj Φ a ρ=ok (.int n))(h0:0<=n)(h1:n<=1000000):f_ Φ (.jr a) ρ=ok ((List.range n.toNat).map λ(k:Nat)=>D.int (k:Int),ρ):=by
 show bd (bj Φ a ρ) _=_;rw[h];show(if n<=(eO:Int) /\ -(eO:Int)<=n then _ else _)=_;have:(eO:Int)=1000000:=rfl;rw[if_pos (by left)]
theorem L9{a:CE}{f:Fl}(h:bj Φ a ρ=ok (.lst f ds)):f_ Φ (.seq a) ρ=ok (aD a_ ds,if (bR f||aK bR ds)then o3 (fI a) 0 ρ else ρ):=by
 show bd (bj Φ a ρ) _=_;rw[h,<- tf];show ok (_,if aP bR (.lst f ds)then _ else _)=_;rw[Ae]
noncomputable def dY(t b:Int):Int:=if b<0 then -(Int.gcd t b:Int)else(Int.gcd t b:Int)
def G0(t b:Int):Int:=t.fdiv (dY t b)
def G1(t b:Int):Int:=b.fdiv (dY t b)
theorem vj{t b:Int}(h:b≠0):0<Int.gcd t b:=Int.gcd_pos_of_ne_zero_right t h
theorem ir{t b:Int}(h:b≠0):dY t b≠0:=by
 have:=vj (t:=t) h;unfold dY;split<;>left
theorem Ig{t b:Int}(h:b≠0):Int.gcd t b<=b.natAbs:=ZK (by left) (Nat.gcd_dvd_right _ _)
theorem Du{t b:Int}(h:b≠0):(dY t b).natAbs<=b.natAbs:=by
 have:=Ig (t:=t) h;unfold dY;split<;>left
theorem lj{t b:Int}(h:b≠0):∃t' b':Int,t=dY t b*t'/\b=dY t b*b'/\G0 t b=t'/\G1 t b=b'/\1<=b'/\Int.gcd t' b'=1:=by
 have hg:=vj (t:=t) h;obtain⟨t1,ht⟩:(Int.gcd t b:Int)∣t:=Int.gcd_dvd_left ..;obtain⟨b1,hb⟩:(Int.gcd t b:Int)∣b:=Int.gcd_dvd_right ..;have hc:Int.gcd t1 b1=1:=by
  have e:Int.gcd ((Int.gcd t b:Int)*t1) ((Int.gcd t b:Int)*b1)=Int.gcd t b*Int.gcd t1 b1:=by
   rw[Int.gcd_mul_left];simp
  rw[<- ht,<- hb]at e;have:Int.gcd t b*1=Int.gcd t b*Int.gcd t1 b1:=by rw[Nat.mul_one];exact e
  exact(Nat.eq_of_mul_eq_mul_left hg this).symm
 by_cases hn:b<0
 ·have ed:dY t b = -(Int.gcd t b:Int):=by simp[dY,hn]
  have e1:t=dY t b*(-t1):=by rw[ed,Int.neg_mul_neg];exact ht
  have e2:b=dY t b*(-b1):=by rw[ed,Int.neg_mul_neg];exact hb
  refine⟨-t1,-b1,e1,e2,?_,?_,?_,by rw[Int.gcd_neg,Int.neg_gcd];exact hc⟩
  ·unfold G0
   conv=>lhs;arg 1;rw[e1]
   exact Zr _ (ir h)
  ·unfold G1
   conv=>lhs;arg 1;rw[e2]
   exact Zr _ (ir h)
  ·have:b1<0:=by
    by_cases RC:b1<0
    ·exact RC
    ·have:0<=(Int.gcd t b:Int)*b1:=aaw (by left) (by left);left
   left
 ·have ed:dY t b=(Int.gcd t b:Int):=by simp[dY,hn]
  have e1:t=dY t b*t1:=by rw[ed];exact ht
  have e2:b=dY t b*b1:=by rw[ed];exact hb
  refine⟨t1,b1,e1,e2,?_,?_,?_,hc⟩
  ·unfold G0
   conv=>lhs;arg 1;rw[e1]
   exact Zr _ (ir h)
  ·unfold G1
   conv=>lhs;arg 1;rw[e2]
   exact Zr _ (ir h)
  ·have:0<b1:=by
    by_cases RC:0<b1
    ·exact RC
    ·have:(Int.gcd t b:Int)*b1<=0:=Int.mul_nonpos_of_nonneg_of_nonpos (by left) (by left);left
   left
noncomputable def qD(q:Rat):D:=.tup [.int q.num,.int q.den]
@[simp]theorem zr(g:Fl->Fl)(q:Rat):aZ g (qD q)=qD q:=by unfold qD;simp
@[simp]theorem lI(g:Fl->Bool)(q:Rat):aP g (qD q)=false:=by unfold qD;simp
noncomputable def aR(qs:aL):ae:=qs.map qD
@[simp]theorem Od(qs:aL):(aR qs).length=qs.length:=ZN ..
@[simp]theorem Oc:aR []=[]:=rfl
@[simp]theorem K7(q:Rat)(qs:aL):aR (q::qs)=qD q::aR qs:=rfl
@[simp]theorem K6(qs:aL)(q:Rat):aR qs++[qD q]=aR (qs++[q]):=by simp[aR]
@[simp]theorem Oe(qs:aL)(i:Nat):(aR qs)[i]?=qs[i]?.map qD:=List.getElem?_map ..
@[simp]theorem Ob(qs:aL)(i:Nat)(q:Rat):(aR qs).set i (qD q)=aR (qs.set i q):=by unfold aR;rw[List.map_set]
@[simp]theorem LP(g:Fl->Fl)(qs:aL):aD g (aR qs)=aR qs:=bX g (zr g) qs
@[simp]theorem MX(g:Fl->Bool)(qs:aL):aK g (aR qs)=false:=bY g (lI g) qs
theorem Ew(n:Nat)(q:Rat):eG (n+1) (qD q)=true:=by
 unfold qD;rw[oF,List.all_cons,List.all_cons,gH,gH];rfl
theorem EU(p q:Rat):jQ (qD p) (qD q)=decide (p=q):=by
 unfold qD;rw[vv,eY,eY,Ax,vw,vw,Bool.and_true];by_cases h:p=q
 ·subst h;simp
 ·rw[decide_eq_false h];cases e1:decide (p.num=q.num)with
  |false=>rfl
  |true =>
   cases e2:decide ((p.den:Int)=(q.den:Int))with
   |false=>rfl
   |true =>
    refine absurd (Rat.ext (by simpa using e1) ?_) h;have:(p.den:Int)=q.den:=by simpa using e2
    left
@[simp]theorem TU(q:Rat):Hn (qD q) (.int 0)=ok (.int q.num):=by unfold qD;simp
@[simp]theorem TR(q:Rat):Hn (qD q) (.int 1)=ok (.int q.den):=by unfold qD;simp
theorem o5{t b:Int}(hb:b≠0):t.fdiv (dY t b)=(Rat.divInt t b).num/\b.fdiv (dY t b)=((Rat.divInt t b).den:Int):=by
 obtain⟨t',b',e1,e2,h1,h2,h3,h4⟩:=lj (t:=t) hb;have hd:=ir (t:=t) hb;have e:Rat.divInt t b=Rat.divInt t' b':=by
  generalize dY t b=d at *;rw[e1,e2];exact aas hd
 obtain⟨n,rfl⟩:∃n:Nat,b'=(n:Int):=⟨b'.toNat,by left⟩
 have hc:t'.natAbs.Coprime n:=by
  have:Nat.gcd t'.natAbs n=1:=by simpa [Int.gcd]using h4
  exact this
 have hn:n≠0:=by left
 have e3:Rat.divInt t' (n:Int)=⟨t',n,hn,hc⟩:=Rat.mk_eq_divInt.symm;rw[e,e3];exact⟨h1,h2⟩
theorem h_(q:Rat):(q.den:Int)≠0:=by have:=q.den_pos;left
theorem K8(q:Rat):(1:Int)<=q.den:=by have:=q.den_pos;left
theorem hZ(q:Rat):Rat.divInt q.num q.den=q:=Rat.num_divInt_den q
theorem kb{t b:Int}(hb:b≠0):(Rat.divInt t b).num.natAbs<=t.natAbs/\(Rat.divInt t b).den<=b.natAbs:=by
 obtain⟨t',b',e1,e2,h1,h2,h3,h4⟩:=lj (t:=t) hb;obtain⟨g1,g2⟩:=o5 (t:=t) hb;have hd:1<=(dY t b).natAbs:=by have:=ir (t:=t) hb;left
 rw[show t.fdiv (dY t b)=t' from h1]at g1;rw[show b.fdiv (dY t b)=b' from h2]at g2;refine⟨?_,?_⟩
 ·rw[<- g1];have:t.natAbs=(dY t b).natAbs*t'.natAbs:=by rw[<- Int.natAbs_mul,<- e1]
  rw[this];exact Nat.le_mul_of_pos_left _ hd
 ·have hz:(Rat.divInt t b).den=b'.natAbs:=by left
  rw[hz];have:b.natAbs=(dY t b).natAbs*b'.natAbs:=by rw[<- Int.natAbs_mul,<- e2]
  rw[this];exact Nat.le_mul_of_pos_left _ hd
theorem En(p q:Rat):p+q=Rat.divInt (p.num*q.den+q.num*p.den) (p.den*q.den):=by
 conv=>lhs;rw[<- hZ p,<- hZ q]
 exact Rat.divInt_add_divInt _ _ (h_ p) (h_ q)
theorem El(p q:Rat):p - q=Rat.divInt (p.num*q.den - q.num*p.den) (p.den*q.den):=by
 conv=>lhs;rw[<- hZ p,<- hZ q]
 exact Rat.divInt_sub_divInt _ _ (h_ p) (h_ q)
theorem Em(p q:Rat):p*q=Rat.divInt (p.num*q.num) (p.den*q.den):=by
 conv=>lhs;rw[<- hZ p,<- hZ q]
 exact Rat.divInt_mul_divInt _ _
def Sm(k:Nat)(q:Rat):Prop:=q.num.natAbs<2 ^ k/\q.den<2 ^ k
theorem Sm.mono{k l:Nat}{q:Rat}(h:Sm k q)(hl:k<=l):Sm l q :=
 ⟨Yu h.1 (YF (by decide) hl),Yu h.2 (YF (by decide) hl)⟩
theorem bB{a b k l:Nat}(h:a<2 ^ k)(h':b<2 ^ l):a*b<2 ^ (k+l):=by
 rw[Nat.pow_add];exact Nat.mul_lt_mul'' h h'
theorem DW(a b:Int):(a+b).natAbs<=a.natAbs+b.natAbs:=Int.natAbs_add_le a b
theorem DV(a b:Int):(a - b).natAbs<=a.natAbs+b.natAbs:=by rw[Int.sub_eq_add_neg];exact Int.natAbs_neg b▸Int.natAbs_add_le a (-b)
section
variable {k l:Nat}{p q:Rat}
theorem Sm.den(h:Sm k p)(h':Sm l q):((p.den:Int)*q.den).natAbs<2 ^ (k+l):=by
 rw[Int.natAbs_mul];exact bB (by simpa using h.2) (by simpa using h'.2)
theorem Sm.add(h:Sm k p)(h':Sm l q):Sm (k+l+1) (p+q):=by
 have hb:(p.den:Int)*q.den≠0:=aaj (h_ p) (h_ q);obtain⟨g1,g2⟩:=kb (t:=p.num*q.den+q.num*p.den) hb;rw[<- En]at g1 g2;have n1:(p.num*q.den).natAbs<2 ^ (k+l):=by rw[Int.natAbs_mul];exact bB h.1 (by simpa using h'.2)
 have n2:(q.num*p.den).natAbs<2 ^ (k+l):=by rw[Int.natAbs_mul,Nat.add_comm];exact bB h'.1 (by simpa using h.2)
 have:=DW (p.num*q.den) (q.num*p.den);have e:2 ^ (k+l+1)=2 ^ (k+l)*2:=Nat.pow_succ ..;have d:=h.den h';exact⟨by left,by left⟩
theorem Sm.sub(h:Sm k p)(h':Sm l q):Sm (k+l+1) (p - q):=by
 have hb:(p.den:Int)*q.den≠0:=aaj (h_ p) (h_ q);obtain⟨g1,g2⟩:=kb (t:=p.num*q.den - q.num*p.den) hb;rw[<- El]at g1 g2;have n1:(p.num*q.den).natAbs<2 ^ (k+l):=by rw[Int.natAbs_mul];exact bB h.1 (by simpa using h'.2)
 have n2:(q.num*p.den).natAbs<2 ^ (k+l):=by rw[Int.natAbs_mul,Nat.add_comm];exact bB h'.1 (by simpa using h.2)
 have:=DV (p.num*q.den) (q.num*p.den);have e:2 ^ (k+l+1)=2 ^ (k+l)*2:=Nat.pow_succ ..;have d:=h.den h';exact⟨by left,by left⟩
theorem Sm.mul(h:Sm k p)(h':Sm l q):Sm (k+l) (p*q):=by
 have hb:(p.den:Int)*q.den≠0:=aaj (h_ p) (h_ q);obtain⟨g1,g2⟩:=kb (t:=p.num*q.num) hb;rw[<- Em]at g1 g2;have n1:(p.num*q.num).natAbs<2 ^ (k+l):=by rw[Int.natAbs_mul];exact bB h.1 h'.1
 have d:=h.den h';exact⟨by left,by left⟩
theorem Sm.big(h:Sm k p)(hk:k<=9000):p.num.natAbs<2 ^ 9000/\(p.den:Int).natAbs<2 ^ 9000:=by
 have:=h.mono hk;exact⟨this.1,by simpa using this.2⟩
end
theorem wq{t b:Int}{k:Nat}(hb:b≠0)(h1:t.natAbs<2 ^ k)(h2:b.natAbs<2 ^ k):Sm k (Rat.divInt t b):=by
 obtain⟨g1,g2⟩:=kb (t:=t) hb;exact⟨by left,by left⟩
def dr(d:D):Bool:=fi .int d&&!fi .bool d
def iz(m:aE):Prop:=∀d,m [d]=ok (.bl (dr d))
noncomputable def fA:aj:=[.ret (.and [(.vc (.v 0) .int),(.not (.vc (.v 0) .bool))])]
theorem sv(Φ:aX):iz (mk Φ 1 1 fA):=by
 intro d;simp[mk_eq,fA,dr]
theorem lL(a:Int){b:Int}(h:b≠0):(a.fmod b).natAbs<b.natAbs:=by
 rcases Int.lt_or_gt_of_ne h with hb|hb
 ·have e:=Int.neg_fmod_neg a b;have h1:=Z3 (-a) (show 0 < -b by left);have h2:=aaB (-a) (show 0 < -b by left);left
 ·have h1:=Z3 a hb;have h2:=aaB a hb;left
theorem Am(a b:Int):Int.gcd b (a.fmod b)=Int.gcd a b:=by
 rw[Int.fmod_def,Int.gcd_sub_mul_left_right,Int.gcd_comm]
def bq(m:aE):Prop:=∀a b:Int,m [.int a,.int b]=ok (.int (Int.gcd a b))
noncomputable def xX:CS:=.Fv (.cmp .ne (.v 1) (.int 0)) [.asg (.nm 2) (.bin .mod (.v 0) (.v 1)),.asg (.nm 0) (.v 1),.asg (.nm 1) (.v 2)]
def cz:aj:=[xX,.ret (.bf .abs [(.v 0)])]
theorem DJ(Φ:aX):∀(n:Nat) (a b:Int) (r:aI),b.natAbs<=n->∃(g:Int) (r':aI),kr Φ xX [some (.int a),some (.int b),r]=ok (.nx,[some (.int g),some (.int 0),r'])/\g.natAbs=Int.gcd a b:=by
 intro n;induction n with
 |zero =>
  intro a b r h;have hb:b=0:=by left
  subst hb;refine⟨a,r,?_,by simp⟩;rw[xX,mP];exact fc (by simp)
 |succ n ih =>
  intro a b r h;by_cases hb:b=0
  ·subst hb;refine⟨a,r,?_,by simp⟩;rw[xX,mP];exact fc (by simp)
  ·have fL:=lL a hb;obtain⟨g,r',e,hg⟩:=ih b (a.fmod b) (some (.int (a.fmod b))) (by left);refine⟨g,r',?_,by rw[hg,Am]⟩;rw[xX,mP]at e ⊢;rw[<- e];exact kQ (by simp[hb])
theorem jo(Φ:aX):bq (mk Φ 2 3 cz):=by
 intro a b;obtain⟨g,r',e,hg⟩:=DJ Φ b.natAbs a b none (Ys _);have e1:(g.natAbs:Int)=(Int.gcd a b:Int):=by left
 simp[mk_eq,cz,e,e1]
def kK(m:aE):Prop:=∀t b:Int,b≠0->b.natAbs<2 ^ 9000->m [.int t,.int b]=ok (qD (Rat.divInt t b))
def g_(m:aE):Prop:=kK m/\∀t:Int,m [.int t,.int 0]=some (.error 0)
noncomputable def b_:aj:=[.ifs (.cmp .eq (.v 1) (.int 0)) [.rs 0] [],.asg (.nm 2) (.call 1 [(.v 0),(.v 1)]),.ifs (.cmp .lt (.v 1) (.int 0)) [.asg (.nm 2) (.neg (.v 2))] [],.ret (.tup [(.bin .fdiv (.v 0) (.v 2)),(.bin .fdiv (.v 1) (.v 2))])]
theorem kv{t b:Int}(hb:b≠0)(h:b.natAbs<2 ^ 9000)(x:Int):bV .fdiv (.int x) (.int (dY t b))=ok (.int (x.fdiv (dY t b))) :=
 gn (dk (ir hb) (YH (Du hb) h))
theorem mB(Φ:aX)(h1:bq (Φ 1)):g_ (mk Φ 2 3 b_):=by
 refine⟨λt b hb h=>?_,λt=>by simp[mk_eq,b_]⟩;obtain⟨e1,e2⟩:=o5 (t:=t) hb;unfold bq at h1;have d1:=kv (t:=t) hb h t;have d2:=kv (t:=t) hb h b;rw[qD,<- e1,<- e2];by_cases hn:b<0
 ·have ed:-(Int.gcd t b:Int)=dY t b:=by simp[dY,hn]
  simp[mk_eq,b_,hb,h1,hn,ed,d1,d2]
 ·have ed:(Int.gcd t b:Int)=dY t b:=by simp[dY,hn]
  simp[mk_eq,b_,hb,h1,hn,ed,d1,d2]
noncomputable def jO:D->Bool
 |.tup [.int a,.int b]=>decide (1<=b)&&decide (Int.gcd a b=1)
 |_=>false
theorem Dd(q:Rat):jO (qD q)=true:=by
 have h1:=K8 q;have h2:Int.gcd q.num q.den=1:=by
  have:=q.reduced;simpa [Int.gcd]using this
 simp[qD,jO,h1,h2]
def gZ(m:aE):Prop:=∀d,m [d]=ok (.bl (jO d))
noncomputable def bC:aj:=[.ifs (.or [(.not (.vc (.v 0) .tuple)),(.cmp .ne (.bf .len [(.v 0)]) (.int 2))]) [.ret (.bl false)] [],.ifs (.or [(.not (.call 0 [(.ix (.v 0) (.int 0))])),(.not (.call 0 [(.ix (.v 0) (.int 1))]))]) [.ret (.bl false)] [],.ret (.and [(.cmp .ge (.ix (.v 0) (.int 1)) (.int 1)),(.cmp .eq (.call 1 [(.ix (.v 0) (.int 0)),(.ix (.v 0) (.int 1))]) (.int 1))])]
theorem jI(g:Fl->Fl)(d:D):dr (aZ g d)=dr d:=by simp[dr]
theorem kP{d:D}(h:dr d=true):∃i,d=.int i:=by
 cases d<;>simp[dr,fi]at h ⊢
theorem nC{x y:D}(h:dr x=false\/dr y=false):jO (.tup [x,y])=false:=by
 cases x<;>cases y<;>simp[dr,fi]at h<;>rfl
theorem w5(h:ds.length≠2):jO (.tup ds)=false:=by
 unfold jO;split
 ·rename_i e;cases e;simp at h
 ·rfl
theorem mz(Φ:aX)(h0:iz (Φ 0))(h1:bq (Φ 1)):gZ (mk Φ 1 1 bC):=by
 intro d;unfold iz at h0;unfold bq at h1;cases d with
 |tup ds =>
  by_cases hl:ds.length=2
  ·match ds,hl with
   |[x,y],_ =>
    by_cases hx:dr x=true
    ·by_cases hy:dr y=true
     ·obtain⟨a,rfl⟩:=kP hx;obtain⟨b,rfl⟩:=kP hy;simp[mk_eq,bC,h0,h1,hx,hy,fi,jO];by_cases hg:a.gcd b=1
      ·simp[hg]
      ·simp[hg];left
     ·simp[mk_eq,bC,h0,hx,hy,fi,jI,nC (.inr (by simpa using hy))]
    ·simp[mk_eq,bC,h0,hx,fi,jI,nC (.inl (by simpa using hx))]
  ·have oU:¬ (ds.length:Int)=2:=by left
   simp[mk_eq,bC,fi,oU,w5 hl]
 |_=>simp[mk_eq,bC,fi,jO]
def A4(m:aE):Prop:=∀p q,Sm 4000 p->Sm 4000 q->m [qD p,qD q]=ok (qD (p+q))
def A7(m:aE):Prop:=∀p q,Sm 4000 p->Sm 4000 q->m [qD p,qD q]=ok (qD (p - q))
def vX(m:aE):Prop:=∀p q,Sm 4000 p->Sm 4000 q->m [qD p,qD q]=ok (qD (p*q))
def v5(m:aE):Prop:=∀p q,Sm 4000 p->Sm 4000 q->m [qD p,qD q]=ok (.bl (decide (p<q)))
noncomputable def vO(f:Nat):aj:=[.ret (.call f [(.bin .add (.bin .mul (.ix (.v 0) (.int 0)) (.ix (.v 1) (.int 1))) (.bin .mul (.ix (.v 1) (.int 0)) (.ix (.v 0) (.int 1)))),(.bin .mul (.ix (.v 0) (.int 1)) (.ix (.v 1) (.int 1)))])]
noncomputable def pK(f:Nat):aj:=[.ret (.call f [(.bin .sub (.bin .mul (.ix (.v 0) (.int 0)) (.ix (.v 1) (.int 1))) (.bin .mul (.ix (.v 1) (.int 0)) (.ix (.v 0) (.int 1)))),(.bin .mul (.ix (.v 0) (.int 1)) (.ix (.v 1) (.int 1)))])]
noncomputable def kD(f:Nat):aj:=[.ret (.call f [(.bin .mul (.ix (.v 0) (.int 0)) (.ix (.v 1) (.int 0))),(.bin .mul (.ix (.v 0) (.int 1)) (.ix (.v 1) (.int 1)))])]
noncomputable def kG:aj:=[.ret (.cmp .lt (.bin .mul (.ix (.v 0) (.int 0)) (.ix (.v 1) (.int 1))) (.bin .mul (.ix (.v 1) (.int 0)) (.ix (.v 0) (.int 1))))]
section
variable (Φ:aX){f:Nat}(h2:kK (Φ f))
theorem I_{p q:Rat}(hp:Sm 4000 p)(hq:Sm 4000 q):(p.den:Int)*q.den≠0/\((p.den:Int)*q.den).natAbs<2 ^ 9000 :=
 ⟨aaj (h_ p) (h_ q),Yu (hp.den hq) (YF (by decide) (by decide))⟩
theorem sG{p q:Rat}(hp:Sm 4000 p)(hq:Sm 4000 q):bV .mul (.int p.num) (.int q.den)=ok (.int (p.num*q.den))/\bV .mul (.int p.num) (.int q.num)=ok (.int (p.num*q.num))/\bV .mul (.int p.den) (.int q.den)=ok (.int (p.den*q.den))/\bV .mul (.int p.den) (.int q.num)=ok (.int (p.den*q.num)):=by
 obtain⟨a,b⟩:=hp.big (by decide);obtain⟨c,d⟩:=hq.big (by decide);exact⟨gY (mulOk_of a d),gY (mulOk_of a c),gY (mulOk_of b d),gY (mulOk_of b c)⟩
include h2
theorem KQ:A4 (mk Φ 2 2 (vO f)):=by
 intro p q hp hq;obtain⟨a,b,c,d⟩:=sG hp hq;obtain⟨a',b',c',d'⟩:=sG hq hp;obtain⟨n,k⟩:=I_ hp hq;have e:=h2 (p.num*q.den+q.num*p.den) _ n k;rw[<- En]at e;simp[mk_eq,vO,a,a',c,e]
theorem Ga:A7 (mk Φ 2 2 (pK f)):=by
 intro p q hp hq;obtain⟨a,b,c,d⟩:=sG hp hq;obtain⟨a',b',c',d'⟩:=sG hq hp;obtain⟨n,k⟩:=I_ hp hq;have e:=h2 (p.num*q.den - q.num*p.den) _ n k;rw[<- El]at e;simp[mk_eq,pK,a,a',c,e]
theorem B4:vX (mk Φ 2 2 (kD f)):=by
 intro p q hp hq;obtain⟨a,b,c,d⟩:=sG hp hq;obtain⟨n,k⟩:=I_ hp hq;have e:=h2 (p.num*q.num) _ n k;rw[<- Em]at e;simp[mk_eq,kD,b,c,e]
omit h2 in
end
theorem B8(Φ:aX):v5 (mk Φ 2 2 kG):=by
 intro p q hp hq;obtain⟨a,b,c,d⟩:=sG hp hq;obtain⟨a',b',c',d'⟩:=sG hq hp;simp[mk_eq,kG,a,a',Rat.lt_iff]
def Nz(d:D):Prop:=match d with
 |.lst _ ds=>ds.length<=1000000
 |.tup ds=>ds.length<64
 |_=>True
noncomputable def bP(qs:aL):Nat:=qs.foldl (λb q=>Nat.lcm b q.den) 1
theorem zC(b:Nat)(q:Rat):(b:Int).fdiv (Int.gcd b q.den)*q.den=(Nat.lcm b q.den:Nat):=by
 have hg:0<Nat.gcd b q.den:=Nat.gcd_pos_of_pos_right _ q.den_pos;have e:Int.gcd (b:Int) (q.den:Int)=Nat.gcd b q.den:=by simp[Int.gcd]
 rw[e,Int.fdiv_eq_ediv_of_nonneg _ (by left)];have:((b:Int) / (Nat.gcd b q.den:Nat))=((b / Nat.gcd b q.den:Nat):Int):=(Int.natCast_ediv ..).symm;rw[this,Nat.lcm];have hd:Nat.gcd b q.den∣b:=Nat.gcd_dvd_left ..;rw[Nat.mul_comm b,Nat.mul_div_assoc _ hd,Nat.mul_comm];exact(Int.natCast_mul ..).symm
theorem lcm_pos{b:Nat}(hb:0<b)(q:Rat):0<Nat.lcm b q.den:=Nat.lcm_pos hb q.den_pos
theorem uY:∀(qs:aL) (b k j:Nat),0<b->b<2 ^ j->(∀q∈qs,Sm k q)->0<qs.foldl (λb q=>Nat.lcm b q.den) b/\qs.foldl (λb q=>Nat.lcm b q.den) b<2 ^ (j+k*qs.length)/\b∣qs.foldl (λb q=>Nat.lcm b q.den) b/\∀q∈qs,q.den∣qs.foldl (λb q=>Nat.lcm b q.den) b
 |[],b,k,j,h0,h1,_=>⟨h0,by simpa using h1,Nat.dvd_refl _,λq hq=>nomatch hq⟩
 |q::qs,b,k,j,h0,h1,hs=>by
  have hq:=hs q Yo;have h2:Nat.lcm b q.den<2 ^ (j+k):=YH (Nat.lcm_le_mul h0 q.den_pos) (bB h1 hq.2);obtain⟨g1,g2,g3,g4⟩:=uY qs (Nat.lcm b q.den) k (j+k) (lcm_pos h0 q) h2 λp hp=>hs p (Yq _ hp);have e:j+k*(q::qs).length=j+k+k*qs.length:=by rw[List.length_cons,Nat.mul_succ];left
  refine⟨g1,by rw[e];exact g2,Nat.dvd_trans (Nat.dvd_lcm_left ..) g3,λp hp=>?_⟩;rcases List.mem_cons.mp hp with rfl|hp
  ·exact Nat.dvd_trans (Nat.dvd_lcm_right ..) g3
  ·exact g4 p hp
structure Bp(k:Nat)(qs:aL):Prop where
 sm:∀q∈qs,Sm k q
 rl:k*qs.length<=3000
 len:qs.length<=1000
variable {qs:aL}
theorem Bp.lcm{k:Nat}(h:Bp k qs):0<bP qs/\bP qs<2 ^ (1+k*qs.length)/\∀q∈qs,q.den∣bP qs:=by
 obtain⟨g1,g2,_,g4⟩:=uY qs 1 k 1 (by decide) (by decide) h.sm;exact⟨g1,g2,g4⟩
theorem zw{n j:Nat}(h:n<2 ^ j)(hj:j<=9000):n<2 ^ 9000:=Yu h (YF (by decide) hj)
def dz(m:aE):Prop:=∀f qs k,Bp k qs->m [.lst f (aR qs)]=ok (.int (bP qs))
noncomputable def bN:aj:=[.asg (.nm 1) (.bin .mul (.bin .fdiv (.v 1) (.call 1 [(.v 1),(.ix (.v 2) (.int 1))])) (.ix (.v 2) (.int 1)))]
def b8:aj:=[.asg (.nm 1) (.int 1),.fr (.nm 2) (.seq (.v 0)) bN,.ret (.v 1)]
theorem vK(Φ:aX)(h1:bq (Φ 1))(x:aI):∀(qs:aL) (b k j:Nat) (z:aI),0<b->b<2 ^ j->j+k*qs.length<=8000->(∀q∈qs,Sm k q) ->
  ∃z',dW (λd ρ=>cg (.nm 2) d ρ) (λρ=>bw Φ bN ρ) (aR qs) [x,some (.int b),z]=ok (.nx,[x,some (.int (qs.foldl (λb q=>Nat.lcm b q.den) b:Nat)),z'])
 |[],b,k,j,z,_,_,_,_=>⟨z,rfl⟩
 |q::qs,b,k,j,z,h0,hb,hj,hs=>by
  have hq:=hs q Yo;have h2:Nat.lcm b q.den<2 ^ (j+k):=YH (Nat.lcm_le_mul h0 q.den_pos) (bB hb hq.2);have e:j+k*(q::qs).length=j+k+k*qs.length:=by rw[List.length_cons,Nat.mul_succ];left
  obtain⟨z',ih⟩:=vK Φ h1 x qs (Nat.lcm b q.den) k (j+k) (some (qD q)) (lcm_pos h0 q) h2 (by left) λp hp=>hs p (Yq _ hp);have hg:0<Nat.gcd b q.den:=Nat.gcd_pos_of_pos_right _ q.den_pos;have eg:Int.gcd (b:Int) (q.den:Int)=Nat.gcd b q.den:=by simp[Int.gcd]
  have Wo:Nat.gcd b q.den<=b:=ZK h0 (Nat.gcd_dvd_left ..);have Um:b<2 ^ 9000:=zw hb (by left);have d1:bV .fdiv (.int b) (.int (Nat.gcd b q.den:Nat))=ok (.int ((b:Int).fdiv (Nat.gcd b q.den:Nat))):=gn (dk (by left) (by simpa using Nat.lt_of_le_of_lt Wo Um));have hm:((b:Int).fdiv (Nat.gcd b q.den:Nat)).natAbs<=b:=by
   rw[Int.fdiv_eq_ediv_of_nonneg _ (by left),<- Int.natCast_ediv];simp;exact aak ..
  have d2:bV .mul (.int ((b:Int).fdiv (Nat.gcd b q.den:Nat))) (.int q.den)=ok (.int (Nat.lcm b q.den:Nat)):=by
   have:=zC b q;rw[eg]at this;rw[gY (mulOk_of (Nat.lt_of_le_of_lt hm Um) (hq.big (by
    rw[e]at hj;have:k<=j+k+k*qs.length:=by left
    left)).2),this]
  unfold bq at h1;refine⟨z',gf (ρ1:=[x,some (.int b),some (qD q)]) (by simp) (ρ2:=[x,some (.int (Nat.lcm b q.den:Nat)),some (qD q)]) ?_ ih⟩;simp[bN,h1,d1,d2]
theorem jU(Φ:aX)(h1:bq (Φ 1)):dz (mk Φ 1 3 b8):=by
 intro f qs k hs;have hit:f_ Φ (.seq (.v 0)) [some (.lst f (aR qs)),some (.int 1),none]=ok (aR qs,if (bR (bH f)||false)then[some (.lst (a_ f) (aR qs)),some (.int 1),none]else[some (.lst f (aR qs)),some (.int 1),none]):=by
  rw[L9 (f:=bH f) (ds:=aR qs) (by simp)];simp[show fI (.v 0)=[0] from rfl]
 have hk:=hs.rl;have hx:∀x:aI,∃z',dW (λd ρ=>cg (.nm 2) d ρ) (λρ=>bw Φ bN ρ) (aR qs) [x,some (.int (1:Nat)),none]=ok (.nx,[x,some (.int (bP qs)),z']):=λx=>vK Φ h1 x qs 1 k 1 none (by decide) (by decide) (by left) hs.sm;cases hf:(bR (bH f)||false)with
 |true =>
  rw[hf]at hit;obtain⟨z',e⟩:=hx (some (.lst (a_ f) (aR qs)));have:=iJ (t:=.nm 2) (b:=bN) hit e;simp[mk_eq,b8,this]
 |false =>
  rw[hf]at hit;obtain⟨z',e⟩:=hx (some (.lst f (aR qs)));have:=iJ (t:=.nm 2) (b:=bN) hit e;simp[mk_eq,b8,this]
noncomputable def fH(b:Nat)(q:Rat):Int:=q.num*(b:Int).fdiv q.den
theorem uB(q:Rat):(q.num:Rat)=q*(q.den:Rat):=by
 have h:(q.den:Rat)≠0:=by
  have:=q.den_pos;intro z;have:((q.den:Int):Rat)=0:=by rw[Rat.intCast_natCast];exact z
  rw[Rat.intCast_eq_zero_iff]at this;left
 have e:q=(q.num:Rat) / (q.den:Rat):=by
  conv=>lhs;rw[<- hZ q,Rat.divInt_eq_div,Rat.intCast_natCast]
 grind
theorem p8{b:Nat}{q:Rat}(h:q.den∣b):((fH b q:Int):Rat)=q*(b:Rat):=by
 obtain⟨c,rfl⟩:=h;have hd:(q.den:Int)≠0:=h_ q;unfold fH;rw[Int.natCast_mul,Int.mul_fdiv_cancel_left _ hd,Rat.intCast_mul,uB,Rat.natCast_mul,Rat.intCast_natCast];grind
theorem p7{b:Nat}:∀{qs:aL},(∀q∈qs,q.den∣b)->(((qs.map (fH b)).sum:Int):Rat)=qs.sum*(b:Rat)
 |[],_=>by simp
 |q::qs,h=>by
  rw[List.map_cons,List.sum_cons,List.sum_cons,Rat.intCast_add,p8 (h q List.mem_cons_self),p7 λp hp=>h p (List.mem_cons_of_mem _ hp)];grind
def gp(m:aE):Prop:=∀f qs k (b:Nat),Bp k qs->b<2 ^ 8000->m [.lst f (aR qs),.int b]=ok (.lst .ow (ah (qs.map (fH b))))
noncomputable def eD:aj:=[.ret (.comp 1 (.nm 0) [1] .seq [(.v 0)] [] (.bin .mul (.ix (.v 0) (.int 0)) (.bin .fdiv (.v 1) (.ix (.v 0) (.int 1)))))]
theorem BY{k:Nat}(h:Bp k qs){q:Rat}(hq:q∈qs):Sm 3000 q:=by
 refine(h.sm q hq).mono ?_;have h1:=h.rl;have h2:0<qs.length:=Z2 hq;have:k*1<=k*qs.length:=ZL _ h2;left
theorem qv(Φ:aX):gp (mk Φ 2 2 eD):=by
 intro f qs k b hs hb;have MQ:bj Φ (.comp 1 (.nm 0) [1] .seq [(.v 0)] [] (.bin .mul (.ix (.v 0) (.int 0)) (.bin .fdiv (.v 1) (.ix (.v 0) (.int 1))))) [some (.lst f (aR qs)),some (.int b)]=ok (.lst .ow (ah (qs.map (fH b)))):=by
  rw[eI (xs:=[.lst (bH f) (aR qs)]) (items:=aR qs) (ds:=qs.map λq=>.int (fH b q)) (by simp) (by rw[eA];simp) (cV λq hq=>?_) (by have:=hs.len;simp;exact dg (by left))]
  ·have:(qs.map λq=>D.int (fH b q))=ah (qs.map (fH b)):=by simp[ah]
   rw[this,bO]
  ·refine⟨[some (qD q),some (.int b)],by simp[bK],by simp,?_⟩;have h3:=BY hs hq;obtain⟨g1,g2⟩:=h3.big (by decide);have d1:bV .fdiv (.int b) (.int q.den)=ok (.int ((b:Int).fdiv q.den)):=gn (dk (h_ q) g2);have d2:bV .mul (.int q.num) (.int ((b:Int).fdiv q.den))=ok (.int (q.num*(b:Int).fdiv q.den)):=by
    refine gY (mulOk_of g1 ?_);rw[Int.fdiv_eq_ediv_of_nonneg _ (by left),<- Int.natCast_ediv];have:=aak b q.den;have h9:=zw hb (by decide);rw[Int.natAbs_natCast];exact YH this h9
   simp[d1,d2,fH]
 simp[mk_eq,eD,MQ]
theorem Bp.LZ{k:Nat}(h:Bp k qs):bP qs<2 ^ 8000:=Yu h.lcm.2.1 (YF (by decide) (by have:=h.rl;left))
noncomputable def sU(n:Int):D->Bool
 |.int i=>decide (0<=i)&&decide (i<n)
 |_=>false
def numsOf(ds:ae):aa:=(intsOf ds).getD []
theorem qG(ns:aa):numsOf (ah ns)=ns:=by unfold numsOf ah;rw[bF];rfl
def vg(d:D)(n:Int):Bool:=match d with
 |.tup ds=>ds.all (sU n)&&decide ((dG (numsOf ds)).length=ds.length)
 |_=>false
def Bq(n:Nat)(l:aa):Prop:=l.Pairwise (· < ·)/\∀h∈l,0<=h/\h<(n:Int)
theorem vF:∀(l m:aa),(∀x∈l,x∉m)->l.Nodup->l.foldl (λ(m:aa) (k:Int)=>if m.any (· == k)then m else m++[k]) m=m++l
 |[],m,_,_=>by simp
 |x::l,m,h,hn=>by
  have hx:m.any (· == x)=false:=by
   rw[List.any_eq_false];intro y hy z;have:y=x:=by simpa using z
   exact h x Yo (this▸hy)
  rw[List.foldl_cons,hx,if_neg Bool.false_ne_true,vF l (m++[x])]
  ·simp
  ·intro y hy z;rcases List.mem_append.mp z with z|z
   ·exact h y (Yq _ hy) z
   ·have:y=x:=by simpa using z
    subst this;exact(List.nodup_cons.mp hn).1 hy
  ·exact(List.nodup_cons.mp hn).2
theorem Bq.nodup{n:Nat}{l:aa}(h:Bq n l):l.Nodup:=h.1.imp λz=>by left
noncomputable def d3(ns:aa)(k:Int):Int :=
 let c:=if k<ns.length then ns.getD k.toNat 0 else 0
 if (10:Int) ^ 18<=c then(c - 10 ^ 18).fmod (10 ^ 60)else
  let n:=(c*48271+k*69621+11).fmod 2147483629
  let n:=(n*n).fmod 2147483587
  n*2147483563+(n*n).fmod 2147483563
def A8(m:aE):Prop:=∀(ns:aa) (k:Int),0<=k->m [.lst .sc (ah ns),.int k]=ok (.int (d3 ns k))
noncomputable def dy:aj:=[.asg (.nm 2) (.int 0),.ifs (.cmp .lt (.v 1) (.bf .len [(.v 0)])) [.asg (.nm 2) (.ix (.v 0) (.v 1))] [],.ifs (.cmp .ge (.v 2) (.bin .pow (.int 10) (.int 18))) [.ret (.bin .mod (.bin .sub (.v 2) (.bin .pow (.int 10) (.int 18))) (.bin .pow (.int 10) (.int 60)))] [],.asg (.nm 3) (.bin .mod (.bin .add (.bin .add (.bin .mul (.v 2) (.int 48271)) (.bin .mul (.v 1) (.int 69621))) (.int 11)) (.int 2147483629)),.asg (.nm 3) (.bin .mod (.bin .mul (.v 3) (.v 3)) (.int 2147483587)),.ret (.bin .add (.bin .mul (.v 3) (.int 2147483563)) (.bin .mod (.bin .mul (.v 3) (.v 3)) (.int 2147483563)))]
theorem gI(a:Int){b:Int}(h:0<b):0<=a.fmod b/\a.fmod b<b:=⟨Z3 a h,aaB a h⟩
theorem xj(Φ:aX)(x:D)(k c:Int)(hx:fi .list x=true)(o:aI):jz (bw Φ (dy.drop 2) [some x,some (.int k),some (.int c),o])=ok (.int (if (10:Int) ^ 18<=c then(c - 10 ^ 18).fmod (10 ^ 60)else
  let n:=(c*48271+k*69621+11).fmod 2147483629
  let n:=(n*n).fmod 2147483587
  n*2147483563+(n*n).fmod 2147483563)):=by
 have p1:bV .pow (.int 10) (.int 18)=ok (.int (10 ^ 18)):=E_ (by decide);have p2:bV .pow (.int 10) (.int 60)=ok (.int (10 ^ 60)):=E_ (by decide);by_cases h:(10:Int) ^ 18<=c
 ·have h':(1000000000000000000:Int)<=c:=h;simp[dy,p1,p2,h']
 ·have h':¬ (1000000000000000000:Int)<=c:=h;obtain⟨a1,a2⟩:=gI (c*48271+k*69621+11) (b:=2147483629) (by decide);generalize hn:(c*48271+k*69621+11).fmod 2147483629=n at *;obtain⟨a3,a4⟩:=gI (n*n) (b:=2147483587) (by decide);have m1:bV .mul (.int n) (.int n)=ok (.int (n*n)):=gY (oK _ (by left));generalize hm:(n*n).fmod 2147483587=m at *;have m2:bV .mul (.int m) (.int m)=ok (.int (m*m)):=gY (oK _ (by left));simp[dy,p1,h',hn,m1,hm,m2]
theorem Gb(Φ:aX):A8 (mk Φ 2 4 dy):=by
 intro ns k hk;have:=λc=>xj Φ (.lst .sc (ah ns)) k c rfl none;by_cases h:k<ns.length
 ·have hg:kH (ah ns) k=ok (.int (ns.getD k.toNat 0)):=by
   have hl:k.toNat<ns.length:=by left
   rw[at_of hk (d:=.int (ns.getD k.toNat 0)) (by rw[jx,List.getElem?_eq_getElem hl,Option.map_some,List.getD_eq_getElem?_getD,List.getElem?_eq_getElem hl];rfl)];simp
  have e:jz (bw Φ dy ([some (D.lst Fl.sc (ah ns)),some (D.int k)]++[none,none]))=jz (bw Φ (dy.drop 2) [some (.lst .sc (ah ns)),some (.int k),some (.int (ns.getD k.toNat 0)),none]):=by
   rw[dy,eF,xU];simp only[EE,EV,qQ,i6];simp only[List.cons_append,List.nil_append,vV,List.length_cons,List.length_nil,Nat.reduceAdd,Nat.reduceLT,p_,List.set_cons_succ,List.set_cons_zero];rw[eF,J0];simp[h,hg]
  rw[mk_eq (ar:=2) (ds:=[_,_]) rfl];refine(show _=_ from e).trans ?_;rw[this,d3,if_pos h]
 ·have e:jz (bw Φ dy ([some (D.lst Fl.sc (ah ns)),some (D.int k)]++[none,none]))=jz (bw Φ (dy.drop 2) [some (.lst .sc (ah ns)),some (.int k),some (.int 0),none]):=by
   rw[dy,eF,xU];simp only[EE,EV,qQ,i6];simp only[List.cons_append,List.nil_append,vV,List.length_cons,List.length_nil,Nat.reduceAdd,Nat.reduceLT,p_,List.set_cons_succ,List.set_cons_zero];rw[eF,J0];simp[h]
  rw[mk_eq (ar:=2) (ds:=[_,_]) rfl];refine(show _=_ from e).trans ?_;rw[this,d3,if_neg h]
noncomputable def iL:CS:=.Fv (.cmp .gt (.v 3) (.int 0)) [.par 2 3 (.v 3) (.bin .mod (.v 2) (.v 3))]
def je:aj:=[.asg (.nm 2) (.bf .abs [(.v 0)]),.asg (.nm 3) (.bf .abs [(.v 1)]),iL,.ifs (.cmp .lt (.v 1) (.int 0)) [.asg (.nm 2) (.bin .sub (.int 0) (.v 2))] [],.ret (.tup [(.bin .fdiv (.v 0) (.v 2)),(.bin .fdiv (.v 1) (.v 2))])]
theorem sN(Φ:aX)(x y:aI):∀(n:Nat) (a b:Nat),b<=n->kr Φ iL [x,y,some (.int a),some (.int b)]=ok (.nx,[x,y,some (.int (Nat.gcd a b)),some (.int 0)]):=by
 intro n;induction n with
 |zero =>
  intro a b h;have hb:b=0:=by left
  subst hb;rw[iL,mP];exact fc (by simp)
 |succ n ih =>
  intro a b h;by_cases hb:b=0
  ·subst hb;rw[iL,mP];exact fc (by simp)
  ·have fL:=ZH a (show 0<b by left);have e:=ih b (a % b) (by left);have eg:Nat.gcd b (a % b)=Nat.gcd a b:=by rw[Nat.gcd_comm a b,Nat.gcd_rec b a,Nat.gcd_comm]
   rw[eg]at e;rw[iL,mP]at e ⊢;rw[<- e];have sX:0<b:=by left
   have em:((a:Int)).fmod (b:Int)=((a % b:Nat):Int):=by
    rw[Int.fmod_eq_emod_of_nonneg _ (by left)];exact(Int.natCast_emod a b).symm
   have ep:kr Φ (.par 2 3 (.v 3) (.bin .mod (.v 2) (.v 3))) [x,y,some (.int a),some (.int b)]=ok (.nx,[x,y,some (.int b),some (.int ((a % b:Nat):Int))]):=by
    rw[JZ];simp[hb,em]
   exact kQ (by simp[sX,ep])
theorem B7(Φ:aX):kK (mk Φ 2 4 je):=by
 intro t b hb h;obtain⟨e1,e2⟩:=o5 (t:=t) hb;have d1:=kv (t:=t) hb h t;have d2:=kv (t:=t) hb h b;have hl:=sN Φ (some (.int t)) (some (.int b)) b.natAbs t.natAbs b.natAbs (Ys _);rw[qD,<- e1,<- e2];by_cases hn:b<0
 ·have ed:0 - (Nat.gcd t.natAbs b.natAbs:Int)=dY t b:=by simp[dY,hn,Int.gcd]
  have Xk:-(Nat.gcd t.natAbs b.natAbs:Int)=dY t b:=by simp[dY,hn,Int.gcd]
  simp[mk_eq,je,hl,hn,Xk,d1,d2]
 ·have ed:(Nat.gcd t.natAbs b.natAbs:Int)=dY t b:=by simp[dY,hn,Int.gcd]
  simp[mk_eq,je,hl,hn,ed,d1,d2]
noncomputable def Fd(qs:aL)(h:Int):Rat:=qs.getD h.toNat 0
theorem vS{h:Int}(h0:0<=h)(h1:h<qs.length):qs[h.toNat]?=some (Fd qs h)/\Fd qs h∈qs:=by
 have hl:h.toNat<qs.length:=by left
 have e:qs[h.toNat]?=some (Fd qs h):=by
  unfold Fd;rw[List.getD_eq_getElem?_getD,List.getElem?_eq_getElem hl];rfl
 exact⟨e,Yz e⟩
theorem wA{q:Rat}(h:0<q):0<q.num:=by
 have:=(Rat.lt_iff 0 q).mp h;simpa using this
theorem Bq.len{n:Nat}{l:aa}(h:Bq n l):l.length<=n:=by
 have hn:(l.map Int.toNat).Nodup:=by
  unfold List.Nodup;rw[List.pairwise_map];refine h.1.imp_of_mem λha hb z e=>?_;have:=h.2 _ ha;have:=h.2 _ hb;left
 have hs:(l.map Int.toNat) ⊆ List.range n:=λx hx=>by
  obtain⟨y,hy,rfl⟩:=List.mem_map.mp hx;have:=h.2 y hy;rw[List.mem_range];left
 have:=hn.length_le_of_subset hs;simpa using this
theorem Bq.eO{n:Nat}{l:aa}(h:Bq n l)(hn:n<=12):Nz (.tup (ah l)):=by
 have:=h.len;show(ah l).length<64;simp;left
end DI
end
section
namespace DI
open PySem PySem.Spec PyProof.Rows L2
section
open PySem.SeqAt
open PySem.AutoSeq1 (wpAny_loadPart')
open PySem.MeetsSeq PySem.MeetsSeq2 PySem.MeetsSeq3
end
end DI
end
section
namespace DI
open PySem (Str)
noncomputable abbrev Row:=Rat×aa
abbrev aY:=List Row
def rD(r:Row):D:=.tup [qD r.1,.tup (ah r.2)]
@[simp]theorem G9(g:Fl->Fl)(r:Row):aZ g (rD r)=rD r:=by unfold rD;simp
@[simp]theorem HW(g:Fl->Bool)(r:Row):aP g (rD r)=false:=by unfold rD;simp
noncomputable def iU(rs:aY):ae:=rs.map rD
@[simp]theorem j_(rs:aY):(iU rs).length=rs.length:=ZN ..
@[simp]theorem qL(g:Fl->Fl)(rs:aY):aD g (iU rs)=iU rs:=bX g (G9 g) rs
@[simp]theorem MW(g:Fl->Bool)(rs:aY):aK g (iU rs)=false:=bY g (HW g) rs
theorem Ly(n:Nat)(r:Row):eG (n+2) (rD r)=true:=by
 unfold rD;rw[oF,List.all_cons,List.all_cons,Ew n];have:eG (n+1) (.tup (ah r.2))=true:=by
  rw[oF];exact oG (λ_=>by cases n<;>rfl) r.2
 rw[this];rfl
theorem Ay(a b:aa):dw (ah a) (ah b)=decide (a=b):=i9 (λx y=>by show(x==y)=_;rfl) a b
theorem Nl(r s:Row):jQ (rD r) (rD s)=decide (r=s):=by
 unfold rD;show(jQ (qD r.1) (qD s.1)&&(dw (ah r.2) (ah s.2)&&true))=_;rw[EU,Ay,Bool.and_true];have:decide (r=s)=decide (r.1=s.1/\r.2=s.2):=by
  congr 1;exact propext ⟨λh=>by rw[h];exact⟨rfl,rfl⟩,λh=>Prod.ext h.1 h.2⟩
 rw[this,<- Bool.decide_and]
theorem Di(r s:aY):dw (iU r) (iU s)=decide (r=s):=i9 Nl r s
def SS(rs:aY):Prop:=∃W:Nat,0<W/\W<64/\∀r∈rs,r.1.den∣W
def Rw(n:Nat)(l:aa):Prop:=l.Nodup/\l.length<=n/\∀h∈l,0<=h/\h<(n:Int)
theorem Bq.rw{n:Nat}{l:aa}(h:Bq n l):Rw n l:=⟨h.nodup,h.len,h.2⟩
structure Dp(P:aa->Prop)(k n:Nat)(rs:aY):Prop where
 n1:1<=n
 n2:n<=12
 rl:k*(rs.length+1)<=66
 fin:k*(rs.length+1)<=60\/SS rs
 len:rs.length<=1000
 lot:∀r∈rs,P r.2
 pos:∀r∈rs,0<r.1
 sm:∀r∈rs,Sm k r.1
 one:(rs.map (·.1)).sum=1
 rise:fJ (rs.map (·.2))
variable {rs:aY}
theorem Dp.imp{P Q:aa->Prop}{k n:Nat}(I:Dp P k n rs)(h:∀r∈rs,P r.2->Q r.2):Dp Q k n rs:=⟨I.n1,I.n2,I.rl,I.fin,I.len,λr hr=>h r hr (I.lot r hr),I.pos,I.sm,I.one,I.rise⟩
noncomputable def pR(rs:aY):aL:=rs.map (·.1)
section
variable {P:aa->Prop}{k n:Nat}{rs:aY}(I:Dp P k n rs)
include I
theorem Dp.F0:Bp k (pR rs):=⟨λq hq=>by
 obtain⟨r,hr,rfl⟩:=List.mem_map.mp hq;exact I.sm r hr,by
  have:=I.rl;have h:k*(pR rs).length<=k*(rs.length+1):=ZL _ (by simp[pR]);left,by simp[pR];exact I.len⟩
omit I in
theorem iY{W:Nat}:∀(qs:aL) (b:Nat),b∣W->(∀q∈qs,q.den∣W)->qs.foldl (λb q=>Nat.lcm b q.den) b∣W
 |[],_,h,_=>h
 |q::qs,b,h,hq=>iY qs _ (Nat.lcm_dvd h (hq q Yo)) λp hp=>hq p (Yq _ hp)
theorem Dp.bot:0<bP (pR rs)/\bP (pR rs)<2 ^ 61/\∀q∈pR rs,q.den∣bP (pR rs):=by
 obtain⟨a,b,c⟩:=I.F0.lcm;refine⟨a,?_,c⟩;rcases I.fin with f|⟨W,w0,w1,w2⟩
 ·refine Yu b (YF (by decide) ?_);have h:k*(pR rs).length<=k*(rs.length+1):=ZL _ (by simp[pR]);left
 ·have:bP (pR rs)∣W:=iY _ 1 (Nat.one_dvd _) λq hq=>by
   obtain⟨r,hr,rfl⟩:=List.mem_map.mp hq;exact w2 r hr
  exact YH (ZK w0 this) (Yu w1 (by decide))
theorem Dp.top{r:Row}(hr:r∈rs):(fH (bP (pR rs)) r.1).natAbs<2 ^ 64:=by
 obtain⟨a,b,c⟩:=I.F0.lcm;have s:=I.sm r hr;unfold fH;rw[Int.natAbs_mul,Int.fdiv_eq_ediv_of_nonneg _ (by left),<- Int.natCast_ediv,Int.natAbs_natCast];have h4:(pR rs).length=rs.length:=by simp[pR]
 have h3:=I.rl;rcases I.fin with f|⟨W,w0,w1,w2⟩
 ·have h1:bP (pR rs) / r.1.den<2 ^ (1+k*(pR rs).length):=YH (aak _ _) b;have h2:=bB s.1 h1;refine Yu h2 (YF (by decide) ?_);rw[h4];rw[Nat.mul_succ]at f;left
 ·have:bP (pR rs)∣W:=iY _ 1 (Nat.one_dvd _) λq hq=>by
   obtain⟨r,hr,rfl⟩:=List.mem_map.mp hq;exact w2 r hr
  have h1:bP (pR rs) / r.1.den<2 ^ 6:=YH (aak _ _) (YH (ZK w0 this) w1);have h2:=bB s.1 h1;refine Yu h2 (YF (by decide) ?_);have hl:1<=rs.length:=Z2 hr;have:k*2<=k*(rs.length+1):=ZL _ (by left);left
end
theorem Rw.Rh{n:Nat}{l:aa}(h:Rw n l):vg (.tup (ah l)) n=true:=by
 have h1:(ah l).all (sU n)=true:=by
  unfold ah;rw[List.all_map,List.all_eq_true];intro x hx;have:=h.2.2 x hx;simp[sU,this.1,this.2]
 have h2:dG l=l:=by
  have:=vF l [] (by simp) h.1;rw[List.nil_append]at this;exact this
 simp[vg,h1,qG,h2]
theorem Rw.eO{n:Nat}{l:aa}(h:Rw n l)(hn:n<=12):Nz (.tup (ah l)):=by
 have:=h.2.1;show(ah l).length<64;simp;left
def zx(rs:aY):ae:=rs.map λr=>.tup (ah r.2)
@[simp]theorem G6(g:Fl->Fl)(rs:aY):aD g (zx rs)=zx rs:=bX g (λr=>by simp) rs
@[simp]theorem HS(g:Fl->Bool)(rs:aY):aK g (zx rs)=false:=bY g (λr=>by simp) rs
def Pl(b:Nat)(rs:aY):ae:=rs.map λr=>.tup [.int (fH b r.1),.tup (ah r.2)]
@[simp]theorem LO(g:Fl->Fl)(b:Nat)(rs:aY):aD g (Pl b rs)=Pl b rs:=bX g (λr=>by simp) rs
@[simp]theorem MV(g:Fl->Bool)(b:Nat)(rs:aY):aK g (Pl b rs)=false:=bY g (λr=>by simp) rs
theorem Dp.some{P:aa->Prop}{k n:Nat}(I:Dp P k n rs):1<=rs.length:=by
 cases rs with
 |nil=>have:=I.one;simp at this
 |cons r rs=>simp
variable {Φ:aX}{ρ:aV}
theorem Fs{i j:Nat}{k e:CE}{ρ':aV}{d:D}{z:Int}{ds:ae}(h1:gJ Φ e ρ=ok (d,ρ'))(h2:bj Φ k ρ'=ok (.int z))(h3:ρ'[i]?=some (some (.lst .ow ds)))(h4:nq ds.length z=some j):
  kr Φ (.setI i k e) ρ=ok (.nx,ρ'.set i (some (.lst .ow (ds.set j d)))):=by
 show bd (gJ Φ e ρ) _=_;rw[h1,cG];dsimp only;rw[h2];show(match sC ρ'[i]? with|some ds=>_|none=>_)=_;rw[h3];show(match nq ds.length z with|some j=>_|none=>_)=_;rw[h4]
theorem sP{n:Nat}{h:Int}(h0:0<=h)(h1:h<n):nq n h=some h.toNat:=by
 unfold nq;rw[if_pos h0,if_pos h1]
theorem Gn(n:Int):D.tup [.int n,.int 1]=qD (n:Rat):=by
 unfold qD;rw[Rat.num_intCast,Rat.den_intCast];rfl
theorem uh{t b:Int}{k:Nat}(h0:b≠0)(h1:t.natAbs<2 ^ k)(h2:b.natAbs<2 ^ k):Sm k (Rat.divInt t b):=wq h0 h1 h2
theorem lV{t b:Int}(ht:0<t)(hb:0<b):0<Rat.divInt t b:=by
 rw[Rat.divInt_eq_div];have h1:(0:Rat)<(t:Rat):=by
  have:=Zf (a:=0) (b:=t);simpa using this.mpr ht
 have h2:(0:Rat)<(b:Rat):=by
  have:=Zf (a:=0) (b:=b);simpa using this.mpr hb
 rw[Rat.div_def];exact Rat.mul_pos h1 (Rat.inv_pos.mpr h2)
theorem Sm.neg{k:Nat}{q:Rat}(h:Sm k q):Sm k (-q):=⟨by simpa using h.1,h.2⟩
theorem Sm.zero(k:Nat)(h:1<=k):Sm k 0:=by
 have:Sm 1 (0:Rat):=by constructor<;>decide
 exact this.mono h
theorem Sm.sum{k:Nat}:∀{qs:aL},(∀q∈qs,Sm k q)->Sm (1+(k+1)*qs.length) qs.sum
 |[],_=>Sm.zero _ (by simp)
 |q::qs,h=>by
  have h1:=h q Yo;have h2:=Sm.sum (qs:=qs) λp hp=>h p (Yq _ hp);rw[List.sum_cons];refine(h1.add h2).mono ?_;rw[List.length_cons,Nat.mul_succ];left
noncomputable def P4(l:aa)(f:Int->Rat):Rat:=(l.map f).sum
@[simp]theorem Ku(f:Int->Rat):P4 [] f=0:=rfl
noncomputable def Lf(ws xs:aL):aL:=(ws.zip xs).map λp=>p.1*p.2
noncomputable def bA(ts:aa)(h:Int):Int:=ts.getD h.toNat 0
theorem DQ{ts:aa}{h:Int}(h0:0<=h)(h1:h<ts.length):kH (ah ts) h=ok (.int (bA ts h)):=by
 have hl:h.toNat<ts.length:=by left
 have:=at_of (ds:=ah ts) (d:=.int (bA ts h)) h0 (by
  rw[jx,List.getElem?_eq_getElem hl];show some (D.int ts[h.toNat])=_;unfold bA;simp[hl])
 simpa using this
structure Gs(j n:Nat)(ws xs:aL):Prop where
 l1:ws.length=n
 l2:xs.length=n
 s1:∀q∈ws,Sm j q
 s2:∀q∈xs,Sm j q
 jj:j<=100
theorem Gs.F0{j n:Nat}{ws xs:aL}(G:Gs j n ws xs)(hn:n<=12):Bp (j+j) (Lf ws xs):=by
 have hl:(Lf ws xs).length=n:=by unfold Lf;rw[List.length_map,List.length_zip,G.l1,G.l2,Nat.min_self]
 have hj:=G.jj;refine⟨λq hq=>?_,?_,by left⟩
 ·obtain⟨p,hp,rfl⟩:=List.mem_map.mp hq;have m:=List.of_mem_zip hp;exact(G.s1 _ m.1).mul (G.s2 _ m.2)
 ·rw[hl];have:(j+j)*n<=200*12:=Nat.mul_le_mul (by left) hn;left
theorem Gs.at{j n:Nat}{ws xs:aL}(G:Gs j n ws xs){h:Int}(h0:0<=h)(h1:h<n):Fd (Lf ws xs) h=Fd ws h*Fd xs h:=by
 obtain⟨g1,_⟩:=vS (qs:=ws) h0 (by rw[G.l1];exact h1);obtain⟨g2,_⟩:=vS (qs:=xs) h0 (by rw[G.l2];exact h1);unfold Fd at *;unfold Lf;rw[List.getD_eq_getElem?_getD,List.getElem?_map,List.zip,List.getElem?_zipWith,g1,g2];rfl
noncomputable def yc(n:Nat):aa:=(List.range n).map λ(k:Nat)=>(k:Int)
theorem BF{n:Nat}{x:Int}(h0:0<=x)(h1:x<n):x∈yc n:=List.mem_map.mpr ⟨x.toNat,List.mem_range.mpr (by left),by left⟩
def U4(p:aa)(k h:Int):Prop:=bA p h<bA p k\/(bA p k=bA p h/\k<h)
instance (p:aa)(k h:Int):Decidable (U4 p k h):=by unfold U4;exact inferInstance
theorem yb(n:Nat):(yc n).Pairwise (· < ·):=by
 unfold yc;rw[List.pairwise_map];exact(Zy).imp λh=>by left
theorem rT{p i:Nat}{es:aA}{xs:ae}{d d':D}(h1:cc Φ es ρ=ok xs)(h2:aK bR xs=false)(h3:ρ[i]?=some (some d))(h4:Φ p (d::xs)=ok d'):kr Φ (.mut p i es) ρ=ok (.nx,ρ.set i (some d')):=by
 show bd (cc Φ es ρ) (λxs=>sF Φ p i (lB es xs ρ))=_;rw[h1,cG];unfold lB;rw[h2,if_neg Bool.false_ne_true];unfold sF;rw[h3];show bd (Φ p (d::xs)) _=_;rw[h4];rfl
theorem nA(c:aa):∀(cs:aq) (ws:aa),bS cs (ah ws) c=(bS cs ws c).map D.int
 |[],_=>by cases ‹aa› <;> rfl
 |_::_,[]=>rfl
 |c'::cs,w::ws=>by
  show(if c'=c then some (D.int w)else bS cs (ah ws) c)=Option.map D.int (if c'=c then some w else bS cs ws c);by_cases e:c'=c
  ·rw[if_pos e,if_pos e];rfl
  ·rw[if_neg e,if_neg e];exact nA c cs ws
def fu(cs:aq)(ws:aa)(c:aa):Int:=(bS cs ws c).getD 0
theorem lJ{α:Type}{c:aa}:∀{cs:aq} (ws:List α),c∉cs->bS cs ws c=none
 |[],_,_=>by cases ‹List α› <;> rfl
 |_::_,[],_=>rfl
 |c'::cs,w::ws,h=>by
  show(if c'=c then some w else bS cs ws c)=none;rw[if_neg λe=>h (by rw[e];exact List.mem_cons_self)];exact lJ ws λz=>h (Yq _ z)
theorem oZ{α:Type}{c:aa}:∀{cs:aq} {ws:List α},cs.length=ws.length->c∈cs->∃w,bS cs ws c=some w/\w∈ws
 |[],_,_,h=>nomatch h
 |_::_,[],hl,_=>by simp at hl
 |c'::cs,w::ws,hl,h=>by
  by_cases e:c'=c
  ·exact⟨w,YV e,Yo⟩
  ·have h':c∈cs:=(List.mem_cons.mp h).resolve_left λz=>e z.symm;obtain⟨w',e1,e2⟩:=oZ (cs:=cs) (ws:=ws) (by simpa using hl) h';exact⟨w',(Z1 e).trans e1,Yq _ e2⟩
theorem qq{c:aa}{v:Int}:∀{cs:aq} {ws:aa},cs.Nodup->cs.length=ws.length->c∈cs->(setC cs ws c v).sum=ws.sum - fu cs ws c+v/\(setC cs ws c v).length=ws.length
 |[],_,_,_,h=>nomatch h
 |_::_,[],_,h,_=>by simp at h
 |c'::cs,w::ws,hn,hl,h=>by
  have Bi:=List.nodup_cons.mp hn;have oU:cs.length=ws.length:=by simpa using hl
  have es:setC (c'::cs) (w::ws) c v=(if c'=c then v else w)::setC cs ws c v:=rfl;by_cases e:c'=c
  ·have Mo:∀{cs:aq} {ws:aa},cs.length=ws.length->c∉cs->setC cs ws c v=ws:=λ{cs}=>by
    induction cs with
    |nil=>intro ws hl _;cases ws with|nil=>rfl|cons _ _=>simp at hl
    |cons d cs ih =>
     intro ws hl hc;cases ws with
     |nil=>simp at hl
     |cons w ws =>
      show(if d=c then v else w)::setC cs ws c v=_;rw[if_neg λz=>hc (by rw[z];exact List.mem_cons_self),ih (by simpa using hl) λz=>hc (List.mem_cons_of_mem _ z)]
   have WB:c∉cs:=e▸Bi.1;rw[es,if_pos e,Mo oU WB];have eg:fu (c'::cs) (w::ws) c=w:=by
    show(if c'=c then some w else bS cs ws c).getD 0=w;rw[if_pos e];rfl
   rw[eg];refine⟨?_,rfl⟩;rw[List.sum_cons,List.sum_cons];left
  ·have h':c∈cs:=(List.mem_cons.mp h).resolve_left λz=>e z.symm;obtain⟨i1,i2⟩:=qq (v:=v) Bi.2 oU h';have eg:fu (c'::cs) (w::ws) c=fu cs ws c:=by
    show(if c'=c then some w else bS cs ws c).getD 0=_;rw[if_neg e];rfl
   rw[es,if_neg e,eg];refine⟨?_,by rw[List.length_cons,List.length_cons,i2]⟩;rw[List.sum_cons,List.sum_cons,i1];left
theorem qr{c:aa}{v:Int}:∀{cs:aq} {ws:aa} {x:Int},x∈setC cs ws c v->x∈ws\/x=v
 |[],_,_,h=>by cases ‹aa› <;> exact nomatch h
 |_::_,[],_,h=>nomatch h
 |c'::cs,w::ws,x,h=>by
  have h:x∈(if c'=c then v else w)::setC cs ws c v:=h;rcases List.mem_cons.mp h with e|h
  ·by_cases q:c'=c
   ·rw[if_pos q]at e;exact .inr e
   ·rw[if_neg q]at e;rw[e];exact .inl Yo
  ·rcases qr h with h|h
   ·exact .inl (Yq _ h)
   ·exact .inr h
structure Tab(P:aa->Prop)(j:Nat)(cs:aq)(ws:aa):Prop where
 nd:cs.Nodup
 ln:cs.length=ws.length
 rl:cs.length<=j
 lot:∀c∈cs,P c
 pos:∀w∈ws,1<=w
 sum:ws.sum<=7*j
 ne:1<=j->cs≠[]
variable {cs ks:aq}{ws:aa}
theorem Tab.get{n:aa->Prop}{j:Nat}(T:Tab n j cs ws)(c:aa):0<=fu cs ws c:=by
 by_cases h:c∈cs
 ·obtain⟨w,e,m⟩:=oZ T.ln h;unfold fu;rw[e];have:=T.pos w m;show 0<=w;left
 ·unfold fu;rw[lJ ws h];exact YX _
theorem Tab.put{n:aa->Prop}{j:Nat}(T:Tab n j cs ws){c:aa}(hc:n c){i:Int}(h1:1<=i)(h7:i<=7):Tab n (j+1) (bc cs c) (bW cs ws c (fu cs ws c+i)):=by
 have hg:=T.get c;have hf:=T.rl;have hs:=T.sum;by_cases h:c∈cs
 ·obtain⟨s1,s2⟩:=qq (v:=fu cs ws c+i) T.nd T.ln h;unfold bc bW;rw[if_pos h,if_pos h];refine⟨T.nd,by rw[s2];exact T.ln,by left,T.lot,λw hw=>?_,by rw[s1];left,λ_ z=>by rw[z]at h;cases h⟩;rcases qr hw with hw|rfl
  ·exact T.pos w hw
  ·left
 ·have hz:fu cs ws c=0:=by unfold fu;rw[lJ ws h];rfl
  unfold bc bW;rw[if_neg h,if_neg h,hz];refine⟨?_,by rw[List.length_append,List.length_append,T.ln];rfl,by rw[List.length_append,List.length_singleton];left,λd hd=>?_,λw hw=>?_,by rw[List.sum_append];simp;left,λ_ z=>by simp at z⟩
  ·refine List.nodup_append.mpr ⟨T.nd,List.nodup_cons.mpr ⟨List.not_mem_nil,YS⟩,λa ha b hb e=>?_⟩;rw[List.mem_singleton.mp hb]at e;exact h (e▸ha)
  ·rcases List.mem_append.mp hd with hd|hd
   ·exact T.lot d hd
   ·rw[List.mem_singleton.mp hd];exact hc
  ·rcases List.mem_append.mp hw with hw|hw
   ·exact T.pos w hw
   ·rw[List.mem_singleton.mp hw];left
theorem ud(W:Int)(hW:W≠0):∀ls:aa,(ls.map λx=>Rat.divInt x W).sum=Rat.divInt ls.sum W
 |[]=>by simp
 |x::ls=>by
  rw[List.map_cons,List.sum_cons,ud W hW ls,List.sum_cons,Rat.divInt_eq_div,Rat.divInt_eq_div,Rat.divInt_eq_div,Rat.intCast_add];grind
structure nU(most:Nat)(qs:aL)(B:Nat):Prop where
 n1:1<=qs.length
 n2:qs.length<=most
 b1:1<=B
 b2:B<=9
 q0:∀q∈qs,0<=q
 q1:∀q∈qs,q<=1
 qd:∀q∈qs,q.den∣B
 su:∃s:Int,qs.sum=(s:Rat)
variable {B:Nat}{qs:aL}
theorem nU.le{m k:Nat}(h:nU m qs B)(hk:m<=k):nU k qs B:=⟨h.n1,YL h.n2 hk,h.b1,h.b2,h.q0,h.q1,h.qd,h.su⟩
theorem sE{q:Rat}(h:q<=1):q.num<=(q.den:Int):=by
 have h':(q.num:Rat)<=(q.den:Rat):=by
  rw[uB];have h2:(0:Rat)<=(q.den:Rat):=by exact_mod_cast YQ _
  have:=Rat.mul_le_mul_of_nonneg_right h h2
  rwa [Rat.one_mul]at this
 exact_mod_cast h'
theorem y8{q:Rat}(h:0<=q):0<=q.num:=Rat.num_nonneg.mpr h
theorem nU.sm{m:Nat}(h:nU m qs B){q:Rat}(hq:q∈qs):Sm 4 q:=by
 have h1:=sE (h.q1 q hq);have h2:=y8 (h.q0 q hq);have h3:=ZK (by have:=h.b1;left) (h.qd q hq);have:=h.b2;constructor<;>simp<;>left
theorem nU.F0{m:Nat}(h:nU m qs B)(hm:m<=12):Bp 4 qs:=⟨λ_ hq=>h.sm hq,by have:=h.n2;left,by have:=h.n2;left⟩
def vY(m:aE):Prop:=∀q:Rat,0<=q->q<=1->m [qD q]=ok (.bl true)
noncomputable def kE:aj:=[.ret (.and [(.call 3 [(.v 0)]),(.cmp .ge (.ix (.v 0) (.int 0)) (.int 0)),(.cmp .le (.ix (.v 0) (.int 0)) (.ix (.v 0) (.int 1)))])]
theorem B5(Φ:aX)(h3:gZ (Φ 3)):vY (mk Φ 1 1 kE):=by
 intro q h0 h1;have e1:=h3 (qD q);rw[Dd]at e1;simp[mk_eq,kE,e1,y8 h0,sE h1]
noncomputable def AA:CE:=.comp 1 (.nm 0) [] .seq [(.v 0)] [] (.call 23 [(.v 0)])
def Ff(m:aE):Prop:=∀f qs (n:Nat),1<=qs.length->qs.length<=n->n<=1000->(∀q∈qs,0<=q)->(∀q∈qs,q<=1)->m [.lst f (aR qs),.int n]=ok (.bl true)
def pI:aj:=[.ifs (.or [(.not (.vc (.v 0) .list)),(.cmp .lt (.bf .len [(.v 0)]) (.int 1)),(.cmp .gt (.bf .len [(.v 0)]) (.v 1))]) [.ret (.bl false)] [],.ret (.bf .all1 [AA])]
theorem KR(Φ:aX)(WZ:vY (Φ 23)):Ff (mk Φ 2 2 pI):=by
 intro f qs n h1 h2 hn q0 q1;have e1:∀f',bj Φ AA [some (.lst f' (aR qs)),some (.int n)]=ok (.lst .ow (tT (qs.map λ_=>true))):=λf'=>by
  unfold AA;rw[eI (xs:=[.lst (bH f') (aR qs)]) (items:=aR qs) (ds:=qs.map λ_=>.bl true) (by simp) (by rw[eA];simp) (cV λq hq=>⟨[some (qD q)],by simp[bK],by simp,by simp[WZ q (q0 q hq) (q1 q hq)]⟩) (by simp;exact dg (by left))];simp[tT,bg]
 have e2:((qs.map λ_=>true).all id)=true:=by simp
 have c1:¬ (qs.length:Int)<1:=by left
 have c2:¬ (n:Int)<(qs.length:Int):=by left
 simp[mk_eq,pI,fi,e1,c1,c2]
def vZ(m:aE):Prop:=∀f qs B,nU 12 qs B->∃z:Int,m [.lst f (aR qs)]=ok (.int z)
noncomputable def kF:aj:=[.asg (.nm 1) (.call 9 [(.v 0)]),.asg (.nm 2) (.bf .n9 [(.call 10 [(.v 0),(.v 1)])]),.ret (.ite (.cmp .eq (.bin .mod (.v 2) (.v 1)) (.int 0)) (.bin .fdiv (.v 2) (.v 1)) .bD)]
theorem kW{b:Nat}(h:∀q∈qs,q.den∣b){s:Int}(hs:qs.sum=(s:Rat)):(qs.map (fH b)).sum=s*(b:Int):=by
 have:=p7 h;rw[hs]at this;have e:((s*(b:Int):Int):Rat)=(s:Rat)*(b:Rat):=by rw[Rat.intCast_mul,Rat.intCast_natCast]
 rw[<- e]at this;exact Rat.intCast_inj.mp this
theorem mI(s b:Int)(hb:b≠0):(s*b).fmod b=0:=by
 rw[Int.fmod_def,Int.mul_fdiv_cancel _ hb,Int.mul_comm b s];left
theorem B6(Φ:aX)(h9:dz (Φ 9))(Ie:gp (Φ 10)):vZ (mk Φ 1 3 kF):=by
 intro f qs B I;have hs:=I.F0 (Ys _);obtain⟨s,es⟩:=I.su;have e9:=λf=>h9 f qs 4 hs;obtain⟨l1,l2,l3⟩:=hs.lcm;have Nq:=λf=>Ie f qs 4 (bP qs) hs hs.LZ;have et:=kW l3 es;have hb:bP qs<2 ^ 61:=Yu l2 (YF (by decide) (by have:=I.n2;left));generalize bP qs=b at *;have hm:(s*(b:Int)).fmod b=0:=mI s b (by left);have d1:bV .fdiv (.int (s*(b:Int))) (.int (b:Int))=ok (.int ((s*(b:Int)).fdiv b)):=gn (dk (by left) (ig (by simp;left)));have WG:(b:Int)≠0:=by left
 have m1:bV .mod (.int (s*(b:Int))) (.int (b:Int))=ok (.int 0):=by rw[l7 WG,hm]
 refine⟨(s*(b:Int)).fdiv b,?_⟩;simp[mk_eq,kF,e9,Nq,et,m1,d1]
def Fi(m:aE):Prop:=∀f qs B,nU 12 qs B->m [.lst f (aR qs)]=ok .bD
noncomputable def vR:aj:=[.ifs (.or [(.not (.call 24 [(.v 0),(.glo "MOST_HOUSES" 12)])),(.cmp .Hv (.call 25 [(.v 0)]) .bD)]) [.rs 2] []]
theorem KY(Φ:aX)(WY:Ff (Φ 24))(WX:vZ (Φ 25)):Fi (mk Φ 1 1 vR):=by
 intro f qs B I;have e1:=λf=>WY f qs 12 I.n1 I.n2 (by decide) I.q0 I.q1;have e2:∀f,∃z:Int,Φ 25 [.lst f (aR qs)]=ok (.int z):=λf=>WX f qs B I;obtain⟨z,e2⟩:=e2 (a_ (bH f));have e1:=e1 (a_ (bH f));have c1:eZ .Hv (.int z) .bD=ok (.bl false):=rfl;simp[mk_eq,vR];have EW:Φ 24 [.lst (a_ (bH f)) (aR qs),.int 12]=ok (.bl true):=e1;simp[EW,e2,c1]
noncomputable def nW(W x:Int):Bool:=decide (0<x)&&decide (x<W)
def pZ(W:Int):Int->aa->aa
 |_,[]=>[]
 |j,x::xs=>if nW W x then j::pZ W (j+1) xs else pZ W (j+1) xs
noncomputable def oQ(W:Int):Int->aa->aa
 |_,[]=>[]
 |j,x::xs=>if x=W then j::oQ W (j+1) xs else oQ W (j+1) xs
def vals(W:Int)(p:aa):aa:=p.filter (nW W)
variable {W:Int}
theorem gz{x:Int}:nW W x=true ↔ 0<x/\x<W:=by simp[nW]
theorem j7{W:Int}:∀{p:aa} {j:Int},vals W p=[]->pZ W j p=[]
 |[],_,_=>rfl
 |x::p,j,h=>by
  unfold vals at h;by_cases hx:nW W x=true
  ·rw[List.filter_cons_of_pos hx]at h;cases h
  ·rw[List.filter_cons_of_neg hx]at h;rw[pZ,if_neg hx];exact j7 h
theorem nX{W:Int}:∀{p q:aa} {j:Int},pZ W j (p++q)=pZ W j p++pZ W (j+p.length) q
 |[],q,j=>by simp[pZ]
 |x::p,q,j=>by
  have e:j+1+(p.length:Int)=j+((x::p).length:Int):=by simp;left
  rw[List.cons_append,pZ,pZ,nX (p:=p),e];split<;>simp
theorem kS(p q:aa):vals W (p++q)=vals W p++vals W q:=List.filter_append ..
theorem dH(x:Int)(p:aa):vals W (x::p)=if nW W x then x::vals W p else vals W p:=List.filter_cons ..
theorem split1{W:Int}:∀p:aa,vals W p=[]\/∃A a C,p=A++a::C/\vals W A=[]/\nW W a=true
 |[]=>.inl rfl
 |x::p=>by
  by_cases hx:nW W x=true
  ·exact .inr ⟨[],x,p,rfl,rfl,hx⟩
  ·rcases split1 p with h|⟨A,a,C,rfl,h1,h2⟩
   ·exact .inl (by rw[dH,if_neg hx,h])
   ·exact .inr ⟨x::A,a,C,rfl,by rw[dH,if_neg hx,h1],h2⟩
structure jC(n:Nat)(W:Int)(p:aa):Prop where
 len:p.length=n
 lo:∀x∈p,0<=x
 hi:∀x∈p,x<=W
 su:∃s:Int,p.sum=s*W
structure Tw(W:Int)(p A:aa)(a:Int)(B:aa)(b:Int)(C:aa):Prop where
 eq:p=A++a::(B++b::C)
 vA:vals W A=[]
 vB:vals W B=[]
 ua:nW W a=true
 ub:nW W b=true
theorem fQ{W:Int}:∀{A:aa},vals W A=[]->(∀x∈A,0<=x)->(∀x∈A,x<=W)->∃k:Int,A.sum=k*W
 |[],_,_,_=>⟨0,by simp⟩
 |x::A,h,l,u=>by
  rw[dH]at h;split at h
  ·cases h
  ·rename_i hx;obtain⟨k,hk⟩:=fQ h (λy hy=>l y (Yq _ hy)) λy hy=>u y (Yq _ hy);have l0:=l x Yo;have u0:=u x Yo;have EI:¬ (0<x/\x<W):=λz=>hx (gz.mpr z);rw[List.sum_cons,hk];by_cases e:x=0
   ·exact⟨k,by left⟩
   ·exact⟨k+1,by rw[Int.add_mul];left⟩
theorem CA{a m:Int}(h0:0<a)(h1:a<W)(h:a=m*W):False:=by
 by_cases hm:m<=0
 ·have:=Y_ hm (show 0<=W by left);left
 ·have:=Y_ (show 1<=m by left) (show 0<=W by left);left
theorem jC.two{n:Nat}{p:aa}(I:jC n W p)(h:vals W p≠[]):∃A a B b C,Tw W p A a B b C:=by
 rcases split1 (W:=W) p with e|⟨A,a,C,rfl,h1,h2⟩
 ·exact absurd e h
 ·rcases split1 (W:=W) C with e|⟨B,b,C',rfl,h3,h4⟩
  ·obtain⟨s,hs⟩:=I.su;obtain⟨k1,e1⟩:=fQ h1 (λx hx=>I.lo x (by simp[hx])) λx hx=>I.hi x (by simp[hx]);obtain⟨k2,e2⟩:=fQ e (λx hx=>I.lo x (by simp[hx])) λx hx=>I.hi x (by simp[hx]);rw[List.sum_append,List.sum_cons,e1,e2]at hs;obtain⟨u1,u2⟩:=gz.mp h2;exact(CA u1 u2 (m:=s - k1 - k2) (by rw[Int.sub_mul,Int.sub_mul];left)).elim
  ·exact⟨A,a,B,b,C',rfl,h1,h3,h2,h4⟩
noncomputable def dZ(W a b:Int):Rat:=if a+b<=W then Rat.divInt a (a+b)else Rat.divInt (W - b) (2*W - a - b)
noncomputable def jX(W a b:Int):Int:=if W<a+b then W else a+b
def kh(W a b:Int):Int:=a+b - jX W a b
def uL(W:Int)(p:aa):Option (Rat×aa×aa):=match pZ W 0 p with
 |i::j::_=>some (dZ W (p.getD i.toNat 0) (p.getD j.toNat 0),(p.set i.toNat (jX W (p.getD i.toNat 0) (p.getD j.toNat 0))).set j.toNat (kh W (p.getD i.toNat 0) (p.getD j.toNat 0)),(p.set j.toNat (jX W (p.getD i.toNat 0) (p.getD j.toNat 0))).set i.toNat (kh W (p.getD i.toNat 0) (p.getD j.toNat 0)))
 |_=>none
section
variable {W a b:Int}{p A B C:aa}(T:Tw W p A a B b C)
include T
theorem Tw.pZ:pZ W 0 p=(A.length:Int)::((A.length+1+B.length:Nat):Int)::pZ W ((A.length+1+B.length:Nat)+1) C:=by
 rw[T.eq,nX,j7 T.vA,List.nil_append,DI.pZ,if_pos T.ua,nX,j7 T.vB,List.nil_append,DI.pZ,if_pos T.ub];have e:(0:Int)+(A.length:Int)+1+(B.length:Int)=((A.length+1+B.length:Nat):Int):=by push_cast;left
 rw[e,Int.zero_add]
theorem Tw.vals:vals W p=a::b::vals W C:=by
 rw[T.eq,kS,T.vA,List.nil_append,dH,if_pos T.ua,kS,T.vB,List.nil_append,dH,if_pos T.ub]
theorem Tw.XE:p.getD A.length 0=a:=by rw[T.eq];simp
theorem Tw.at2:p.getD (A.length+1+B.length) 0=b:=by
 rw[T.eq];have:A++a::(B++b::C)=(A++a::B)++b::C:=by simp
 rw[this,show A.length+1+B.length=(A++a::B).length by simp;left];simp
theorem Tw.B1(x:Int):p.set A.length x=A++x::(B++b::C):=by rw[T.eq];simp[List.set_append]
theorem Tw.P6(x:Int):p.set (A.length+1+B.length) x=A++a::(B++x::C):=by
 rw[T.eq];have:∀y,A++a::(B++y::C)=(A++a::B)++y::C:=by simp
 rw[this,this,show A.length+1+B.length=(A++a::B).length by simp;left];simp[List.set_append]
omit T in
theorem KI(A:aa)(a:Int)(B:aa)(b:Int)(C:aa)(x:Int):(A++a::(B++b::C)).set (A.length+1+B.length) x=A++a::(B++x::C):=by
 have:∀y,A++a::(B++y::C)=(A++a::B)++y::C:=by simp
 rw[this,this,show A.length+1+B.length=(A++a::B).length by simp;left];simp[List.set_append]
theorem Tw.uL:uL W p=some (dZ W a b,A++jX W a b::(B++kh W a b::C),A++kh W a b::(B++jX W a b::C)):=by
 unfold DI.uL;rw[T.pZ];dsimp only;rw[Int.toNat_natCast,Int.toNat_natCast,T.XE,T.at2,T.B1,T.P6,KI];have:(A++a::(B++jX W a b::C)).set A.length (kh W a b)=A++kh W a b::(B++jX W a b::C):=by simp[List.set_append]
 rw[this]
theorem Tw.pq:0<a/\a<W/\0<b/\b<W:=⟨(gz.mp T.ua).1,(gz.mp T.ua).2,(gz.mp T.ub).1,(gz.mp T.ub).2⟩
theorem Tw.hl:0<=jX W a b/\jX W a b<=W/\0<=kh W a b/\kh W a b<=W/\jX W a b+kh W a b=a+b/\(nW W (jX W a b)=false\/nW W (kh W a b)=false):=by
 obtain⟨h1,h2,h3,h4⟩:=T.pq;unfold kh jX nW;split<;>refine⟨by left,by left,by left,by left,by left,?_⟩
 ·exact .inl (by simp)
 ·right;simp
end
def nv(W:Int):aa->aa
 |a::b::r=>(if nW W (jX W a b)then[jX W a b]else if nW W (kh W a b)then[kh W a b]else[])++r
 |_=>[]
theorem sD(W a b:Int)(r:aa):(nv W (a::b::r)).length<=r.length+1:=by
 show((if nW W (jX W a b)then[jX W a b]else if nW W (kh W a b)then[kh W a b]else[])++r).length<=_;rw[List.length_append];split
 ·simp;left
 ·split<;>simp;left
section
variable {n:Nat}{W a b:Int}{p A B C:aa}(I:jC n W p)(T:Tw W p A a B b C)
include I T
theorem Tw.Tn{x y:Int}(hx:0<=x/\x<=W)(hy:0<=y/\y<=W)(hs:x+y=a+b):jC n W (A++x::(B++y::C)):=by
 have hl:=I.len;have lo:=I.lo;have hi:=I.hi;obtain⟨s,HB⟩:=I.su;rw[T.eq]at hl lo hi HB;refine⟨by rw[<- hl];simp,λz hz=>?_,λz hz=>?_,s,by rw[<- HB];simp;left⟩
 ·simp only[List.mem_append,List.mem_cons]at hz;rcases hz with hz|rfl|hz|rfl|hz
  ·exact lo z (by simp[hz])
  ·exact hx.1
  ·exact lo z (by simp[hz])
  ·exact hy.1
  ·exact lo z (by simp[hz])
 ·simp only[List.mem_append,List.mem_cons]at hz;rcases hz with hz|rfl|hz|rfl|hz
  ·exact hi z (by simp[hz])
  ·exact hx.2
  ·exact hi z (by simp[hz])
  ·exact hy.2
  ·exact hi z (by simp[hz])
theorem Tw.Ft:jC n W (A++jX W a b::(B++kh W a b::C)):=by
 obtain⟨h1,h2,h3,h4,h5,_⟩:=T.hl;exact T.Tn I ⟨h1,h2⟩ ⟨h3,h4⟩ h5
theorem Tw.Hc:jC n W (A++kh W a b::(B++jX W a b::C)):=by
 obtain⟨h1,h2,h3,h4,h5,_⟩:=T.hl;exact T.Tn I ⟨h3,h4⟩ ⟨h1,h2⟩ (by left)
omit I in
theorem Tw.Fw:DI.vals W (A++jX W a b::(B++kh W a b::C))=nv W (DI.vals W p)/\DI.vals W (A++kh W a b::(B++jX W a b::C))=nv W (DI.vals W p):=by
 obtain⟨_,_,_,_,_,h⟩:=T.hl;rw[T.vals];simp only[kS,dH,T.vA,T.vB,List.nil_append,nv];rcases h with h|h
 ·cases z:nW W (kh W a b)<;>simp[h]
 ·cases z:nW W (jX W a b)<;>simp[h]
end
theorem lW{t b:Int}(hb:0<b)(h:t<b):Rat.divInt t b<1:=by
 have H_:(0:Rat)<(b:Rat):=by have:=Zf (a:=0) (b:=b);simpa using this.mpr hb
 have h1:(t:Rat)<(b:Rat):=Rat.intCast_lt_intCast.mpr h;rw[Rat.divInt_eq_div,Rat.div_def];have:=ZE h1 (Rat.inv_pos.mpr H_)
 rwa [Rat.mul_inv_cancel _ (Rat.ne_of_gt H_)]at this
theorem AM{a b:Int}(h1:0<a)(h2:a<W)(h3:0<b)(h4:b<W)(hW:W<=9):0<dZ W a b/\dZ W a b<1/\Sm 5 (dZ W a b):=by
 unfold dZ;split
 ·exact⟨lV h1 (by left),lW (by left) (by left),uh (by left) (by show _<32;left) (by show _<32;left)⟩
 ·exact⟨lV (by left) (by left),lW (by left) (by left),uh (by left) (by show _<32;left) (by show _<32;left)⟩
noncomputable def ind(x y:aa):Rat:=if x=y then 1 else 0
def Pr(W:Int):Nat->aa->aa->Rat
 |0,p,l=>ind (oQ W 0 p) l
 |n+1,p,l=>match uL W p with
  |none=>ind (oQ W 0 p) l
  |some z=>z.1*Pr W n z.2.1 l+(1 - z.1)*Pr W n z.2.2 l
theorem y7{p:aa}(h:vals W p=[]):uL W p=none:=by unfold uL;rw[j7 h]
theorem md{p:aa}(h:vals W p=[])(k:Nat)(l:aa):Pr W k p l=ind (oQ W 0 p) l:=by
 cases k with
 |zero=>rfl
 |succ k=>rw[Pr,y7 h]
theorem kL{n:Nat}{W:Int}(l:aa):∀(k:Nat) (p:aa),jC n W p->(vals W p).length<=k->Pr W k p l=Pr W (k+1) p l
 |0,p,I,h=>by
  have:vals W p=[]:=List.length_eq_zero_iff.mp (by left);rw[md this,md this]
 |k+1,p,I,h=>by
  by_cases e:vals W p=[]
  ·rw[md e,md e]
  ·obtain⟨A,a,B,b,C,T⟩:=I.two e;obtain⟨v1,v2⟩:=T.Fw;have hv:=T.vals;have hn:=sD W a b (vals W C);rw[hv]at h v1 v2;simp only[List.length_cons]at h;rw[Pr,Pr,T.uL];dsimp only;rw[kL l k _ (T.Ft I) (by rw[v1];left),kL l k _ (T.Hc I) (by rw[v2];left)]
theorem DY{n:Nat}(l:aa){k:Nat}{p A B C:aa}{a b:Int}(I:jC n W p)(T:Tw W p A a B b C)(h:(vals W p).length<=k):
  Pr W k p l=dZ W a b*Pr W k (A++jX W a b::(B++kh W a b::C)) l+(1 - dZ W a b)*Pr W k (A++kh W a b::(B++jX W a b::C)) l:=by
 obtain⟨v1,v2⟩:=T.Fw;have hv:=T.vals;have hn:=sD W a b (vals W C);rw[hv]at h v1 v2;simp only[List.length_cons]at h;obtain⟨k,rfl⟩:∃j,k=j+1:=⟨k - 1,by left⟩
 rw[Pr,T.uL];dsimp only;rw[kL l k _ (T.Ft I) (by rw[v1];left),kL l k _ (T.Hc I) (by rw[v2];left)]
structure XW(Φ:aX):Prop where
 Aj:Φ 1030=vD
 ER:Φ 1031=nI
 Ai:Φ 1032=xc
 EO:Φ 1033=nF
 EN:Φ 1035=jA
 Uy:Φ 1100=IY
theorem tG{t b:Int}(hb:b≠0):(Rat.divInt t b).den∣b.natAbs:=by
 obtain⟨t',b',e1,e2,h1,h2,h3,h4⟩:=lj (t:=t) hb;obtain⟨g1,g2⟩:=o5 (t:=t) hb;rw[show b.fdiv (dY t b)=b' from h2]at g2;have hz:(Rat.divInt t b).den=b'.natAbs:=by left
 have:b.natAbs=(dY t b).natAbs*b'.natAbs:=by rw[<- Int.natAbs_mul,<- e2]
 rw[hz,this];exact Nat.dvd_mul_left ..
theorem i7{α:Type}(f:aa->α)(k:aa):∀ks:aq,bS ks (ks.map f) k=if k∈ks then some (f k)else none
 |[]=>rfl
 |j::ks=>by
  show(if j=k then some (f j)else bS ks (ks.map f) k)=_;rw[i7 f k ks];by_cases e:j=k
  ·subst e;simp
  ·rw[if_neg e];have:k∈j::ks ↔ k∈ks:=by rw[List.mem_cons];exact⟨λh=>h.resolve_left λz=>e z.symm,.inr⟩
   simp only[this]
theorem qt{α:Type}(f:aa->α)(k:aa)(v:α):∀ks:aq,setC ks (ks.map f) k v=ks.map λj=>if j=k then v else f j
 |[]=>rfl
 |j::ks=>by
  show(if j=k then v else f j)::setC ks (ks.map f) k v=_;rw[qt f k v ks,List.map_cons]
theorem v7{α:Type}(f:aa->α)(k:aa)(v:α)(ks:aq):bW ks (ks.map f) k v=(bc ks k).map λj=>if j=k then v else f j:=by
 unfold bW bc;by_cases h:k∈ks
 ·rw[if_pos h,if_pos h,qt]
 ·rw[if_neg h,if_neg h,List.map_append];congr 1
  ·refine Yy λj hj=>?_;rw[if_neg (show ¬ j=k from λz=>h (z▸hj))]
  ·simp
theorem dJ{c k:aa}:k∈bc ks c ↔ k∈ks\/k=c:=by
 unfold bc;split
 ·rename_i h;exact⟨.inl,λz=>z.elim id λe=>e▸h⟩
 ·simp
theorem zG(h:ks.Nodup)(c:aa):(bc ks c).Nodup:=by
 unfold bc;split
 ·exact h
 ·rename_i hc;rw[List.nodup_append];exact⟨h,by simp,λa ha b hb=>by rw[List.mem_singleton.mp hb];exact λz=>hc (z▸ha)⟩
theorem dM(ks:aq)(c:aa):(bc ks c).length<=ks.length+1:=by
 unfold bc;split<;>simp
structure Br(Φ:aX):Prop where
 Aj:Φ 1030=vD
 ER:Φ 1031=nI
 Ai:Φ 1032=xc
 EO:Φ 1033=nF
 EN:Φ 1035=jA
theorem Nt(P:Br Φ)(f:Fl)(hl:cs.length=ws.length){c:aa}(h:c∈cs):Φ 1032 [.cy f cs (ah ws),.tup (ah c)]=ok (.int (fu cs ws c)):=by
 obtain⟨w,e,_⟩:=oZ hl h;rw[P.Ai];show(match intsOf (c.map D.int)with|some c=>(match bS cs (ah ws) c with|some v=>if aP anyF v=false then ok v else none|none=>none)|none=>none)=_;rw[bF];show(match bS cs (ah ws) c with|some v=>if aP anyF v=false then ok v else none|none=>none)=_;rw[nA,e];unfold fu;rw[e];rfl
theorem Kj{α:Type}(P:Br Φ)(e:α->D)(he:∀a,aP anyF (e a)=false)(f:Fl)(ks:aq)(w:aa->α)(z:α)(c:aa)(h:c∉ks->w c=z):Φ 1031 [.cy f ks (ks.map λk=>e (w k)),.tup (ah c),e z]=ok (e (w c)):=by
 rw[P.ER];show(match intsOf (c.map D.int)with|some c=>if aK anyF (ks.map λk=>e (w k))=false/\aP anyF (e z)=false then ok ((bS ks (ks.map λk=>e (w k)) c).getD (e z))else none|none=>none)=_;rw[bF];show(if aK anyF (ks.map λk=>e (w k))=false/\aP anyF (e z)=false then ok ((bS ks (ks.map λk=>e (w k)) c).getD (e z))else none)=_;rw[if_pos ⟨bY anyF (λk=>he _) ks,he _⟩,i7 (λk=>e (w k))];by_cases hc:c∈ks
 ·rw[if_pos hc];rfl
 ·rw[if_neg hc,h hc];rfl
theorem Kg{α:Type}(P:Br Φ)(e:α->D)(he:∀a,aP anyF (e a)=false)(hl:ks.length<1000)(w:aa->α)(c:aa)(v:α):Φ 1033 [.cy .ow ks (ks.map λk=>e (w k)),e v,.tup (ah c)]=ok (.cy .ow (bc ks c) ((bc ks c).map λk=>e (if k=c then v else w k))):=by
 rw[P.EO];show(match intsOf (c.map D.int)with|some c=>if cw .ow=true/\aP anyF (e v)=false/\ks.length<eO then ok (D.cy .ow (bc ks c) (bW ks (ks.map λk=>e (w k)) c (e v)))else none|none=>none)=_;rw[bF];show(if cw .ow=true/\aP anyF (e v)=false/\ks.length<eO then ok (D.cy .ow (bc ks c) (bW ks (ks.map λk=>e (w k)) c (e v)))else none)=_;rw[if_pos ⟨rfl,he _,by show _<1000000;left⟩,v7 (λk=>e (w k))];congr 2;refine Yy λj _=>?_;by_cases z:j=c
 ·rw[if_pos z,if_pos z]
 ·rw[if_neg z,if_neg z]
theorem Ve{α:Type}(P:Br Φ)(e:α->D)(he:∀a,aP anyF (e a)=false)(f:Fl)(w:aa->α){c:aa}(h:c∈ks):Φ 1032 [.cy f ks (ks.map λk=>e (w k)),.tup (ah c)]=ok (e (w c)):=by
 rw[P.Ai];show(match intsOf (c.map D.int)with|some c=>(match bS ks (ks.map λk=>e (w k)) c with|some v=>if aP anyF v=false then ok v else none|none=>none)|none=>none)=_;rw[bF];show(match bS ks (ks.map λk=>e (w k)) c with|some v=>if aP anyF v=false then ok v else none|none=>none)=_;rw[i7 (λk=>e (w k)),if_pos h];exact YV (he _)
theorem D6(P:Br Φ)(f:Fl)(vs:ae)(h:ks.length<64):Φ 1035 [.cy f ks vs]=ok (.lst .ow ((bu ks).map cX)):=by
 rw[P.EN];show(if ks.length<64 then ok (D.lst .ow ((bu ks).map cX))else none)=_;rw[if_pos h]
noncomputable def jv(ks:aq)(w F:aa->Rat):Rat:=(ks.map λk=>w k*F k).sum
noncomputable def cO{α:Type}[Add α](w:aa->α)(c:aa)(x:α):aa->α:=λk=>if k=c then w k+x else w k
theorem BP(a b:aL):(a++b).sum=a.sum+b.sum:=by
 induction a with
 |nil=>simp;grind
 |cons x a ih=>rw[List.cons_append,List.sum_cons,List.sum_cons,ih];grind
theorem uQ(c:aa)(x:Rat)(w F:aa->Rat):∀ks:aq,ks.Nodup->c∈ks->jv ks (cO w c x) F=jv ks w F+x*F c
 |[],_,h=>nomatch h
 |k::ks,hn,h=>by
  obtain⟨h1,h2⟩:=List.nodup_cons.mp hn;unfold jv at *;rw[List.map_cons,List.map_cons,List.sum_cons,List.sum_cons];by_cases e:k=c
  ·have:(ks.map λk=>cO w c x k*F k)=ks.map λk=>w k*F k:=Yy λj hj=>by
    unfold cO;rw[if_neg λz=>h1 (by rw[e,<- z];exact hj)]
   rw[this];unfold cO;rw[if_pos e,e];grind
  ·have ih:=uQ c x w F ks h2 ((List.mem_cons.mp h).resolve_left λz=>e z.symm);unfold jv at ih;rw[ih];unfold cO;rw[if_neg e];grind
theorem qK{c:aa}{x:Rat}{w:aa->Rat}(F:aa->Rat)(hn:ks.Nodup)(h0:c∉ks->w c=0):jv (bc ks c) (cO w c x) F=jv ks w F+x*F c:=by
 unfold bc;split
 ·rename_i h;exact uQ c x w F ks hn h
 ·rename_i h;unfold jv;rw[List.map_append,BP];have:(ks.map λk=>cO w c x k*F k)=ks.map λk=>w k*F k:=Yy λj hj=>by
   unfold cO;rw[if_neg λz=>h (by rw[<- z];exact hj)]
  rw[this];simp only[List.map_cons,List.map_nil,List.sum_cons,List.sum_nil,cO,if_pos,h0 h];grind
structure Tb{α:Type}(z:α)(pos:α->Prop)(ks:aq)(w:aa->α):Prop where
 nd:ks.Nodup
 out:∀k,k∉ks->w k=z
 wQ:∀k∈ks,pos (w k)
theorem Tb.add{α:Type}[Add α]{z:α}{pos:α->Prop}{w:aa->α}(T:Tb z pos ks w){x:α}(hx:pos (z+x))(hp:∀a,pos a->pos (a+x))(c:aa):Tb z pos (bc ks c) (cO w c x):=by
 refine⟨zG T.nd c,λk hk=>?_,λk hk=>?_⟩
 ·have h:¬ (k∈ks\/k=c):=λz=>hk (dJ.mpr z);unfold cO;rw[if_neg λz=>h (.inr z)];exact T.out k λz=>h (.inl z)
 ·unfold cO;by_cases e:k=c
  ·rw[if_pos e];by_cases hc:k∈ks
   ·exact hp _ (T.wQ k hc)
   ·rw[T.out k hc];exact hx
  ·rw[if_neg e];exact T.wQ k ((dJ.mp hk).resolve_right e)
noncomputable def cq(w:aa->Int):aa->Rat:=λk=>(w k:Rat)
theorem AJ(w:aa->Int)(c:aa)(x:Int):cq (cO w c x)=cO (cq w) c (x:Rat):=by
 funext k;unfold cq cO;split
 ·rw[Rat.intCast_add]
 ·rfl
def kO(W:Int)(p:aa):aa:=match uL W p with|some z=>z.2.1|none=>[]
def iX(W:Int)(p:aa):aa:=match uL W p with|some z=>z.2.2|none=>[]
def po(W cn cd:Int)(w0:aa->Int):aq->aq->(aa->Int)->aq×(aa->Int)
 |[],ks,w=>(ks,w)
 |p::ps,ks,w=>po W cn cd w0 ps (bc (bc ks (kO W p)) (iX W p)) (cO (cO w (kO W p) (w0 p*cn)) (iX W p) (w0 p*(cd - cn)))
structure Wy(n:Nat)(W:Int)(v:aa)(ks:aq)(w:aa->Int):Prop where
 tb:Tb (0:Int) (λx=>1<=x) ks w
 ok:∀p∈ks,jC n W p
 vs:∀p∈ks,vals W p=v
theorem uF(W cn cd:Int)(w0:aa->Int)(F:aa->Rat):∀(ps ks:aq) (w:aa->Int),Tb (0:Int) (λx=>1<=x) ks w->(∀p∈ps,1<=w0 p)->1<=cn->cn<cd ->
  Tb (0:Int) (λx=>1<=x) (po W cn cd w0 ps ks w).1 (po W cn cd w0 ps ks w).2/\(∀k,k∈(po W cn cd w0 ps ks w).1 ↔ k∈ks\/∃p∈ps,k=kO W p\/k=iX W p)/\(po W cn cd w0 ps ks w).1.length<=ks.length+2*ps.length /\
  jv (po W cn cd w0 ps ks w).1 (cq (po W cn cd w0 ps ks w).2) F=jv ks (cq w) F+(ps.map λp=>(w0 p:Rat)*((cn:Rat)*F (kO W p)+((cd - cn:Int):Rat)*F (iX W p))).sum
 |[],ks,w,T,_,_,_=>by
  refine⟨T,λk=>?_,by simp[po],?_⟩
  ·simp[po]
  ·simp[po];grind
 |p::ps,ks,w,T,h0,h1,h2=>by
  have hp:=h0 p Yo;have a1:1<=w0 p*cn:=by have:=YY hp h1 (by decide) (by left);left
  have a2:1<=w0 p*(cd - cn):=by have:=YY hp (show 1<=cd - cn by left) (by decide) (by left);left
  have T1:=T.add (x:=w0 p*cn) (by left) (λa ha=>by left) (kO W p);have T2:=T1.add (x:=w0 p*(cd - cn)) (by left) (λa ha=>by left) (iX W p);obtain⟨g1,g2,g3,g4⟩:=uF W cn cd w0 F ps _ _ T2 (λq hq=>h0 q (Yq _ hq)) h1 h2;refine⟨g1,λk=>?_,?_,?_⟩
  ·rw[po,g2,dJ,dJ];simp only[List.mem_cons];constructor
   ·rintro (((h|h)|h)|⟨q,hq,h⟩)
    ·exact .inl h
    ·exact .inr ⟨p,.inl rfl,.inl h⟩
    ·exact .inr ⟨p,.inl rfl,.inr h⟩
    ·exact .inr ⟨q,.inr hq,h⟩
   ·rintro (h|⟨q,rfl|hq,h⟩)
    ·exact .inl (.inl (.inl h))
    ·exact .inl (h.elim (λz=>.inl (.inr z)) .inr)
    ·exact .inr ⟨q,hq,h⟩
  ·have l1:=dM ks (kO W p);have l2:=dM (bc ks (kO W p)) (iX W p);rw[po];simp only[List.length_cons];left
  ·rw[po,g4,AJ,qK F T1.nd (λh=>by unfold cq;rw[T1.out _ h];rfl),AJ,qK F T.nd (λh=>by unfold cq;rw[T.out _ h];rfl),List.map_cons,List.sum_cons,Rat.intCast_mul,Rat.intCast_mul];grind
theorem Wy.step{n:Nat}{v:aa}{w:aa->Int}(I:Wy n W v ks w)(hW:W<=9)(hv:v≠[])(hk:ks≠[]):
  ∃a b r,v=a::b::r/\0<a/\a<W/\0<b/\b<W/\Wy n W (nv W v) (po W (dZ W a b).num (dZ W a b).den w ks [] λ_=>0).1 (po W (dZ W a b).num (dZ W a b).den w ks [] λ_=>0).2/\(po W (dZ W a b).num (dZ W a b).den w ks [] λ_=>0).1≠[]/\(po W (dZ W a b).num (dZ W a b).den w ks [] λ_=>0).1.length<=2*ks.length /\
   ∀l k,v.length<=k->jv (po W (dZ W a b).num (dZ W a b).den w ks [] λ_=>0).1 (cq (po W (dZ W a b).num (dZ W a b).den w ks [] λ_=>0).2) (λp=>Pr W k p l)=((dZ W a b).den:Rat)*jv ks (cq w) (λp=>Pr W k p l):=by
 obtain⟨p0,z3⟩:=List.exists_mem_of_ne_nil ks hk;obtain⟨A0,a,B0,b,C0,T0⟩:=(I.ok p0 z3).two (by rw[I.vs p0 z3];exact hv);have ev:=T0.vals;rw[I.vs p0 z3]at ev;obtain⟨q1,q2,q3,q4⟩:=T0.pq;obtain⟨c0,c1,_⟩:=AM q1 q2 q3 q4 hW;have hn:1<=(dZ W a b).num:=by have:=wA c0;left
 have hd:(dZ W a b).num<((dZ W a b).den:Int):=by
  have h':((dZ W a b).num:Rat)<((dZ W a b).den:Rat):=by
   rw[uB];have h2:(0:Rat)<((dZ W a b).den:Rat):=by exact_mod_cast (dZ W a b).den_pos
   have:=ZE c1 h2
   rwa [Rat.one_mul]at this
  exact_mod_cast h'
 have tw:∀p∈ks,∃A B C,Tw W p A a B b C:=λp hp=>by
  obtain⟨A,a',B,b',C,T⟩:=(I.ok p hp).two (by rw[I.vs p hp];exact hv);have e:=T.vals;rw[I.vs p hp,ev]at e;obtain⟨h1,e'⟩:=Z5 e;obtain⟨h2,_⟩:=Z5 e';rw[<- h1,<- h2]at T;exact⟨A,B,C,T⟩
 have Ft:∀{p A B C},Tw W p A a B b C->kO W p=A++jX W a b::(B++kh W a b::C)/\iX W p=A++kh W a b::(B++jX W a b::C):=λT=>by
  unfold kO iX;rw[T.uL];exact⟨rfl,rfl⟩
 have XF:Tb (0:Int) (λx=>1<=x) [] λ_=>0:=⟨YS,λ_ _=>rfl,λ_ h=>nomatch h⟩
 have M:=λF=>uF W (dZ W a b).num (dZ W a b).den w F ks [] (λ_=>0) XF (λp hp=>I.tb.wQ p hp) hn hd;obtain⟨m1,m2,m3,_⟩:=M λ_=>0;refine⟨a,b,vals W C0,ev,q1,q2,q3,q4,⟨m1,λk hk=>?_,λk hk=>?_⟩,?_,by simpa using m3,λl k hl=>?_⟩
 ·rcases(m2 k).mp hk with h|⟨p,hp,h⟩
  ·exact nomatch h
  ·obtain⟨A,B,C,T⟩:=tw p hp;obtain⟨e1,e2⟩:=Ft T;rw[e1,e2]at h;rcases h with rfl|rfl
   ·exact T.Ft (I.ok p hp)
   ·exact T.Hc (I.ok p hp)
 ·rcases(m2 k).mp hk with h|⟨p,hp,h⟩
  ·exact nomatch h
  ·obtain⟨A,B,C,T⟩:=tw p hp;obtain⟨e1,e2⟩:=Ft T;obtain⟨v1,v2⟩:=T.Fw;rw[I.vs p hp]at v1 v2;rw[e1,e2]at h;rcases h with rfl|rfl
   ·exact v1
   ·exact v2
 ·intro z;have:=(m2 (kO W p0)).mpr (.inr ⟨p0,z3,.inl rfl⟩);rw[z]at this;exact nomatch this
 ·obtain⟨_,_,_,m4⟩:=M λp=>Pr W k p l;rw[m4];unfold jv;rw[List.map_nil,List.sum_nil,Rat.zero_add];have:∀qs:aq,(∀p∈qs,p∈ks)->(qs.map λp=>(w p:Rat)*(((dZ W a b).num:Rat)*Pr W k (kO W p) l+(((dZ W a b).den - (dZ W a b).num:Int):Rat)*Pr W k (iX W p) l)).sum=((dZ W a b).den:Rat)*(qs.map λp=>cq w p*Pr W k p l).sum:=λqs=>by
   induction qs with
   |nil=>intro _;simp
   |cons p qs ih =>
    intro h;rw[List.map_cons,List.map_cons,List.sum_cons,List.sum_cons,ih λq hq=>h q (List.mem_cons_of_mem _ hq)];have hp:=h p Yo;obtain⟨A,B,C,T⟩:=tw p hp;obtain⟨e1,e2⟩:=Ft T;rw[e1,e2,DY l (k:=k) (I.ok p hp) T (by rw[I.vs p hp];exact hl)];have en:((dZ W a b).num:Rat)=dZ W a b*((dZ W a b).den:Rat):=uB _;rw[Rat.intCast_sub,Rat.intCast_natCast,en];unfold cq;grind
  exact this ks λ_ h=>h
end DI
end
section
namespace DI
open PySem PySem.Spec PyProof.Rows L2
section
variable {prog:ax}{w:World}{A:ay}{E:av}{s:Shared}
def Ends(prog:ax)(w:World)(A:ay)(it:Addr)(S:Heap->Prop):Prop:=∀(s:Shared) (Q E:av),S s.heap->(∀h' e,Heap.ExtBut it s.heap h'->(∃o,h'.get? e=some o/\o.cls=.type "StopIteration")->E (.ref e) { s with heap:=h' })->wpAny (model prog w) A (Builtin.SmallTypes.nextOf (.ref it)) Q E s
structure SV(z TI TO i1 i2:Addr)(f1 f2:aM):Prop where
 n1:TI≠z/\TO≠z/\i1≠z/\i2≠z
 n2:TI≠TO/\TI≠i1/\TI≠i2/\TO≠i1/\TO≠i2/\i1≠i2
 f1:z∉f1/\TO∉f1/\i2∉f1
 f2:z∉f2/\TO∉f2/\i1∉f2
section
variable {z TI TO i1 i2:Addr}{f1 f2:aM}{n1 n2 k:Nat}{P1 P2:Nat->Value->Prop}{S1 S2:Nat->Heap->Prop}{a b:Value}
end
end
section
variable {prog:ax}{w:World}{A:ay}{E:av}{s:Shared}
end
section
variable {prog:ax}{w:World}{A:ay}{E:av}{s:Shared}{d it:Addr}{es:Array DictEntry}{ep i:Nat}
end
section
variable {X:Cx}{pins:ak}{σ:St}{H:Hp}{s:Shared}{d:Addr}{cs:aq}{as:aM}{xs:af}{ep:Nat}
end
section
variable {X:Cx}{pins:ak}{σ:St}{H:Hp}{s:Shared}{p b:Addr}{c:aa}{A:ay}{E:av}
end
end DI
end
section
namespace DI
open PySem (Str)
noncomputable def uc:aj:=[.app 6 (.bin .mod (.v 3) (.bin .add (.v 5) (.int 1))),.asg (.nm 3) (.bin .fdiv (.v 3) (.bin .add (.v 5) (.int 1)))]
noncomputable def t_:aj:=[.asg (.nm 9) (.bf .min2 [(.ix (.v 6) (.v 7)),(.v 8)]),.setI 6 (.v 7) (.bin .sub (.ix (.v 6) (.v 7)) (.v 9)),.asg (.nm 8) (.bin .sub (.v 8) (.v 9))]
theorem qo(Φ:aX){B:Nat}(hB:B<=9)(c0 c1 c2 c4 c8 c9:aI):∀(k j:Nat) (N:Int) (ts:aa) (c7:aI),ts.length=j->j+k<=12->(∀t∈ts,0<=t/\t<=(B:Int)) ->
  ∃N' Kd xo,dW (λd ρ=>cg (.nm 7) d ρ) (λρ=>bw Φ uc ρ) ((List.range' j k).map λ(i:Nat)=>D.int (i:Int)) [c0,c1,c2,some (.int N),c4,some (.int B),some (.lst .ow (ah ts)),c7,c8,c9]=ok (.nx,[c0,c1,c2,some (.int N'),c4,some (.int B),some (.lst .ow (ah Kd)),xo,c8,c9])/\Kd.length=j+k/\∀t∈Kd,0<=t/\t<=(B:Int)
 |0,j,N,ts,c7,h1,_,h2=>⟨N,ts,c7,rfl,by left,h2⟩
 |k+1,j,N,ts,c7,h1,hj,h2=>by
  obtain⟨m1,m2⟩:=gI N (b:=(B:Int)+1) (by left);obtain⟨N',Kd,xo,ih,l1,l2⟩:=qo Φ hB c0 c1 c2 c4 c8 c9 k (j+1) (N.fdiv ((B:Int)+1)) (ts++[N.fmod ((B:Int)+1)]) (some (.int j)) (by simp[h1]) (by left) (λt ht=>by
   rcases List.mem_append.mp ht with ht|ht
   ·exact h2 t ht
   ·rw[List.mem_singleton.mp ht];left)
  rw[List.range'_succ,List.map_cons];have e1:bV .mod (.int N) (.int ((B:Int)+1))=ok (.int (N.fmod ((B:Int)+1))):=l7 (by left);have e2:bV .fdiv (.int N) (.int ((B:Int)+1))=ok (.int (N.fdiv ((B:Int)+1))):=gn (dk (by left) (ig (by left)));have hc:ts.length<eO:=by show _<1000000;left
  refine⟨N',Kd,xo,gf (ρ1:=[c0,c1,c2,some (.int N),c4,some (.int B),some (.lst .ow (ah ts)),some (.int j),c8,c9]) (by simp) (ρ2:=[c0,c1,c2,some (.int (N.fdiv ((B:Int)+1))),c4,some (.int B),some (.lst .ow (ah (ts++[N.fmod ((B:Int)+1)]))),some (.int j),c8,c9]) ?_ ih,by left,l2⟩;simp[uc,e1,e2,hc]
theorem lF(a:aa)(t:Int)(b:aa):kH (ah (a++t::b)) (a.length:Int)=ok (.int t):=by
 rw[l8 (d:=.int t) (by rw[jx];simp)];rfl
theorem qS(a:aa)(t x:Int)(b:aa):(ah (a++t::b)).set a.length (.int x)=ah ((a++[x])++b):=by
 unfold ah;rw[<- List.map_set];congr 1;simp[List.set_append]
theorem qm(Φ:aX){B:Nat}(c0 c1 c2 c3 c4 c5:aI):∀(rest done:aa) (L:Int) (c7 c9:aI),done.length+rest.length<=12->(∀t∈done,0<=t/\t<=(B:Int))->(∀t∈rest,0<=t/\t<=(B:Int))->0<=L->L<=rest.sum ->
  ∃ts xo DL,dW (λd ρ=>cg (.nm 7) d ρ) (λρ=>bw Φ t_ ρ) ((List.range' done.length rest.length).map λ(i:Nat)=>D.int (i:Int)) [c0,c1,c2,c3,c4,c5,some (.lst .ow (ah (done++rest))),c7,some (.int L),c9]=ok (.nx,[c0,c1,c2,c3,c4,c5,some (.lst .ow (ah ts)),xo,some (.int 0),DL])/\ts.length=done.length+rest.length/\(∀t∈ts,0<=t/\t<=(B:Int))/\ts.sum=(done++rest).sum - L
 |[],done,L,c7,c9,h1,h2,h3,h4,h5=>by
  have:L=0:=by simp at h5;left
  subst this;exact⟨done,c7,c9,by simp[dW],by simp,h2,by simp⟩
 |t::rest,done,L,c7,c9,h1,h2,h3,h4,h5=>by
  obtain⟨t0,t1⟩:=h3 t Yo;rw[List.sum_cons]at h5;rw[List.length_cons]at h1;have hr:∀x∈rest,0<=x/\x<=(B:Int):=λx hx=>h3 x (Yq _ hx);have hs:0<=rest.sum:=by
   have:∀l:aa,(∀x∈l,0<=x)->0<=l.sum:=λl=>by
    induction l with
    |nil=>intro _;exact YX _
    |cons a l ih=>intro h;have:=ih λx hx=>h x (Yq _ hx);have:=h a Yo;rw[List.sum_cons];left
   exact this rest λx hx=>(hr x hx).1
  obtain⟨m,hm,m0,m1,m2,m3⟩:∃m:Int,(if L<t then L else t)=m/\0<=m/\m<=t/\m<=L/\(m=L\/m=t):=by
   by_cases h:L<t
   ·exact⟨L,YV h,h4,by left,YX _,.inl rfl⟩
   ·exact⟨t,Z1 h,t0,YX _,by left,.inr rfl⟩
  obtain⟨ts,xo,DL,ih,l1,l2,l3⟩:=qm Φ (B:=B) c0 c1 c2 c3 c4 c5 rest (done++[t - m]) (L - m) (some (.int done.length)) (some (.int m)) (by simp;left) (λx hx=>by
   rcases List.mem_append.mp hx with hx|hx
   ·exact h2 x hx
   ·rw[List.mem_singleton.mp hx];left) hr (by left) (by left)
  rw[List.length_cons,List.range'_succ,List.map_cons];have e1:=lF done t rest;have e2:vM .min2 [.int t,.int L]=ok (.int m):=by show ok (D.int (if L<t then L else t))=_;rw[hm]
  have hx:=Fs (Φ:=Φ) (i:=6) (j:=done.length) (k:=.v 7) (e:=.bin .sub (.ix (.v 6) (.v 7)) (.v 9)) (ρ:=[c0,c1,c2,c3,c4,c5,some (.lst .ow (ah (done++t::rest))),some (.int done.length),some (.int L),some (.int m)]) (ρ':=[c0,c1,c2,c3,c4,c5,some (.lst .ow (ah (done++t::rest))),some (.int done.length),some (.int L),some (.int m)]) (d:=.int (t - m)) (z:=done.length) (ds:=ah (done++t::rest)) (by simp[e1]) (by simp) rfl (by rw[sP (by left) (by simp;left)];simp);rw[qS]at hx;refine⟨ts,xo,DL,gf (ρ1:=[c0,c1,c2,c3,c4,c5,some (.lst .ow (ah (done++t::rest))),some (.int done.length),some (.int L),c9]) (by simp) (ρ2:=[c0,c1,c2,c3,c4,c5,some (.lst .ow (ah ((done++[t - m])++rest))),some (.int done.length),some (.int (L - m)),some (.int m)]) ?_ (by simpa using ih),by simp at l1 ⊢;left,l2,by rw[l3];simp;left⟩;simp only[t_];rw[eF,xU];simp[e1,e2];rw[hx];simp
noncomputable def vz:CE:=.comp 1 (.nm 0) [5] .seq [(.v 6)] [] (.call 201 [(.v 0),(.v 1)])
def pJ:aj:=[.asg (.nm 3) (.call 200 [(.v 0),(.v 1)]),.asg (.nm 4) (.bin .add (.int 1) (.bin .mod (.v 3) (.v 2))),.asg (.nm 3) (.bin .fdiv (.v 3) (.v 2)),.asg (.nm 5) (.bin .add (.int 1) (.bin .mod (.v 3) (.int 9))),.asg (.nm 3) (.bin .fdiv (.v 3) (.int 9)),.asg (.nm 6) (.lst []),.fr (.nm 7) (.jr (.v 4)) uc,.asg (.nm 8) (.bin .mod (.bf .n9 [(.v 6)]) (.v 5)),.fr (.nm 7) (.jr (.v 4)) t_,.ret vz]
def A5(m:aE):Prop:=∀(ns:aa) (a:Int) (p:Nat),0<=a->1<=p->p<=12->∃qs B,m [.lst .sc (ah ns),.int a,.int p]=ok (.lst .ow (aR qs))/\nU p qs B
theorem FL:∀l:aa,(∀x∈l,0<=x)->0<=l.sum:=λl=>by
 induction l with
 |nil=>intro _;exact YX _
 |cons a l ih=>intro h;have:=ih λx hx=>h x (Yq _ hx);have:=h a Yo;rw[List.sum_cons];left
theorem F_(Φ:aX)(RT:A8 (Φ 200))(RS:kK (Φ 201)):A5 (mk Φ 3 10 pJ):=by
 intro ns a p ha p1 p2;have e1:=RT ns a ha;obtain⟨f1,f2⟩:=gI (d3 ns a) (b:=(p:Int)) (by left);obtain⟨n,hn⟩:∃n:Nat,1+(d3 ns a).fmod p=(n:Int):=⟨(1+(d3 ns a).fmod p).toNat,by left⟩
 obtain⟨g1,g2⟩:=gI ((d3 ns a).fdiv p) (b:=9) (by decide);obtain⟨B,hB⟩:∃k:Nat,1+((d3 ns a).fdiv p).fmod 9=(k:Int):=⟨(1+((d3 ns a).fdiv p).fmod 9).toNat,by left⟩
 have m1:bV .mod (.int (d3 ns a)) (.int p)=ok (.int ((d3 ns a).fmod p)):=l7 (by left);have m2:bV .fdiv (.int (d3 ns a)) (.int p)=ok (.int ((d3 ns a).fdiv p)):=gn (dk (by left) (ig (by left)));generalize (d3 ns a).fdiv p=N at *;obtain⟨N',ts,c7,el,tl,tb⟩:=qo Φ (B:=B) (by left) (some (.lst .sc (ah ns))) (some (.int a)) (some (.int p)) (some (.int n)) none none n 0 (N.fdiv 9) [] none rfl (by left) (λ_ h=>nomatch h);have hit:=zN (Φ:=Φ) (a:=.v 4) (ρ:=[some (.lst .sc (ah ns)),some (.int a),some (.int p),some (.int (N.fdiv 9)),some (.int n),some (.int B),some (.lst .ow []),none,none,none]) (n:=n) (by simp) (by left) (by left);rw[Int.toNat_natCast,List.range_eq_range']at hit;have hf:=iJ (Φ:=Φ) (t:=.nm 7) (b:=uc) hit el;have s0:=FL ts λt ht=>(tb t ht).1;obtain⟨k1,k2⟩:=gI ts.sum (b:=(B:Int)) (by left);have k3:ts.sum.fmod B<=ts.sum:=by
  rw[Int.fmod_eq_emod_of_nonneg _ (by left)];have h1:=ZD ts.sum (B:Int);have h2:=aaw (show(0:Int)<=(B:Int) by left) (Int.ediv_nonneg s0 (show(0:Int)<=(B:Int) by left));left
 have S9:ts.length=n:=by left
 obtain⟨us,d7,d9,O3,ul,ub,S7⟩:=qm Φ (B:=B) (some (.lst .sc (ah ns))) (some (.int a)) (some (.int p)) (some (.int N')) (some (.int n)) (some (.int B)) ts [] (ts.sum.fmod B) c7 none (by simp;left) (λ_ h=>nomatch h) tb k1 k3;rw[List.nil_append,List.length_nil,S9]at O3;have wR:=zN (Φ:=Φ) (a:=.v 4) (ρ:=[some (.lst .sc (ah ns)),some (.int a),some (.int p),some (.int N'),some (.int n),some (.int B),some (.lst .ow (ah ts)),c7,some (.int (ts.sum.fmod B)),none]) (n:=n) (by simp) (by left) (by left);rw[Int.toNat_natCast,List.range_eq_range']at wR;have Wv:=iJ (Φ:=Φ) (t:=.nm 7) (b:=t_) wR O3;have m3:bV .mod (.int ts.sum) (.int (B:Int))=ok (.int (ts.sum.fmod B)):=l7 (by left);have RL:(B:Int)≠0:=by left
 have e3:bj Φ vz [some (.lst .sc (ah ns)),some (.int a),some (.int p),some (.int N'),some (.int n),some (.int B),some (.lst .ow (ah us)),d7,some (.int 0),d9]=ok (.lst .ow (aR (us.map λu=>Rat.divInt u B))):=by
  unfold vz;rw[eI (xs:=[.lst .al (ah us)]) (items:=us.map D.int) (ds:=us.map λu=>qD (Rat.divInt u B)) (by simp) (by rw[eA,bO];rfl) (cV λu hu=>⟨[some (.int u),some (.int B)],by simp[bK],by simp,?_⟩) (by simp;exact dg (by simp at ul;left))]
  ·simp[aR,bg]
  ·have:=RS u B RL (ig (by left));simp[this]
 refine⟨us.map λu=>Rat.divInt u B,B,?_,?_⟩
 ·have Bi:bV .add (.int 1) (.int ((d3 ns a).fmod p))=ok (.int n):=by rw[Fb,hn]
  have WU:bV .add (.int 1) (.int (N.fmod 9))=ok (.int B):=by rw[Fb,hB]
  simp[mk_eq,pJ,e1,m1,m2,Bi,WU,hf,m3,Wv,QM Φ vz _ rfl,e3]
 ·rw[List.nil_append]at S7;have hdiv:(B:Int)∣us.sum:=by
   rw[S7,Int.fmod_eq_emod_of_nonneg _ (by left)];exact Int.dvd_self_sub_emod
  obtain⟨s,hs⟩:=hdiv;have H_:(0:Rat)<(B:Int):=by
   have:=Zf (a:=0) (b:=(B:Int));simpa using this.mpr (by left)
  refine⟨by simp at ul ⊢;left,by simp at ul ⊢;left,by left,by left,λq hq=>?_,λq hq=>?_,λq hq=>?_,s,?_⟩
  ·obtain⟨u,hu,rfl⟩:=List.mem_map.mp hq;have h1:(0:Rat)<=(u:Rat):=by have:=Z4 (a:=0) (b:=u);simpa using this.mpr (ub u hu).1
   rw[Rat.divInt_eq_div,Rat.div_def];exact Rat.mul_nonneg h1 (Rat.le_of_lt (Rat.inv_pos.mpr H_))
  ·obtain⟨u,hu,rfl⟩:=List.mem_map.mp hq;have h1:(u:Rat)<=((B:Int):Rat):=Rat.intCast_le_intCast.mpr (ub u hu).2;rw[Rat.divInt_eq_div];have:=Rat.mul_le_mul_of_nonneg_right h1 (Rat.le_of_lt (Rat.inv_pos.mpr H_))
   rwa [Rat.mul_inv_cancel _ (Rat.ne_of_gt H_),<- Rat.div_def]at this
  ·obtain⟨u,hu,rfl⟩:=List.mem_map.mp hq;have:=tG (t:=u) RL;simpa using this
  ·rw[ud (B:Int) RL,hs,Rat.divInt_eq_div,Rat.intCast_mul,Rat.mul_comm];exact Rat.mul_div_cancel (Rat.ne_of_gt H_)
noncomputable def i4:Nat->aa->List (Int×Int)
 |_,[]=>[]
 |k,x::p=>((k:Int),x)::i4 (k+1) p
noncomputable def zI(z:Int×Int):D:=.tup [.int z.1,.int z.2]
theorem rm:∀(p:aa) (k:Nat),bZ k (ah p)=(i4 k p).map zI
 |[],_=>rfl
 |x::p,k=>by
  show D.tup [.int k,.int x]::bZ (k+1) (ah p)=_;rw[rm p (k+1)];rfl
theorem qX:∀(p:aa) (k:Nat),(i4 k p).length=p.length
 |[],_=>rfl
 |x::p,k=>by rw[i4,List.length_cons,qX,List.length_cons]
variable {A C:aa}{W:Int}
theorem Tw.d1{a b:Int}{p B:aa}(T:Tw W p A a B b C):kH (ah p) (A.length:Int)=ok (.int a):=by rw[T.eq];exact lF A a _
theorem Tw.d2{a b:Int}{p B:aa}(T:Tw W p A a B b C):kH (ah p) ((A.length+1+B.length:Nat):Int)=ok (.int b):=by
 rw[T.eq];have e:A++a::(B++b::C)=(A++a::B)++b::C:=by simp
 have:=lF (A++a::B) b C;rw[e,show A.length+1+B.length=(A++a::B).length by simp;left];exact this
noncomputable def n8(f:Fl)(ks:aq)(w:aa->Int):D:=.cy f ks (ks.map λk=>.int (w k))
theorem uR(g:Fl->Fl)(f:Fl)(ks:aq)(w:aa->Int):aZ g (n8 f ks w)=n8 (g f) ks w:=by
 show D.cy (g f) ks (aD g (ks.map λk=>.int (w k)))=_;rw[bX g (λk=>qM g _)];rfl
theorem C9(g:Fl->Bool)(f:Fl)(ks:aq)(w:aa->Int):aP g (n8 f ks w)=g f:=by
 show(g f||aK g (ks.map λk=>.int (w k)))=_;rw[bY g (λk=>i6 g _),Bool.or_false]
theorem Ej(a:Int):aP anyF (D.int a)=false:=rfl
variable {ks:aq}{Φ:aX}
theorem yi(P:Br Φ)(hl:ks.length<1000)(w:aa->Int)(c:aa)(x:Int):Φ 1033 [n8 .ow ks w,.int (w c+x),.tup (ah c)]=ok (n8 .ow (bc ks c) (cO w c x)):=by
 have:=Kg P (e:=D.int) Ej hl w c (w c+x);unfold n8;rw[this];congr 2;refine Yy λk _=>?_;unfold cO;by_cases h:k=c
 ·rw[if_pos h,if_pos h,h]
 ·rw[if_neg h,if_neg h]
noncomputable def AD:CE:=.comp 1 (.nm 0) [1,2] .seq [(.cj 1035 [(.v 1)])] [(.cmp .gt (.cj 1032 [(.v 1),(.v 0)]) (.int 0))] (.tup [(.call 2 [(.cj 1032 [(.v 1),(.v 0)]),(.v 2)]),(.v 0)])
def vQ:aj:=[.ret (.tup [(.v 0),AD])]
def tF(cs:aq)(ws:aa)(b:Int):aY:=((bu cs).filter λc=>decide (0<fu cs ws c)).map λc=>(Rat.divInt (fu cs ws c) b,c)
def Fh(m:aE):Prop:=∀f (n:Int) (cs:aq) (ws:aa) (b:Int),cs.length=ws.length->cs.length<64->b≠0->b.natAbs<2 ^ 9000->m [.int n,.cy f cs (ah ws),.int b]=ok (.tup [.int n,.lst .ow (iU (tF cs ws b))])
theorem KW(Φ:aX)(P:Br Φ)(h2:g_ (Φ 2)):Fh (mk Φ 3 3 vQ):=by
 intro f n cs ws b hl nz hb sX;have hp:(bu cs).Perm cs:=YT _ _;have e1:bj Φ AD [some (.int n),some (.cy f cs (ah ws)),some (.int b)]=ok (.lst .ow (iU (tF cs ws b))):=by
  unfold AD;rw[eI (xs:=[.lst .ow ((bu cs).map cX)]) (items:=(bu cs).map cX) (ds:=iU (tF cs ws b)) (by simp[D6 P _ _ nz]) (by rw[eA,fY]) ?_ (by
   have:=List.length_filter_le (λc=>decide (0<fu cs ws c)) (bu cs);have oU:=hp.length_eq;rw[j_];unfold tF;rw[List.length_map];exact dg (by left))]
  ·rw[qL]
  ·unfold iU tF;rw[List.map_map];refine gi λc hc=>?_;have xM:c∈cs:=hp.mem_iff.mp hc;have d1:=λf=>Nt P f hl xM;have f1:=h2.1 (fu cs ws c) b hb sX;have m1:aZ bH (cX c)=.tup (ah c):=by show D.tup (aD bH (c.map D.int))=_;rw[ic];rfl
   refine⟨[some (cX c),some (.cy (a_ f) cs (ah ws)),some (.int b)],by simp[bK],by simp[m1,d1],λ_=>?_⟩;simp[m1,d1,f1];rfl
 simp[mk_eq,vQ,e1]
noncomputable def lv(u:Nat):Nat:=2 ^ (u - 1)
structure Pg(n:Nat)(W:Int)(p0 v:aa)(ks:aq)(w:aa->Int)(bt:Int):Prop where
 wy:Wy n W v ks w
 ne:ks≠[]
 rl:ks.length*lv v.length<=32
 b1:1<=bt
 b2:bt*32 ^ v.length<=2 ^ 60
 vl:v.length<=12
 ma:∀l,jv ks (cq w) (λp=>Pr W 12 p l)=(bt:Rat)*Pr W 12 p0 l
theorem Pg.next{n:Nat}{p0 v:aa}{w:aa->Int}{bt:Int}(I:Pg n W p0 v ks w bt)(hW:W<=9)(hv:v≠[]):∃a b r,v=a::b::r/\Sm 5 (dZ W a b)/\(nv W v).length<v.length/\Pg n W p0 (nv W v) (po W (dZ W a b).num (dZ W a b).den w ks [] λ_=>0).1 (po W (dZ W a b).num (dZ W a b).den w ks [] λ_=>0).2 (bt*(dZ W a b).den):=by
 obtain⟨a,b,r,ev,q1,q2,q3,q4,g1,g2,g3,g4⟩:=I.wy.step hW hv I.ne;obtain⟨_,_,sm⟩:=AM q1 q2 q3 q4 hW;have OM:=(dZ W a b).den_pos;have hd2:=sm.2;have My:=sD W a b r;have Bg:v.length=r.length+2:=by rw[ev];rfl
 refine⟨a,b,r,ev,sm,by rw[ev]at *;simp only[List.length_cons]at *;left,g1,g2,?_,?_,?_,?_,λl=>?_⟩
 ·have f:=I.rl;have e1:lv v.length=2*2 ^ r.length:=by unfold lv;rw[Bg,show r.length+2 - 1=r.length+1 by left,Nat.pow_succ,Nat.mul_comm]
  have e2:lv (nv W v).length<=2 ^ r.length:=by
   unfold lv;refine YF (by decide) ?_;rw[ev];left
  rw[e1]at f;refine YL (Nat.mul_le_mul g3 e2) ?_;rw[Nat.mul_comm 2,Nat.mul_assoc];exact f
 ·have:=YY I.b1 (show(1:Int)<=((dZ W a b).den:Int) by left) (by decide) (by have:=I.b1;left);left
 ·have b1:=I.b1;have b2:=I.b2;have e1:(32:Int) ^ (nv W v).length<=32 ^ (r.length+1):=by
   have:32 ^ (nv W v).length<=32 ^ (r.length+1):=YF (by decide) (by rw[ev];exact My)
   exact_mod_cast this
  rw[Bg,Int.pow_succ]at b2;have h1:bt*((dZ W a b).den:Int)<=bt*32:=Int.mul_le_mul_of_nonneg_left (by left) (by left);have h2:bt*((dZ W a b).den:Int)*32 ^ (nv W v).length<=(bt*32)*32 ^ (r.length+1):=YY h1 e1 (aal (Int.pow_pos (by decide))) (by left);refine Int.le_trans h2 ?_;rw[Int.mul_assoc,Int.mul_comm 32];exact b2
 ·have:=I.vl;rw[Bg]at this;rw[ev];left
 ·rw[g4 l 12 I.vl,I.ma l,Rat.intCast_mul,Rat.intCast_natCast];grind
def SU(W:Int)(p0:aa)(rs:aY):Prop:=∃ls:aq,ls.Nodup/\(∀l,l∈ls ↔ 0<Pr W 12 p0 l)/\rs=(bu ls).map λl=>(Pr W 12 p0 l,l)
theorem SU.one{p0:aa}{rs hX:aY}(h:SU W p0 rs)(h':SU W p0 hX):rs=hX:=by
 obtain⟨ls,n1,m1,rfl⟩:=h;obtain⟨Tv,n2,m2,rfl⟩:=h';have hp:ls.Perm Tv:=(Zj n1 n2).mpr λl=>(m1 l).trans (m2 l).symm;have e:bu ls=bu Tv:=qk n2 (hV n1) ((YT _ _).trans hp);rw[e]
theorem CV{x y:aa}(h:x=y):ind x y=1:=YV h
theorem CW{x y:aa}(h:¬ x=y):ind x y=0:=Z1 h
theorem yj{b:Nat}(hb:0<b){q:Rat}(hd:q.den∣b)(h0:0<=q)(h1:q<=1):0<=fH b q/\fH b q<=(b:Int):=by
 obtain⟨k,rfl⟩:=hd;have e:(((q.den*k:Nat):Int)).fdiv q.den=(k:Int):=by
  rw[Int.natCast_mul,Int.mul_comm];exact Int.mul_fdiv_cancel _ (h_ q)
 unfold fH;rw[e];have n0:=y8 h0;have n1:=sE h1;refine⟨aaw n0 (by left),?_⟩;rw[Int.natCast_mul];exact Y_ n1 (by left)
variable {B:Nat}{qs:aL}
theorem nU.bot{m:Nat}(I:nU m qs B)(hm:m<=12):0<bP qs/\bP qs<=9/\∀q∈qs,q.den∣bP qs:=by
 obtain⟨a,_,c⟩:=(I.F0 hm).lcm;have:bP qs∣B:=iY qs 1 (Nat.one_dvd _) I.qd;exact⟨a,YL (ZK (by have:=I.b1;left) this) I.b2,c⟩
def m_(qs:aL):aa:=qs.map (fH (bP qs))
theorem nU.p0{m:Nat}(I:nU m qs B)(hm:m<=12):jC qs.length (bP qs) (m_ qs):=by
 obtain⟨a,b,c⟩:=I.bot hm;obtain⟨s,hs⟩:=I.su;refine⟨by simp[m_],λx hx=>?_,λx hx=>?_,s,kW c hs⟩
 ·obtain⟨q,hq,rfl⟩:=List.mem_map.mp hx;exact(yj a (c q hq) (I.q0 q hq) (I.q1 q hq)).1
 ·obtain⟨q,hq,rfl⟩:=List.mem_map.mp hx;exact(yj a (c q hq) (I.q0 q hq) (I.q1 q hq)).2
noncomputable def qW(W x:Int):Rat:=Rat.divInt x W
noncomputable def toQ(W:Int)(p:aa):aL:=p.map (qW W)
@[simp]theorem N2(W:Int)(p:aa):(toQ W p).length=p.length:=ZN ..
section
variable {W:Int}(h0:0<W)
include h0
theorem A3:(0:Rat)<(W:Rat):=by have:=Zf (a:=0) (b:=W);simpa using this.mpr h0
theorem K_:qW W 0=0:=by unfold qW;simp
theorem Qm:qW W W=1:=by
 unfold qW;rw[Rat.divInt_eq_div,Rat.div_def,Rat.mul_inv_cancel _ (Rat.ne_of_gt (A3 h0))]
theorem oq(x y:Int):qW W x+qW W y=qW W (x+y):=by
 unfold qW;rw[Rat.divInt_eq_div,Rat.divInt_eq_div,Rat.divInt_eq_div,Rat.intCast_add];grind
theorem Gj(x y:Int):qW W x - qW W y=qW W (x - y):=by
 unfold qW;rw[Rat.divInt_eq_div,Rat.divInt_eq_div,Rat.divInt_eq_div,Rat.intCast_sub];grind
end
theorem KD{x:Int}(h0:0<W)(h9:W<=9)(h1:-100<=x)(h2:x<=100):Sm 8 (qW W x):=uh (by left) (by show _<256;left) (by show _<256;left)
theorem Lx:D.tup [.int 1,.int 1]=qD 1:=rfl
theorem Ez:D.tup [.int 0,.int 1]=qD 0:=rfl
noncomputable abbrev xx:=Rat×aa
noncomputable def tQ(f:Fl)(ks:aq)(S:aa->Rat):D:=.cy f ks (ks.map λk=>qD (S k))
theorem kg(g:Fl->Fl)(f:Fl)(ks:aq)(S:aa->Rat):aZ g (tQ f ks S)=tQ (g f) ks S:=by
 show D.cy (g f) ks (aD g (ks.map λk=>qD (S k)))=_;rw[bX g (λk=>zr g _)];rfl
theorem C8(g:Fl->Bool)(f:Fl)(ks:aq)(S:aa->Rat):aP g (tQ f ks S)=g f:=by
 show(g f||aK g (ks.map λk=>qD (S k)))=_;rw[bY g (λk=>lI g _),Bool.or_false]
def uv(W:Int)(z:xx):Nat:=(vals W z.2).length
noncomputable def Eh(W:Int)(l:aa)(st:List xx):Rat:=(st.map λz=>z.1*Pr W 12 z.2 l).sum
noncomputable def Tu(W:Int)(st:List xx):Nat:=(st.map λz=>lv (uv W z)).sum
structure Lw(n:Nat)(W:Int)(p0:aa)(st:List xx)(ks:aq)(S:aa->Rat)(j:Nat):Prop where
 ok:∀z∈st,jC n W z.2
 pos:∀z∈st,0<z.1
 sm:∀z∈st,Sm (1+5*(12 - uv W z)) z.1
 tb:Tb (0:Rat) (λx=>0<x) ks S
 ss:∀l,Sm (1+80*j) (S l)
 kj:ks.length<=j
 rl:j+Tu W st<=32
 ma:∀l,S l+Eh W l st=Pr W 12 p0 l
theorem jC.uv{n:Nat}{p:aa}(I:jC n W p):(vals W p).length<=n:=by rw[<- I.len];exact List.length_filter_le _ _
theorem Lw.put{n:Nat}{p0:aa}{z:xx}{st:List xx}{S:aa->Rat}{j:Nat}(I:Lw n W p0 (z::st) ks S j)(hv:vals W z.2=[]):Lw n W p0 st (bc ks (oQ W 0 z.2)) (cO S (oQ W 0 z.2) z.1) (j+1):=by
 have hz:z∈z::st:=Yo;have hs:=I.sm z hz;have hp:=I.pos z hz;refine⟨λy hy=>I.ok y (Yq _ hy),λy hy=>I.pos y (Yq _ hy),λy hy=>I.sm y (Yq _ hy),I.tb.add (by grind) (λa ha=>by grind) _,λl=>?_,?_,?_,λl=>?_⟩
 ·unfold cO;split
  ·exact((I.ss l).add hs).mono (by left)
  ·exact(I.ss l).mono (by left)
 ·have:=dM ks (oQ W 0 z.2);have:=I.kj;left
 ·have f:=I.rl;unfold Tu at *;rw[List.map_cons,List.sum_cons]at f;have:lv (uv W z)=1:=by unfold uv;rw[hv];rfl
  left
 ·have m:=I.ma l;unfold Eh at *;rw[List.map_cons,List.sum_cons,md hv]at m;unfold cO;by_cases e:l=oQ W 0 z.2
  ·rw[if_pos e];rw[CV e.symm]at m;grind
  ·rw[if_neg e];rw[CW λh=>e h.symm]at m;grind
theorem cM(Φ:aX):∀(a b:aj) (ρ ρ':aV),bw Φ a ρ=ok (.nx,ρ')->bw Φ (a++b) ρ=bw Φ b ρ'
 |[],b,ρ,ρ',h=>by cases h;rfl
 |s::a,b,ρ,ρ',h=>by
  have h:bd (kr Φ s ρ) (λr=>match r with | (.nx,ρ')=>bw Φ a ρ'|r=>ok r)=ok (.nx,ρ'):=h;show bd (kr Φ s ρ) (λr=>match r with | (.nx,ρ')=>bw Φ (a++b) ρ'|r=>ok r)=_;obtain⟨⟨fo,ρ1⟩,e1,h⟩:=aB h;rw[e1,cG];cases fo with
  |nx=>exact cM Φ a b ρ1 ρ' h
  |rt d=>cases h
theorem FA{n:Nat}{x:Int}(h:x∈yc n):0<=x/\x<(n:Int):=by
 obtain⟨k,hk,rfl⟩:=List.mem_map.mp h;have:=List.mem_range.mp hk;left
theorem qV:∀{p:aa} {k:Nat} {z:Int×Int},z∈i4 k p ↔ ∃i:Nat,i<p.length/\z=(((k+i:Nat):Int),p.getD i 0)
 |[],k,z=>by simp[i4]
 |x::p,k,z=>by
  rw[i4,List.mem_cons,qV];constructor
  ·rintro (rfl|⟨i,hi,rfl⟩)
   ·exact⟨0,by simp,by simp⟩
   ·exact⟨i+1,by simp;left,by simp;left⟩
  ·rintro ⟨i,hi,rfl⟩;cases i with
   |zero=>exact .inl (by simp)
   |succ i=>exact .inr ⟨i,by simpa using hi,by simp;left⟩
theorem zO(h:Φ 1001=rn)(f:Fl)(p:aa):dv Φ (.cj 1001) [.lst f (ah p)]=ok ((i4 0 p).map zI):=by
 show bd (Φ 1001 [.lst f (ah p)]) my=_;rw[h];show ok (aD a_ (bZ 0 (ah p)))=_;rw[rm,bX a_ (λz=>by simp[zI])]
def mf:List (aa×Int)->aq->aq
 |[],ks=>ks
 |z::r,ks=>mf r (bc ks z.1)
def n4:List (aa×Int)->(aa->Int)->aa->Int
 |[],w=>w
 |z::r,w=>n4 r (cO w z.1 z.2)
theorem j9:∀(r:List (aa×Int)) (ks:aq),(mf r ks).length<=ks.length+r.length
 |[],ks=>Ys _
 |z::r,ks=>by
  have:=j9 r (bc ks z.1);have:=dM ks z.1;rw[mf,List.length_cons];left
theorem D_:∀(r:List (aa×Int)) (ks:aq) (w:aa->Int),(∀z∈r,1<=z.2)->Tb (0:Int) (λx=>1<=x) ks w->Tb (0:Int) (λx=>1<=x) (mf r ks) (n4 r w)
 |[],_,_,_,T=>T
 |z::r,ks,w,h,T=>D_ r _ _ (λy hy=>h y (Yq _ hy)) (T.add (by have:=h z Yo;left) (λa ha=>by have:=h z Yo;left) z.1)
theorem ve:∀(p:aa) (k:Nat),i4 k p=(List.range p.length).map λi:Nat=>(((k+i:Nat):Int),p.getD i 0)
 |[],_=>rfl
 |x::p,k=>by
  rw[i4,ve p (k+1),List.length_cons,List.range_succ_eq_map,List.map_cons,List.map_map];congr 1;refine Yy λi _=>?_;show _=(((k+(i+1):Nat):Int),(x::p).getD (i+1) 0)
  rw[List.getD_cons_succ,show k+1+i=k+(i+1) by left]
def D7(W:Int)(r:List (aa×Int)):aY:=(bu (mf r [])).map λl=>(qW W (n4 r (λ_=>0) l),l)
theorem qZ(w:aa->Int){c:aa}(h:c∈ks):fu ks (ks.map w) c=w c:=by
 unfold fu;rw[i7,if_pos h];rfl
theorem nU.size{m:Nat}(I:nU m qs B):∃s:Nat,qs.sum=((s:Int):Rat)/\s<=qs.length:=by
 obtain⟨s,es⟩:=I.su;have h0:∀l:aL,(∀q∈l,0<=q)->0<=l.sum:=λl=>by
  induction l with
  |nil=>intro _;exact Rat.le_refl
  |cons a l ih=>intro h;rw[List.sum_cons];exact Rat.add_nonneg (h a Yo) (ih λx hx=>h x (Yq _ hx))
 have h1:∀l:aL,(∀q∈l,q<=1)->l.sum<=(l.length:Rat):=λl=>by
  induction l with
  |nil=>intro _;exact Rat.le_refl
  |cons a l ih =>
   intro h;have i:=ih λx hx=>h x (Yq _ hx);have j:=h a Yo;rw[List.sum_cons,List.length_cons];have e:((l.length+1:Nat):Rat)=(l.length:Rat)+1:=by exact_mod_cast rfl
   rw[e];grind
 have a:=h0 qs I.q0;have b:=h1 qs I.q1;rw[es]at a b;have a':0<=s:=by have:=Z4 (a:=0) (b:=s);exact this.mp (by simpa using a)
 have b':s<=(qs.length:Int):=by
  have:=Z4 (a:=s) (b:=(qs.length:Int));exact this.mp (by rw[Rat.intCast_natCast];exact b)
 exact⟨s.toNat,by rw[es,show((s.toNat:Nat):Int)=s by left],by left⟩
theorem Gk(h0:0<W){x y:Int}:qW W x<qW W y ↔ x<y:=by
 have e:∀x y:Int,x<y->qW W x<qW W y:=λx y h=>by
  unfold qW;rw[Rat.divInt_eq_div,Rat.divInt_eq_div,Rat.div_def,Rat.div_def];exact ZE (Rat.intCast_lt_intCast.mpr h) (Rat.inv_pos.mpr (A3 h0))
 constructor
 ·intro h;by_cases z:x<y
  ·exact z
  ·rcases Int.lt_or_eq_of_le (show y<=x by left)with h'|h'
   ·have:=e _ _ h';grind
   ·rw[h']at h;grind
 ·exact e _ _
def Bd(x:Int):Prop:=-100<=x/\x<=100
theorem iS{x:Int}(h0:0<W)(h9:W<=9)(h:Bd x):Sm 4000 (qW W x):=(KD h0 h9 h.1 h.2).mono (by decide)
theorem AE:∀B:Nat,1<=B->B<=9->B∣2520:=by
 intro B h1 h2;have:B=1\/B=2\/B=3\/B=4\/B=5\/B=6\/B=7\/B=8\/B=9:=by left
 rcases this with rfl|rfl|rfl|rfl|rfl|rfl|rfl|rfl|rfl<;>exact Nat.dvd_of_mod_eq_zero rfl
noncomputable def bJ:Nat->(Nat->Int)->Int
 |0,_=>0
 |n+1,f=>bJ n f+f n
theorem mU(g:Nat->Int):∀n,bJ n (λk=>g k - g (k+1))=g 0 - g n
 |0=>by simp[bJ]
 |n+1=>by rw[bJ,mU g n];left
theorem cY{f g:Nat->Int}:∀{n:Nat},(∀k,k<n->f k=g k)->bJ n f=bJ n g
 |0,_=>rfl
 |n+1,h=>by rw[bJ,bJ,cY λk hk=>h k (by left),h n (by left)]
theorem qc(f g:Nat->Int):∀n,bJ n (λk=>f k - g k)=bJ n f - bJ n g
 |0=>rfl
 |n+1=>by rw[bJ,bJ,bJ,qc f g n];left
theorem kX(f:Nat->Int):∀n,bJ n (λk=>f (k+1))=bJ n f - f 0+f n
 |0=>by simp only[bJ];left
 |n+1=>by rw[bJ,bJ,kX f n];left
theorem qe(f:Nat->Int)(a:Nat):∀b,bJ (a+b) f=bJ a f+bJ b (λk=>f (a+k))
 |0=>by simp[bJ]
 |b+1=>by rw[<- Nat.add_assoc,bJ,bJ,qe f a b];left
theorem dR{f:Nat->Int}{c:Int}:∀{n:Nat},(∀k,k<n->f k=c)->bJ n f=n*c
 |0,_=>by simp[bJ]
 |n+1,h=>by
  rw[bJ,dR λk hk=>h k (by left),h n (by left),show((n+1:Nat):Int)*c=n*c+c by rw[Int.natCast_add,Int.add_mul];simp]
theorem div_is(h0:0<W){x q r:Int}(e:r+W*q=x)(a:0<=r)(b:r<W):x / W=q:=((Int.ediv_emod_unique h0).mpr ⟨e,a,b⟩).1
section
variable {W:Int}(h0:0<W)
include h0
theorem kz{x p:Int}(hp:0<=p)(hW:p<=W):(if x % W<p then(1:Int)else 0)=x / W - (x - p) / W:=by
 have e:=ZD x W;have r0:=Zv x (show W≠0 by left);have r1:=Zu x h0;generalize x / W=q at *;generalize x % W=r at *;by_cases c:r<p
 ·rw[if_pos c];have:(x - p) / W=q - 1:=div_is h0 (r:=r - p+W) (by rw[<- e,Int.mul_sub];left) (by left) (by left);left
 ·rw[if_neg c];have:(x - p) / W=q:=div_is h0 (r:=r - p) (by rw[<- e];left) (by left) (by left);left
theorem nG{x:Int}(a:0<=x)(b:x<W):x / W=0:=Int.ediv_eq_zero_of_lt a b
theorem div_add(x:Int):(W+x) / W=x / W+1:=by
 rw[Int.add_ediv_of_dvd_left (Int.dvd_refl W),Int.ediv_self (by left)];left
theorem ML(n:Nat)(hn:(n:Int)=W)(c:Int):bJ n (λy=>((y:Int)+c) / W)=c:=by
 have step:∀c:Int,bJ n (λy=>((y:Int)+(c+1)) / W)=bJ n (λy=>((y:Int)+c) / W)+1:=λc=>by
  have:=kX (λy=>((y:Int)+c) / W) n;have e:bJ n (λy=>((y:Int)+(c+1)) / W)=bJ n (λk=>(((k+1:Nat):Int)+c) / W):=cY λk _=>by congr 1;left
  rw[e,this,hn,div_add h0];have:(((0:Nat):Int)+c) / W=c / W:=by congr 1;left
  rw[this];left
 have z:bJ n (λy=>((y:Int)+0) / W)=0:=by
  rw[dR (c:=0) λk hk=>by rw[Int.add_zero];exact nG h0 (by left) (by left)];simp
 have up:∀k:Nat,bJ n (λy=>((y:Int)+(k:Int)) / W)=k:=λk=>by
  induction k with
  |zero=>exact z
  |succ k ih=>rw[show((k+1:Nat):Int)=(k:Int)+1 by left,step,ih]
 have dn:∀k:Nat,bJ n (λy=>((y:Int) + -(k:Int)) / W) = -(k:Int):=λk=>by
  induction k with
  |zero=>simpa using z
  |succ k ih =>
   have:=step (-((k+1:Nat):Int));rw[show -((k+1:Nat):Int)+1 = -(k:Int) by left,ih]at this;left
 rcases Int.le_total 0 c with h|h
 ·have:=up c.toNat
  rwa [show((c.toNat:Nat):Int)=c by left]at this
 ·have:=dn (-c).toNat
  rwa [show -(((-c).toNat:Nat):Int)=c by left]at this
theorem rz{x:Int}(h:¬ W∣x):x / W=(x - 1) / W:=by
 have e:=ZD x W;have r0:=Zv x (show W≠0 by left);have r1:=Zu x h0;have r2:x % W≠0:=λz=>h (Int.dvd_of_emod_eq_zero z);exact(div_is h0 (x:=x - 1) (q:=x / W) (r:=x % W - 1) (by generalize x / W=q at *;left) (by left) (by left)).symm
end
noncomputable def oV(W a p t:Int):Int:=if (t - a) % W<p then 1 else 0
theorem C2{a p:Int}(h0:0<W)(hp:0<=p)(hW:p<=W)(n:Nat)(hn:(n:Int)=W):bJ n (λy=>oV W a p y)=p:=by
 have e:bJ n (λy=>oV W a p y)=bJ n (λy=>((y:Int) + -a) / W - ((y:Int)+(-a - p)) / W):=cY λk _=>by
  unfold oV;rw[kz h0 hp hW,show(k:Int) + -a=(k:Int) - a by left,show(k:Int)+(-a - p)=(k:Int) - a - p by left]
 rw[e,qc,ML h0 n hn,ML h0 n hn];left
theorem z4{a p t:Int}(h0:0<W)(hp:0<=p)(hW:p<=W)(h1:¬ W∣t - a)(h2:¬ W∣t - (a+p)):oV W a p t=oV W a p (t - 1):=by
 unfold oV;rw[kz h0 hp hW,kz h0 hp hW,rz h0 h1,show t - a - p=t - (a+p) by left,rz h0 h2,show t - 1 - a=t - a - 1 by left,show t - a - 1 - p=t - (a+p) - 1 by left]
noncomputable def dt(W:Int):aa->List (Int×Int)
 |[]=>[]
 |t::r=>(t,r.headD W)::dt W r
theorem uo{W:Int}(f:Int->Int):∀(T:aa) (t:Int),(t::T).Pairwise (· < ·)->(∀x∈t::T,x<W)->(∀y,t<y->y<W->y∉T->f y=f (y - 1)) ->
  ((dt W (t::T)).map λz=>(z.2 - z.1)*f z.1).sum=bJ (W - t).toNat (λk=>f (t+k))
 |[],t,_,hw,hf=>by
  have:=hw t Yo;have c:∀k:Nat,k<(W - t).toNat->f (t+k)=f t:=λk=>by
   induction k with
   |zero=>intro _;simp
   |succ k ih =>
    intro hk;rw[hf (t+((k+1:Nat):Int)) (by left) (by left) (by simp),show t+((k+1:Nat):Int) - 1=t+k by left];exact ih (by left)
  rw[dR c];show(W - t)*f t+0=_;rw[show(((W - t).toNat:Nat):Int)=W - t by left];left
 |u::T,t,hp,hw,hf=>by
  obtain⟨p1,p2⟩:=List.pairwise_cons.mp hp;obtain⟨p3,p4⟩:=List.pairwise_cons.mp p2;have tu:=p1 u Yo;have uw:=hw u (by simp);have ih:=uo f T u p2 (λx hx=>hw x (Yq _ hx)) λy h1 h2 h3=>hf y (by left) h2 λz=>by
   rcases List.mem_cons.mp z with z|z
   ·left
   ·exact h3 z
  have c:∀k:Nat,k<(u - t).toNat->f (t+k)=f t:=λk=>by
   induction k with
   |zero=>intro _;simp
   |succ k ih =>
    intro hk;rw[hf (t+((k+1:Nat):Int)) (by left) (by left) (λz=>by
     rcases List.mem_cons.mp z with z|z
     ·left
     ·have:=p3 _ z;left),show t+((k+1:Nat):Int) - 1=t+k by left]
    exact ih (by left)
  have e:(W - t).toNat=(u - t).toNat+(W - u).toNat:=by left
  show(u - t)*f t+((dt W (u::T)).map λz=>(z.2 - z.1)*f z.1).sum=_;rw[ih,e,qe,dR c,show(((u - t).toNat:Nat):Int)=u - t by left];congr 1;exact cY λk _=>by congr 1;left
structure NR(n s:Nat)(p:aa)(u:Int)(r:List (aa×Int)):Prop where
 lot:∀z∈r,Bq n z.1
 len:∀z∈r,z.1.length=s
 pos:∀z∈r,1<=z.2
 all:(r.map (·.2)).sum=u
 shr:∀h:Int,0<=h->h<n->(r.map λz=>if h∈z.1 then z.2 else 0).sum=bA p h
noncomputable def pre(p:aa)(h:Nat):Int:=(p.take h).sum
def cW(p:aa):aa:=(List.range p.length).map (pre p)
theorem qC(p:aa):pre p 0=0:=by simp[pre]
theorem fU{p:aa}{h:Nat}(hh:h<p.length):pre p (h+1)=pre p h+bA p h:=by
 unfold pre bA;rw[List.take_succ,List.sum_append,Int.toNat_natCast,List.getD_eq_getElem?_getD,List.getElem?_eq_getElem hh];simp
theorem kf(p:aa):pre p p.length=p.sum:=by simp[pre]
theorem sh{p:aa}{h:Int}(h0:0<=h)(h1:h<(p.length:Int)):bA (cW p) h=pre p h.toNat:=by
 unfold bA cW;rw[List.getD_eq_getElem?_getD,List.getElem?_map,List.getElem?_range (by left)];rfl
def bE(W:Int)(p:aa):aa:=sortI (dG ((cW p).map λx=>x % W))
def b6(W:Int)(p:aa)(t:Int):aa:=(yc p.length).filter λh=>decide ((t - bA (cW p) h) % W<bA p h)
def fh(W:Int)(p:aa):List (aa×Int):=(dt W (bE W p)).map λz=>(b6 W p z.1,z.2 - z.1)
theorem uV{p:aa}{t h:Int}(h0:0<=h)(h1:h<(p.length:Int)):h∈b6 W p t ↔ (t - pre p h.toNat) % W<bA p h:=by
 unfold b6;rw[List.mem_filter,sh h0 h1];exact⟨λz=>Yn z.2,λz=>⟨BF h0 h1,Zm z⟩⟩
theorem line_lot(W:Int)(p:aa)(t:Int):Bq p.length (b6 W p t):=⟨(yb p.length).filter _,λh hh=>FA (List.mem_filter.mp hh).1⟩
theorem lN(f:Int->Bool):∀n:Nat,(((yc n).filter f).length:Int)=bJ n (λk=>if f k then 1 else 0)
 |0=>rfl
 |n+1=>by
  have e:yc (n+1)=yc n++[(n:Int)]:=by unfold yc;rw[List.range_succ,List.map_append];rfl
  rw[e,List.filter_append,List.length_append,bJ,<- lN f n];by_cases c:f n=true
  ·rw[if_pos c,List.filter_cons_of_pos c];rfl
  ·rw[if_neg c,List.filter_cons_of_neg c];rfl
structure pQ(n s:Nat)(W:Int)(p:aa):Prop where
 len:p.length=n
 W0:0<W
 lo:∀h:Nat,h<n->0<=bA p h
 hi:∀h:Nat,h<n->bA p h<=W
 sum:p.sum=s*W
theorem pQ.zB{n s:Nat}{p:aa}(I:pQ n s W p){t:Int}(t0:0<=t)(t1:t<W):(b6 W p t).length=s:=by
 have e:=lN (λh=>decide ((t - bA (cW p) h) % W<bA p h)) p.length;have e2:bJ p.length (λk=>if decide ((t - bA (cW p) (k:Int)) % W<bA p (k:Int))then(1:Int)else 0)=bJ p.length (λk=>(t - pre p k) / W - (t - pre p (k+1)) / W):=cY λk hk=>by
  have EK:k<n:=by have:=I.len;left
  rw[sh (by left) (by left),Int.toNat_natCast,fU hk,show t - (pre p k+bA p k)=t - pre p k - bA p k by left,<- kz I.W0 (I.lo k EK) (I.hi k EK)];by_cases c:(t - pre p k) % W<bA p k<;>simp[c]
 rw[e2,mU (λk=>(t - pre p k) / W),qC,kf,I.sum,Int.sub_zero,nG I.W0 t0 t1]at e;have e3:(t - s*W) / W = -(s:Int):=div_is I.W0 (r:=t) (by rw[Int.mul_neg,Int.mul_comm];left) t0 t1;rw[e3]at e;unfold b6;left
theorem kU(h0:0<W){p:aa}(h1:1<=p.length):∃T,bE W p=0::T/\(0::T).Pairwise (· < ·)/\(∀x∈0::T,x<W)/\∀h:Nat,h<p.length->pre p h % W∈0::T:=by
 have nd:(dG ((cW p).map λx=>x % W)).Nodup:=(iu _ [] YS).1;have mem:∀x,x∈dG ((cW p).map λx=>x % W) ↔ x∈(cW p).map λx=>x % W:=λx=>by
  exact((iu ((cW p).map λx=>x % W) [] YS).2 x).trans ⟨λz=>z.elim (λz=>nomatch z) id,.inr⟩
 have hp:=sortI_perm (dG ((cW p).map λx=>x % W));have rise:(bE W p).Pairwise (· < ·):=by
  have h2:(bE W p).Nodup:=hp.nodup_iff.mpr nd;exact(List.pairwise_and_iff.mpr ⟨fP _,h2⟩).imp λ⟨a,b⟩=>by left
 have mm:∀x,x∈bE W p ↔ ∃h:Nat,h<p.length/\x=pre p h % W:=λx=>by
  unfold bE;rw[hp.mem_iff,mem,List.mem_map];unfold cW;constructor
  ·rintro ⟨y,hy,rfl⟩;obtain⟨h,hh,rfl⟩:=List.mem_map.mp hy;exact⟨h,List.mem_range.mp hh,rfl⟩
  ·rintro ⟨h,hh,rfl⟩;exact⟨_,List.mem_map.mpr ⟨h,List.mem_range.mpr hh,rfl⟩,rfl⟩
 have z0:(0:Int)∈bE W p:=(mm 0).mpr ⟨0,by left,by rw[qC];simp⟩;have bd:∀x∈bE W p,0<=x/\x<W:=λx hx=>by
  obtain⟨h,_,rfl⟩:=(mm x).mp hx;exact⟨Zv _ (by left),Zu _ h0⟩
 cases e:bE W p with
 |nil=>rw[e]at z0;cases z0
 |cons y T =>
  rw[e]at rise z0 bd mm;have y0:y=0:=by
   rcases List.mem_cons.mp z0 with z|z
   ·exact z.symm
   ·have:=(List.pairwise_cons.mp rise).1 0 z;have:=(bd y Yo).1;left
  subst y0;exact⟨T,rfl,rise,λx hx=>(bd x hx).2,λh hh=>(mm _).mpr ⟨h,hh,rfl⟩⟩
theorem pQ.steps{n s:Nat}{p:aa}(I:pQ n s W p)(n1:1<=n):NR n s p W (fh W p):=by
 obtain⟨T,eT,rise,top,TY⟩:=kU I.W0 (p:=p) (by have:=I.len;left);have P7:∀(T:aa) (t:Int),(t::T).Pairwise (· < ·)->(∀x∈t::T,x<W)->∀z∈dt W (t::T),t<=z.1/\z.1<z.2/\z.2<=W:=λT=>by
  induction T with
  |nil =>
   intro t _ hw z hz;have:=hw t Yo;rw[List.mem_singleton.mp hz];exact⟨YX _,this,YX _⟩
  |cons u T ih =>
   intro t hp hw z hz;obtain⟨p1,p2⟩:=List.pairwise_cons.mp hp;have tu:=p1 u Yo;have uw:=hw u (by simp);rcases List.mem_cons.mp hz with rfl|hz
   ·exact⟨YX _,tu,by show u<=W;left⟩
   ·obtain⟨a,b,c⟩:=ih u p2 (λx hx=>hw x (Yq _ hx)) z hz;exact⟨by left,b,c⟩
 have hn:((W.toNat:Nat):Int)=W:=by have:=I.W0;left
 have sg:∀f:Int->Int,(∀y,0<y->y<W->y∉T->f y=f (y - 1))->((dt W (bE W p)).map λz=>(z.2 - z.1)*f z.1).sum=bJ W.toNat (λk=>f k):=λf hf=>by
  have:=uo f T 0 rise top hf;rw[eT,this,Int.sub_zero];exact cY λk _=>by congr 1;left
 have KJ:∀z∈dt W (bE W p),0<=z.1/\z.1<z.2/\z.2<=W:=λz hz=>by rw[eT]at hz;exact P7 T 0 rise top z hz
 have Hb:∀z∈fh W p,∃y∈dt W (bE W p),z=(b6 W p y.1,y.2 - y.1):=λz hz=>by
  obtain⟨y,hy,e⟩:=List.mem_map.mp hz;exact⟨y,hy,e.symm⟩
 refine⟨λz hz=>?_,λz hz=>?_,λz hz=>?_,?_,λh h0 h1=>?_⟩
 ·obtain⟨y,hy,rfl⟩:=Hb z hz;rw[<- I.len];exact line_lot W p y.1
 ·obtain⟨y,hy,rfl⟩:=Hb z hz;obtain⟨a,b,c⟩:=KJ y hy;exact I.zB a (by left)
 ·obtain⟨y,hy,rfl⟩:=Hb z hz;obtain⟨a,b,c⟩:=KJ y hy;show 1<=y.2 - y.1;left
 ·have:=sg (λ_=>1) λ_ _ _ _=>rfl;rw[dR (c:=1) λ_ _=>rfl,hn]at this;unfold fh;rw[List.map_map];have e:((dt W (bE W p)).map ((λx:aa×Int=>x.2)∘λz=>(b6 W p z.1,z.2 - z.1)))=(dt W (bE W p)).map λz=>(z.2 - z.1)*1:=Yy λz _=>by show z.2 - z.1=_;left
  rw[e,this];left
 ·have hl:=I.len;obtain⟨k,rfl⟩:∃k:Nat,h=(k:Int):=⟨h.toNat,by left⟩
  have hk:k<p.length:=by left
  have:=sg (oV W (pre p k) (bA p k)) λy y0 y1 yT=>z4 I.W0 (I.lo k (by left)) (I.hi k (by left)) (λz=>?_) (λz=>?_)
  ·rw[C2 I.W0 (I.lo k (by left)) (I.hi k (by left)) W.toNat hn]at this;rw[<- this];unfold fh;rw[List.map_map];congr 1;refine Yy λz _=>?_;show(if (k:Int)∈b6 W p z.1 then z.2 - z.1 else 0)=(z.2 - z.1)*oV W (pre p k) (bA p k) z.1;unfold oV;by_cases c:(z.1 - pre p k) % W<bA p k
   ·rw[if_pos ((uV (by left) (by left)).mpr (by rw[Int.toNat_natCast];exact c)),if_pos c];left
   ·rw[if_neg λq=>c (by have:=(uV (by left) (by left)).mp q;rwa [Int.toNat_natCast]at this),if_neg c];left
  ·have e:pre p k % W=y:=by
    have h:=Int.emod_emod_of_dvd (y - pre p k) (Int.dvd_refl W);have h2:(pre p k - y) % W=0:=Int.emod_eq_zero_of_dvd (by have:=Int.dvd_neg.mpr z;rwa [Int.neg_sub]at this);have h3:=Int.emod_eq_emod_iff_emod_sub_eq_zero.mpr h2;rw[h3,Int.emod_eq_of_lt (by left) y1]
   have:=TY k hk;rw[e]at this;rcases List.mem_cons.mp this with q|q
   ·left
   ·exact yT q
  ·rw[<- fU hk]at z;have e:pre p (k+1) % W=y:=by
    have h2:(pre p (k+1) - y) % W=0:=Int.emod_eq_zero_of_dvd (by have:=Int.dvd_neg.mpr z;rwa [Int.neg_sub]at this);have h3:=Int.emod_eq_emod_iff_emod_sub_eq_zero.mpr h2;rw[h3,Int.emod_eq_of_lt (by left) y1]
   by_cases c:k+1<p.length
   ·have:=TY (k+1) c;rw[e]at this;rcases List.mem_cons.mp this with q|q
    ·left
    ·exact yT q
   ·have:k+1=p.length:=by left
    rw[this,kf,I.sum,Int.mul_emod_left]at e;left
theorem o6{x:Int}(h:0<W):x.fmod W=x % W:=Int.fmod_eq_emod_of_nonneg _ (by left)
noncomputable def AB:CE:=.comp 2 (.tp [0,1]) [3,2,0] (.cj 1001) [(.v 1)] [(.cmp .lt (.bin .mod (.bin .sub (.v 4) (.v 1)) (.v 2)) (.ix (.v 3) (.v 0)))] (.v 0)
def vP:aj:=[.ret (.bf .tuple1 [AB])]
theorem gB(p:aa):(cW p).length=p.length:=by simp[cW]
theorem zV(W:Int)(p:aa)(t:Int):((i4 0 (cW p)).filter λz=>decide ((t - z.2) % W<bA p z.1)).map (λz=>D.int z.1)=ah (b6 W p t):=by
 unfold b6 ah yc;rw[ve,gB,List.filter_map,List.filter_map,List.map_map,List.map_map];have e:((λz:Int×Int=>decide ((t - z.2) % W<bA p z.1))∘λi:Nat=>(((0+i:Nat):Int),(cW p).getD i 0))=((λh:Int=>decide ((t - bA (cW p) h) % W<bA p h))∘λk:Nat=>(k:Int)):=by
  funext i;show decide ((t - (cW p).getD i 0) % W<bA p ((0+i:Nat):Int))=decide ((t - bA (cW p) (i:Int)) % W<bA p (i:Int));rw[Nat.zero_add];rfl
 rw[e];refine Yy λi _=>?_;show D.int ((0+i:Nat):Int)=D.int (i:Int);rw[Nat.zero_add]
def A6(m:aE):Prop:=∀f g (p:aa) (t W:Int),p.length<=12->0<W->m [.int t,.lst f (ah (cW p)),.lst g (ah p),.int W]=ok (.tup (ah (b6 W p t)))
theorem KS(Φ:aX)(M_:Φ 1001=rn):A6 (mk Φ 4 4 vP):=by
 intro f g p t W hl h0;have e1:bj Φ AB [some (.int t),some (.lst f (ah (cW p))),some (.lst g (ah p)),some (.int W)]=ok (.lst .ow (ah (b6 W p t))):=by
  unfold AB;rw[eI (xs:=[.lst (bH f) (ah (cW p))]) (items:=(i4 0 (cW p)).map zI) (ds:=((i4 0 (cW p)).filter λz=>decide ((t - z.2) % W<bA p z.1)).map λz=>D.int z.1) (by simp) (zO M_ _ _) (gi λz hz=>⟨[some (.int z.1),some (.int z.2),some (.int W),some (.lst (a_ g) (ah p)),some (.int t)],by simp[bK,zI],?_,λ_=>by simp⟩) (by
   have:=List.length_filter_le (λz:Int×Int=>decide ((t - z.2) % W<bA p z.1)) (i4 0 (cW p));rw[qX,gB]at this;rw[List.length_map];exact dg (by left))]
  ·rw[zV,bO]
  ·obtain⟨i,hi,rfl⟩:=qV.mp hz;rw[gB]at hi;have m1:bV .mod (.int (t - (cW p).getD i 0)) (.int W)=ok (.int ((t - (cW p).getD i 0) % W)):=by rw[l7 (by left),o6 h0]
   have d1:=DQ (ts:=p) (h:=((0+i:Nat):Int)) (by left) (by left);generalize ((0+i:Nat):Int)=j at *;generalize (cW p).getD i 0=y at *;simp[m1,d1]
 simp[mk_eq,vP,e1]
noncomputable def Ds:CE:=.comp 1 (.nm 0) [2] .jr [(.bf .len [(.v 2)])] [] (.bf .n9 [(.cj 1021 [(.v 1),(.v 0)])])
noncomputable def IU:CE:=.comp 1 (.nm 0) [1] .seq [(.v 3)] [] (.bin .mod (.v 0) (.v 1))
noncomputable def BK:aj:=[.asg (.nm 8) (.call 29 [(.v 6),(.v 3),(.v 2),(.v 1)]),.mut 1033 5 [(.bin .sub (.bin .add (.cj 1031 [(.v 5),(.v 8),(.int 0)]) (.v 7)) (.v 6)),(.v 8)]]
def IQ:CS:=.fr (.tp [6,7]) (.GC 1000 [(.v 4),(.bin .add (.cj 1020 [(.v 4),(.int 1)]) (.lst [(.v 1)]))]) BK
def QJ:aj:=[.ex (.call 26 [(.v 0)]),.asg (.nm 1) (.call 9 [(.v 0)]),.asg (.nm 2) (.call 10 [(.v 0),(.v 1)]),.asg (.nm 3) Ds,.asg (.nm 4) (.cj 1071 [IU]),.asg (.nm 5) (.cj 1030 [])]
def Tx:aj:=[IQ,.ret (.call 18 [(.bf .len [(.v 0)]),(.v 5),(.v 1)])]
def AV:aj:=QJ++Tx
noncomputable def jL(z:Int×Int):D:=.tup [.int z.1,.int z.2]
theorem uT(Φ:aX)(P:Br Φ)(OQ:A6 (Φ 29)){W:Int}(h0:0<W){p:aa}(hl:p.length<=12)(c0 c4:aI):∀(zs:List (Int×Int)) (ks:aq) (w:aa->Int) (c6 c7 c8:aI),ks.length+zs.length<900->(∀k,k∉ks->w k=0) ->
  ∃Sv xo NF,dW (λd ρ=>cg (.tp [6,7]) d ρ) (λρ=>bw Φ BK ρ) (zs.map jL) [c0,some (.int W),some (.lst .ow (ah p)),some (.lst .ow (ah (cW p))),c4,some (n8 .ow ks w),c6,c7,c8]=ok (.nx,[c0,some (.int W),some (.lst .ow (ah p)),some (.lst .ow (ah (cW p))),c4,some (n8 .ow (mf (zs.map λz=>(b6 W p z.1,z.2 - z.1)) ks) (n4 (zs.map λz=>(b6 W p z.1,z.2 - z.1)) w)),Sv,xo,NF])
 |[],ks,w,c6,c7,c8,_,_=>⟨c6,c7,c8,rfl⟩
 |z::zs,ks,w,c6,c7,c8,hk,h=>by
  rw[List.length_cons]at hk;have kl:=dM ks (b6 W p z.1);have Xq:=OQ .fz .fz p z.1 W hl h0;obtain⟨d6,d7,d8,ih⟩:=uT Φ P OQ h0 hl c0 c4 zs (bc ks (b6 W p z.1)) (cO w (b6 W p z.1) (z.2 - z.1)) (some (.int z.1)) (some (.int z.2)) (some (.tup (ah (b6 W p z.1)))) (by left) (λk hk=>by
   have hz:¬ (k∈ks\/k=b6 W p z.1):=λq=>hk (dJ.mpr q);unfold cO;rw[if_neg λq=>hz (.inr q)];exact h k λq=>hz (.inl q))
  refine⟨d6,d7,d8,?_⟩;rw[List.map_cons,List.map_cons,mf,n4];generalize b6 W p z.1=l at *;have g1:∀f,Φ 1031 [n8 f ks w,.tup (ah l),.int 0]=ok (.int (w l)):=λf=>Kj P (e:=D.int) Ej f ks w 0 l (h l);have ea:w l+z.2 - z.1=w l+(z.2 - z.1):=by left
  have x1:=rT (Φ:=Φ) (p:=1033) (i:=5) (es:=[(.bin .sub (.bin .add (.cj 1031 [(.v 5),(.v 8),(.int 0)]) (.v 7)) (.v 6)),(.v 8)]) (ρ:=[c0,some (.int W),some (.lst .ow (ah p)),some (.lst .ow (ah (cW p))),c4,some (n8 .ow ks w),some (.int z.1),some (.int z.2),some (.tup (ah l))]) (xs:=[.int (w l+(z.2 - z.1)),.tup (ah l)]) (by simp[uR,g1,ea]) (by simp) rfl (yi P (by left) w l (z.2 - z.1));simp only[List.set]at x1;refine gf (ρ1:=[c0,some (.int W),some (.lst .ow (ah p)),some (.lst .ow (ah (cW p))),c4,some (n8 .ow ks w),some (.int z.1),some (.int z.2),c8]) (by simp[jL]) (ρ2:=[c0,some (.int W),some (.lst .ow (ah p)),some (.lst .ow (ah (cW p))),c4,some (n8 .ow (bc ks l) (cO w l (z.2 - z.1))),some (.int z.1),some (.int z.2),some (.tup (ah l))]) ?_ ih;simp[BK,Xq,x1]
def NS(m:aE):Prop:=∀f qs B (s:Nat),nU 12 qs B->qs.sum=((s:Int):Rat)->m [.lst f (aR qs)]=ok (.tup [.int qs.length,.lst .ow (iU (D7 (bP qs) (fh (bP qs) (m_ qs))))])
theorem sy{m:Nat}(I:nU m qs B)(hm:m<=12){s:Nat}(es:qs.sum=((s:Int):Rat)):pQ qs.length s (bP qs) (m_ qs):=by
 have P0:=I.p0 hm;obtain⟨a,b,c⟩:=I.bot hm;have mem:∀h:Nat,h<qs.length->bA (m_ qs) h∈m_ qs:=λh hh=>by
  have hl:=P0.len;have Uh:h<(m_ qs).length:=by left
  unfold bA;rw[Int.toNat_natCast,List.getD_eq_getElem?_getD,List.getElem?_eq_getElem Uh];exact Y4 Uh
 exact⟨P0.len,by left,λh hh=>P0.lo _ (mem h hh),λh hh=>P0.hi _ (mem h hh),kW c es⟩
theorem qu(W:Int):∀(T:aa) (t:Int),List.zipWith (λx y=>D.tup [x,y]) (ah (t::T)) (ah (T++[W]))=(dt W (t::T)).map jL
 |[],t=>rfl
 |u::T,t=>by
  show D.tup [.int t,.int u]::List.zipWith (λx y=>D.tup [x,y]) (ah (u::T)) (ah (T++[W]))=_;rw[qu W T u];rfl
theorem fR(W:Int):∀T:aa,(dt W T).length=T.length
 |[]=>rfl
 |t::T=>by rw[dt,List.length_cons,fR W T];rfl
theorem gA(W:Int)(p:aa):(bE W p).length<=p.length:=by
 have h1:∀(ns m:aa),(ns.foldl (λ(m:aa) (k:Int)=>if m.any (· == k)then m else m++[k]) m).length<=m.length+ns.length:=λns=>by
  induction ns with
  |nil=>intro m;simp
  |cons k ns ih =>
   intro m;rw[List.foldl_cons];by_cases c:m.any (· == k)=true
   ·rw[if_pos c];have:=ih m;rw[List.length_cons];left
   ·rw[if_neg c];have:=ih (m++[k]);rw[List.length_append,List.length_singleton]at this;rw[List.length_cons];left
 unfold bE;rw[(sortI_perm _).length_eq];have:=h1 ((cW p).map λx=>x % W) [];rw[List.length_map,gB,List.length_nil]at this;exact YL this (by left)
theorem BH{r:List (aa×Int)}(K:Tb (0:Int) (λx=>1<=x) (mf r []) (n4 r λ_=>0)):tF (mf r []) ((mf r []).map (n4 r λ_=>0)) W=D7 W r:=by
 unfold tF D7;have hp:(bu (mf r [])).Perm (mf r []):=YT _ _;rw[List.filter_eq_self.mpr λl hl=>decide_eq_true (by rw[qZ _ (hp.mem_iff.mp hl)];have:=K.wQ l (hp.mem_iff.mp hl);left)];refine Yy λl hl=>?_;rw[qZ _ (hp.mem_iff.mp hl)];rfl
theorem P9(Φ:aX)(P:Br Φ)(h9:dz (Φ 9))(Ie:gp (Φ 10))(Ux:Fh (Φ 18))(WW:Fi (Φ 26))(OQ:A6 (Φ 29))(Na:Φ 1000=Bs)(M9:Φ 1020=cutD true)(M8:Φ 1021=cutD false)(M7:Φ 1071=KA):NS (mk Φ 1 9 AV):=by
 intro f qs B s I es;have Ra:=I.F0 (Ys _);obtain⟨a1,a2,a3⟩:=I.bot (Ys _);have T:=sy I (Ys _) es;have n1:=I.n1;have n2:=I.n2;have St:=T.steps n1;have Xr:=λf=>WW f qs B I;have e9:=λf=>h9 f qs 4 Ra;have Nq:∀f,Φ 10 [.lst f (aR qs),.int (bP qs)]=ok (.lst .ow (ah (m_ qs))):=λf=>Ie f qs 4 (bP qs) Ra Ra.LZ;have hlen:=T.len;generalize m_ qs=p at *;generalize bP qs=b at *;have h0:=T.W0;have e1:∀c3 c4 c5 c6 c7 c8,bj Φ Ds [some (.lst f (aR qs)),some (.int b),some (.lst .ow (ah p)),c3,c4,c5,c6,c7,c8]=ok (.lst .ow (ah (cW p))):=λc3 c4 c5 c6 c7 c8=>by
  unfold Ds;rw[eI (xs:=[.int p.length]) (ds:=(List.range p.length).map λk=>D.int (pre p k)) (by simp) (CQ Φ (by left) (by left)) ?_ (by simp;exact dg (by left))]
  ·have:((List.range p.length).map λk=>D.int (pre p k))=ah (cW p):=by unfold ah cW;rw[List.map_map];rfl
   rw[this,bO]
  ·rw[Int.toNat_natCast];refine cV λk hk=>⟨[some (.int k),some (.lst .fz (ah p))],by simp[bK],by simp,?_⟩
   have EK:=List.mem_range.mp hk;have c1:Φ 1021 [.lst .fz (ah p),.int k]=ok (.lst .ow (ah (p.take k))):=by
    rw[M8];show(if (0:Int)<=k/\(k:Int)<=(ah p).length then ok (D.lst .ow (aD bH ((ah p).take (k:Int).toNat)))else none)=_;rw[if_pos ⟨by left,by simp;left⟩,Int.toNat_natCast];have e:(ah p).take k=ah (p.take k):=by unfold ah;rw[List.map_take]
    rw[e,bO]
   simp[c1,pre]
 have e2:∀c4 c5 c6 c7 c8,bj Φ IU [some (.lst f (aR qs)),some (.int b),some (.lst .ow (ah p)),some (.lst .ow (ah (cW p))),c4,c5,c6,c7,c8]=ok (.lst .ow (ah ((cW p).map λx=>x % (b:Int)))):=λc4 c5 c6 c7 c8=>by
  unfold IU;rw[eI (xs:=[.lst .al (ah (cW p))]) (items:=(cW p).map D.int) (ds:=(cW p).map λx=>D.int (x % (b:Int))) (by simp) (by rw[eA,bO];rfl) (cV λx hx=>⟨[some (.int x),some (.int b)],by simp[bK],by simp,by
   have m1:bV .mod (.int x) (.int b)=ok (.int (x % (b:Int))):=by rw[l7 (by left),o6 h0]
   simp[m1]⟩) (by rw[List.length_map,gB];exact dg (by left))]
  have:((cW p).map λx=>D.int (x % (b:Int)))=ah ((cW p).map λx=>x % (b:Int)):=by unfold ah;rw[List.map_map];rfl
  rw[this,bO]
 have e3:Φ 1071 [.lst .ow (ah ((cW p).map λx=>x % (b:Int)))]=ok (.lst .ow (ah (bE b p))):=by
  rw[M7];show(match intsOf (((cW p).map λx=>x % (b:Int)).map D.int)with|some ns=>if ns.length<64 then ok (D.lst .ow ((sortI (dG ns)).map D.int))else none|none=>none)=_;rw[bF];exact YV (by rw[List.length_map,gB];left)
 obtain⟨T',eT,_⟩:=kU h0 (p:=p) (by left);have tl:=gA b p;obtain⟨d6,d7,d8,el⟩:=uT Φ P OQ h0 (p:=p) (by left) (some (.lst f (aR qs))) (some (.lst .fz (ah (bE b p)))) (dt b (bE b p)) [] (λ_=>0) none none none (by rw[fR,List.length_nil];left) (λ_ _=>rfl);have c1:Φ 1020 [.lst .al (ah (bE b p)),.int 1]=ok (.lst .ow (ah T')):=by
  rw[M9,eT];show(if (0:Int)<=1/\(1:Int)<=((ah (0::T')).length:Nat)then ok (D.lst .ow (aD bH (mK true (1:Int).toNat (ah (0::T')))))else none)=_;rw[if_pos ⟨by decide,by simp;left⟩];show ok (D.lst .ow (aD bH (ah T')))=_;rw[bO]
 have ba:bV .add (.lst .ow (ah T')) (.lst .ow [.int b])=ok (.lst .ow (ah (T'++[(b:Int)]))):=by
  have S9:T'.length<=12:=by rw[eT]at tl;simp at tl;left
  show(if mD .ow=false/\mD .ow=false/\(ah T').length+[D.int b].length<=eO then ok (D.lst .ow (aD bH (ah T'++[.int b])))else none)=_;rw[if_pos ⟨rfl,rfl,by simp;show _<=1000000;left⟩,show ah T'++[D.int b]=ah (T'++[(b:Int)]) by unfold ah;rw[List.map_append];rfl,bO]
 have ez:Φ 1000 [.lst .al (ah (bE b p)),.lst .ow (ah (T'++[(b:Int)]))]=ok (.lst .ow ((dt b (bE b p)).map jL)):=by
  rw[Na,eT,<- qu b T' 0];rfl
 have hit:f_ Φ (.GC 1000 [(.v 4),(.bin .add (.cj 1020 [(.v 4),(.int 1)]) (.lst [(.v 1)]))]) [some (.lst f (aR qs)),some (.int b),some (.lst .ow (ah p)),some (.lst .ow (ah (cW p))),some (.lst .ow (ah (bE b p))),some (n8 .ow [] λ_=>0),none,none,none]=ok ((dt b (bE b p)).map jL,[some (.lst f (aR qs)),some (.int b),some (.lst .ow (ah p)),some (.lst .ow (ah (cW p))),some (.lst .fz (ah (bE b p))),some (n8 .ow [] λ_=>0),none,none,none]):=by
  show bd (cc Φ [(.v 4),(.bin .add (.cj 1020 [(.v 4),(.int 1)]) (.lst [(.v 1)]))] _) _=_;have:∀ρ:aV,bj Φ (.v 4) ρ=ok (.lst .al (ah (bE b p)))->bj Φ (.v 1) ρ=ok (.int b)->cc Φ [(.v 4),(.bin .add (.cj 1020 [(.v 4),(.int 1)]) (.lst [(.v 1)]))] ρ=ok [.lst .al (ah (bE b p)),.lst .ow (ah (T'++[(b:Int)]))]:=λρ q1 q2=>by simp[q1,q2,c1,ba]
  rw[this _ (by simp) (by simp),cG,ez,cG];show ok (aD a_ ((dt b (bE b p)).map jL),if aK bR [D.lst .al (ah (bE b p)),.lst .ow (ah (T'++[(b:Int)]))]then fM _ _ else _)=_;rw[bX a_ (e:=jL) (λz=>by simp[jL]),tf];simp[fI,cL]
 have hf:=iJ (Φ:=Φ) (t:=.tp [6,7]) (b:=BK) hit el;have K:=D_ (fh b p) [] (λ_=>0) St.pos ⟨YS,λ_ _=>rfl,λ_ h=>nomatch h⟩;have hl:=j9 (fh b p) [];have ll:(fh b p).length<=12:=by unfold fh;rw[List.length_map,fR];left
 rw[List.length_nil]at hl;have n3:Φ 1030 []=ok (n8 .ow [] λ_=>0):=by rw[P.Aj];rfl
 have o2:aP bR (n8 .ow [] λ_=>0)=false:=C9 _ _ _ _;have Sq:=λf=>Ux f qs.length (mf (fh b p) []) ((mf (fh b p) []).map (n4 (fh b p) λ_=>0)) b (by simp) (by left) (by left) (ig (by left));rw[BH K]at Sq;have ed:∀f,D.cy f (mf (fh b p) []) (ah ((mf (fh b p) []).map (n4 (fh b p) λ_=>0)))=n8 f (mf (fh b p) []) (n4 (fh b p) λ_=>0):=λf=>by
  unfold n8 ah;rw[List.map_map];rfl
 simp only[ed]at Sq;have g1:bw Φ QJ [some (.lst f (aR qs)),none,none,none,none,none,none,none,none]=ok (.nx,[some (.lst f (aR qs)),some (.int b),some (.lst .ow (ah p)),some (.lst .ow (ah (cW p))),some (.lst .ow (ah (bE b p))),some (n8 .ow [] λ_=>0),none,none,none]):=by
  simp[QJ,Xr,e9,Nq,QM Φ Ds _ rfl,e1,e2,e3,n3,o2]
 rw[mk_eq (show[D.lst f (aR qs)].length=1 from rfl)];show jz (bw Φ AV [some (.lst f (aR qs)),none,none,none,none,none,none,none,none])=_;rw[AV,cM Φ _ _ _ _ g1,Tx,eF];show jz (bd (kr Φ IQ _) _)=_;rw[IQ,hf];have Xg:(dt b (bE b p)).map (λz=>(b6 b p z.1,z.2 - z.1))=fh b p:=rfl;rw[Xg];simp[uR,Sq]
end DI
end
section
namespace DI
open PySem (Str)
open NT
theorem oi{W:Int}:∀(T:aa) (t:Int),(t::T).Pairwise (· < ·)->(∀x∈t::T,x<W)->∀z∈dt W (t::T),z.1∈t::T/\z.1<z.2/\z.2<=W/\∀y∈t::T,y<=z.1\/z.2<=y
 |[],t,_,hw,z,hz=>by
  have:=hw t Yo;rw[List.mem_singleton.mp (show z∈[(t,W)] from hz)];exact⟨Yo,this,YX _,λy hy=>.inl (by rw[List.mem_singleton.mp hy];exact YX _)⟩
 |u::T,t,hp,hw,z,hz=>by
  obtain⟨p1,p2⟩:=List.pairwise_cons.mp hp;have tu:=p1 u Yo;have uw:=hw u (by simp);rcases List.mem_cons.mp (show z∈(t,u)::dt W (u::T) from hz)with rfl|hz
  ·refine⟨Yo,tu,by show u<=W;left,λy hy=>?_⟩;rcases List.mem_cons.mp hy with rfl|hy
   ·exact .inl (YX _)
   ·refine .inr ?_;rcases List.mem_cons.mp hy with rfl|hy
    ·exact YX _
    ·exact aal ((List.pairwise_cons.mp p2).1 y hy)
  ·obtain⟨a,b,c,d⟩:=oi T u p2 (λx hx=>hw x (Yq _ hx)) z hz;refine⟨Yq _ a,b,c,λy hy=>?_⟩;rcases List.mem_cons.mp hy with rfl|hy
   ·exact .inl (aal (p1 _ a))
   ·exact d y hy
variable {W:Int}
theorem oM{p:aa}(x:Int):x∈bE W p ↔ ∃h:Nat,h<p.length/\x=pre p h % W:=by
 unfold bE;rw[(sortI_perm _).mem_iff];refine(((iu ((cW p).map λx=>x % W) [] YS).2 x).trans ⟨λz=>z.elim (λz=>nomatch z) id,.inr⟩).trans ?_;unfold cW;rw[List.map_map,List.mem_map];exact⟨λ⟨h,hh,e⟩=>⟨h,List.mem_range.mp hh,e.symm⟩,λ⟨h,hh,e⟩=>⟨h,List.mem_range.mpr hh,e.symm⟩⟩
theorem pQ.fV{n s:Nat}{W:Int}{p:aa}(I:pQ n s W p):∀{h:Nat},h<=n->0<=pre p h/\pre p h<=h*W
 |0,_=>by rw[qC];simp
 |h+1,hh=>by
  obtain⟨a,b⟩:=I.fV (h:=h) (by left);have:=I.len;rw[fU (by left)];have c:=I.lo h (by left);have d:=I.hi h (by left);have e:((h+1:Nat):Int)*W=h*W+W:=by rw[Int.natCast_add,Int.add_mul];simp
  left
theorem pQ.met{n s:Nat}{p:aa}(I:pQ n s W p){t u:Int}(hz:(t,u)∈dt W (bE W p)){h:Nat}(hh:h<n):
  (∃k:Nat,k<n+1/\2*pre p h<=t+u+2*(W*k)/\t+u+2*(W*k)<2*pre p (h+1)) ↔ (t - pre p h) % W<bA p h:=by
 have hlen:=I.len;have h0:=I.W0;obtain⟨T,eT,rise,top,_⟩:=kU h0 (p:=p) (by left);rw[eT]at hz;obtain⟨m1,tu,uW,gap⟩:=oi T 0 rise top _ hz;dsimp only at m1 tu uW gap;have t0:0<=t:=by
  rcases List.mem_cons.mp m1 with rfl|q
  ·exact YX _
  ·exact aal ((List.pairwise_cons.mp rise).1 t q)
 have wQ:∀(j:Nat) (k z:Int),j<=n->pre p j=z+W*k->t<z->z<W->u<=z:=λj k z hj e z1 z2=>by
  have em:pre p j % W=z:=by rw[e,Int.add_mul_emod_self_left,Int.emod_eq_of_lt (by left) z2]
  rcases Y6 hj with q|q
  ·have:=(oM (W:=W) (p:=p) z).mpr ⟨j,by left,em.symm⟩;rw[eT]at this;exact(gap z this).resolve_left (by left)
  ·rw[q,<- hlen,kf,I.sum,Int.mul_emod_left]at em;left
 have ps:=fU (p:=p) (h:=h) (by left);have X4:=I.lo h hh;have X5:=I.hi h hh;obtain⟨pa,pb⟩:=I.fV (h:=h) (by left);obtain⟨pc,pd⟩:=I.fV (h:=h+1) (by left);have pn:((h+1:Nat):Int)*W<=n*W:=Y_ (by left) (by left);constructor
 ·rintro ⟨k,hk,a,b⟩;have c:pre p h - W*k<=t:=by
   refine Y7 λc=>?_;have:=wQ h k (pre p h - W*k) (by left) (by left) (by left) (by left);left
  have e:t - pre p h=(t - pre p h+W*k)+W*(-(k:Int)):=by rw[Int.mul_neg];left
  rw[e,Int.add_mul_emod_self_left,Int.emod_eq_of_lt (by left) (by left)];left
 ·intro hr;have e:=ZD (t - pre p h) W;have r0:=Zv (t - pre p h) (show W≠0 by left);generalize (t - pre p h) % W=r at *;generalize (t - pre p h) / W=q at *;have q0:q<=0:=by
   refine Y7 λc=>?_;have:W*1<=W*q:=Int.mul_le_mul_of_nonneg_left (by left) (by left);left
  have ek:(((-q).toNat:Nat):Int) = -q:=by left
  have ew:W*(((-q).toNat:Nat):Int) = -(W*q):=by rw[ek,Int.mul_neg]
  refine⟨(-q).toNat,?_,by left,?_⟩
  ·have:W*(((-q).toNat:Nat):Int)<W*((n:Int)+1):=by rw[Int.mul_add,Int.mul_comm W n];left
   have:=Int.lt_of_mul_lt_mul_left this (by left);left
  ·have:u<=pre p (h+1) - W*(((-q).toNat:Nat):Int):=by
    by_cases c:W<=pre p (h+1) - W*(((-q).toNat:Nat):Int)
    ·left
    ·exact wQ (h+1) (((-q).toNat:Nat):Int) _ (by left) (by left) (by left) (by left)
   left
noncomputable def cK(W x:Int):NK:=((qW W x).num*2520 / (qW W x).den,[(qW W x).num,(qW W x).den])
def Kb(W x:Nat):Bool:=decide ((qW W x).num % (qW W x).den=(qW W ((x % W:Nat):Int)).num)&&decide ((qW W x).den=(qW W ((x % W:Nat):Int)).den)&&decide ((cK W ((x % W:Nat):Int)).1=((x % W:Nat):Int)*((2520 / W:Nat):Int))&&univ.contains (cK W ((x % W:Nat):Int))
theorem BG:∀W:Fin 10,W.val≠0->∀x:Fin 64,Kb W.val x.val=true:=by decide +kernel
structure NQ(W x:Int):Prop where
 num:(qW W x).num % (qW W x).den=(qW W (x % W)).num
 den:(qW W x).den=(qW W (x % W)).den
 fst:(cK W (x % W)).1=(x % W)*(2520 / W)
 mem:cK W (x % W)∈univ
theorem Kc{x:Int}(h0:0<W)(h9:W<=9)(x0:0<=x)(x1:x<64):NQ W x:=by
 obtain⟨w,rfl⟩:∃w:Nat,W=w:=⟨W.toNat,by left⟩
 obtain⟨y,rfl⟩:∃y:Nat,x=y:=⟨x.toNat,by left⟩
 have:=BG ⟨w,by left⟩ (by show w≠0;left) ⟨y,by left⟩;dsimp only at this;unfold Kb at this;simp only[Bool.and_eq_true,decide_eq_true_eq]at this;obtain⟨⟨⟨a,b⟩,c⟩,d⟩:=this;exact⟨a,b,c,by simpa using d⟩
theorem BX{n s:Nat}{p:aa}(I:pQ n s W p)(n1:1<=n)(h9:W<=9)(n7:n<=7):iR (((List.range (n+1)).map (pre p)).map λx=>cK W (x % W))=(bE W p).map (cK W):=by
 have h0:=I.W0;have hlen:=I.len;have c0:0<2520 / W:=Int.ediv_pos_of_pos_of_dvd (by decide) (by left) (by
  have:=AE W.toNat (by left) (by left);have e:((W.toNat:Nat):Int)=W:=by left
  rw[<- e];exact_mod_cast this)
 have bd:∀h:Nat,h<n+1->0<=pre p h/\pre p h<64:=λh hh=>by
  obtain⟨a,b⟩:=I.fV (h:=h) (by left);have:(h:Int)*W<=7*9:=YY (by left) h9 (by left) (by decide);exact⟨a,by left⟩
 have K:∀h:Nat,h<n+1->NQ W (pre p h):=λh hh=>Kc h0 h9 (bd h hh).1 (bd h hh).2;have e1:(((List.range (n+1)).map (pre p)).map λx=>cK W (x % W)).map (·.1)=((List.range (n+1)).map (pre p)).map λx=>(x % W)*(2520 / W):=by
  rw[List.map_map,List.map_map,List.map_map];exact Yy λh hh=>(K h (List.mem_range.mp hh)).fst
 have L4:pre p n % W=0:=by rw[<- hlen,kf,I.sum,Int.mul_emod_left]
 have mem:∀y,(∃h:Nat,h<n+1/\y=pre p h % W) ↔ y∈bE W p:=λy=>by
  rw[oM,hlen];constructor
  ·rintro ⟨h,hh,rfl⟩;rcases Y6 (aaJ hh)with q|q
   ·exact⟨h,q,rfl⟩
   ·exact⟨0,n1,by rw[q,L4,qC];rfl⟩
  ·rintro ⟨h,hh,e⟩;exact⟨h,by left,e⟩
 obtain⟨T,eT,rise,top,_⟩:=kU h0 (p:=p) (by left);have K0:(bE W p).Pairwise (· < ·):=by rw[eT];exact rise
 have rs:((bE W p).map λy=>y*(2520 / W)).Pairwise (· < ·):=by
  rw[List.pairwise_map];exact K0.imp λh=>Int.mul_lt_mul_of_pos_right h c0
 have e2:sortI (dG ((((List.range (n+1)).map (pre p)).map λx=>cK W (x % W)).map (·.1)))=(bE W p).map λy=>y*(2520 / W):=by
  refine Z_ ?_ (fP _) (rs.imp λh=>aal h);refine(sortI_perm _).trans ?_;rw[e1];obtain⟨d1,d2⟩:=iu (((List.range (n+1)).map (pre p)).map λx=>(x % W)*(2520 / W)) [] YS;refine(Zj d1 (rs.imp λh=>Int.ne_of_lt h)).mpr λx=>(d2 x).trans ?_;rw[List.map_map,List.mem_map,List.mem_map];constructor
  ·rintro (z|⟨h,hh,rfl⟩)
   ·cases z
   ·exact⟨_,(mem _).mp ⟨h,List.mem_range.mp hh,rfl⟩,rfl⟩
  ·rintro ⟨y,hy,rfl⟩;obtain⟨h,hh,rfl⟩:=(mem y).mpr hy;exact .inr ⟨h,List.mem_range.mpr hh,rfl⟩
 unfold iR;rw[e2,List.map_map];refine Yy λy hy=>?_;obtain⟨h,hh,rfl⟩:=(mem y).mpr hy;have hm:cK W (pre p h % W)∈((List.range (n+1)).map (pre p)).map λx=>cK W (x % W):=by
  rw[List.map_map];exact List.mem_map.mpr ⟨h,List.mem_range.mpr hh,rfl⟩
 have:=k7 (cs:=((List.range (n+1)).map (pre p)).map λx=>cK W (x % W)) (λx y hx hy=>map_inj ye x y (by
  rw[List.map_map]at hx;obtain⟨i,hi,rfl⟩:=List.mem_map.mp hx;exact(K i (List.mem_range.mp hi)).mem) (by
  rw[List.map_map]at hy;obtain⟨i,hi,rfl⟩:=List.mem_map.mp hy;exact(K i (List.mem_range.mp hi)).mem)) hm
 rw[(K h hh).fst]at this;show((pre p h % W)*(2520 / W),wo _ ((pre p h % W)*(2520 / W)))=_;rw[this,<- (K h hh).fst]
noncomputable def BM:aj:=[.app 1 (.call 202 [(.ix (.v 1) (.neg (.int 1))),(.v 2)])]
def cB(p:aa)(n:Nat):aa:=(List.range n).map (pre p)
theorem qB(p:aa)(n:Nat):cB p (n+1)=cB p n++[pre p n]:=by unfold cB;rw[List.range_succ,List.map_append];rfl
theorem oz(p:aa)(n:Nat):(cB p n).length=n:=by simp[cB]
theorem fT(W:Int)(l:aa)(x:Int):aR (toQ W (l++[x]))=aR (toQ W l)++[qD (qW W x)]:=by unfold aR toQ;rw[List.map_append,List.map_append];rfl
theorem DP(ds:ae)(d:D):kH (ds++[d]) (-1)=ok (aZ bH d):=by
 have e:nq (ds++[d]).length (-1)=some ds.length:=by
  unfold nq;rw[if_neg (by decide),if_pos (by simp;left)];congr 1;simp;left
 unfold kH;rw[e,Option.bind_some,List.getElem?_append_right (Nat.le_refl _),Nat.sub_self];rfl
theorem vy(Φ:aX)(s9:A4 (Φ 202)){n s:Nat}{W:Int}{p:aa}(I:pQ n s W p)(h9:W<=9)(n7:n<=7)(c0 c3 c4 c5 c6 c7 c8 c9 gk eK eC:aI):∀(k i:Nat) (c2:aI),i+k=n ->
  ∃Sw,dW (λd ρ=>cg (.nm 2) d ρ) (λρ=>bw Φ BM ρ) (aR (toQ W (p.drop i))) [c0,some (.lst .ow (aR (toQ W (cB p (i+1))))),c2,c3,c4,c5,c6,c7,c8,c9,gk,eK,eC]=ok (.nx,[c0,some (.lst .ow (aR (toQ W (cB p (n+1))))),Sw,c3,c4,c5,c6,c7,c8,c9,gk,eK,eC])
 |0,i,c2,h=>by
  have:i=n:=by left
  subst this;rw[<- I.len,List.drop_length];exact⟨c2,rfl⟩
 |k+1,i,c2,h=>by
  have hl:=I.len;have hi:i<p.length:=by left
  obtain⟨Sw,ih⟩:=vy Φ s9 I h9 n7 c0 c3 c4 c5 c6 c7 c8 c9 gk eK eC k (i+1) (some (qD (qW W (bA p i)))) (by left);refine⟨Sw,?_⟩;have e0:p.drop i=bA p i::p.drop (i+1):=by
   rw[List.drop_eq_getElem_cons hi];congr 1;unfold bA;rw[Int.toNat_natCast,List.getD_eq_getElem?_getD,List.getElem?_eq_getElem hi];rfl
  rw[e0];show dW _ _ (qD (qW W (bA p i))::aR (toQ W (p.drop (i+1)))) _=_;obtain⟨a,b⟩:=I.fV (h:=i) (by left);have b':(i:Int)*W<=7*9:=YY (by left) h9 (by have:=I.W0;left) (by decide);have c:=I.lo i (by left);have d:=I.hi i (by left);have e:=s9 (qW W (pre p i)) (qW W (bA p i)) (iS I.W0 h9 ⟨by left,by left⟩) (iS I.W0 h9 ⟨by left,by left⟩);rw[oq I.W0,<- fU hi]at e;refine gf (ρ1:=[c0,some (.lst .ow (aR (toQ W (cB p (i+1))))),some (qD (qW W (bA p i))),c3,c4,c5,c6,c7,c8,c9,gk,eK,eC]) (by simp) (ρ2:=[c0,some (.lst .ow (aR (toQ W (cB p (i+1+1))))),some (qD (qW W (bA p i))),c3,c4,c5,c6,c7,c8,c9,gk,eK,eC]) ?_ ih;rw[qB p (i+1),fT];have la:kH (aR (toQ W (cB p (i+1)))) (-1)=ok (qD (qW W (pre p i))):=by rw[qB,fT,DP];simp
  have hc:(cB p (i+1)).length<eO:=by rw[oz];show _<1000000;left
  generalize cB p (i+1)=l at *;simp[BM,la,e,hc]
noncomputable def Dt:CE:=.comp 1 (.nm 0) [] .seq [(.v 1)] [] (.tup [(.bin .fdiv (.bin .mul (.bin .mod (.ix (.v 0) (.int 0)) (.ix (.v 0) (.int 1))) (.int 2520)) (.ix (.v 0) (.int 1))),(.tup [(.bin .mod (.ix (.v 0) (.int 0)) (.ix (.v 0) (.int 1))),(.ix (.v 0) (.int 1))])])
noncomputable def IV:CE:=.comp 2 (.tp [0,1]) [] .seq [(.cj 1072 [(.v 3)])] [] (.v 1)
theorem lr(g:Fl->Fl)(cs:List NK):aD g (cs.map ej)=cs.map ej:=bX g (e:=ej) (λc=>by simp[ej,cX]) cs
theorem Lc(Φ:aX){n s:Nat}{p:aa}(I:pQ n s W p)(h9:W<=9)(n7:n<=7)(c0 c2 c3 c4 c5 c6 c7 c8 c9 gk eK eC:aI):bj Φ Dt [c0,some (.lst .ow (aR (toQ W (cB p (n+1))))),c2,c3,c4,c5,c6,c7,c8,c9,gk,eK,eC]=ok (.lst .ow (((cB p (n+1)).map λx=>cK W (x % W)).map ej)):=by
 unfold Dt;rw[eI (xs:=[.lst .al (aR (toQ W (cB p (n+1))))]) (items:=(List.range (n+1)).map λh=>qD (qW W (pre p h))) (ds:=(List.range (n+1)).map λh=>ej (cK W (pre p h % W))) (by simp) (by rw[eA];simp;unfold aR toQ cB;rw[List.map_map,List.map_map];rfl) (cV λh hh=>⟨[some (qD (qW W (pre p h)))],by simp[bK],by simp,?_⟩) (by rw[List.length_map,List.length_range];exact dg (by left))]
 ·have e:((List.range (n+1)).map λh=>ej (cK W (pre p h % W)))=((cB p (n+1)).map λx=>cK W (x % W)).map ej:=by unfold cB;rw[List.map_map,List.map_map];rfl
  rw[e,lr]
 ·have hh:=List.mem_range.mp hh;obtain⟨a,b⟩:=I.fV (h:=h) (by left);have b':(h:Int)*W<=7*9:=YY (by left) h9 (by have:=I.W0;left) (by decide);have K:=Kc I.W0 h9 a (show pre p h<64 by left);have hd:(qW W (pre p h)).den<=9:=by
   rw[K.den];have:=(show ∀W:Fin 10,W.val≠0->∀x:Fin 10,(qW W.val x.val).den<=9 by decide +kernel) ⟨W.toNat,by have:=I.W0;left⟩ (by show W.toNat≠0;have:=I.W0;left) ⟨(pre p h % W).toNat,by have:=Zu (pre p h) I.W0;left⟩
   dsimp only at this
   rwa [show((W.toNat:Nat):Int)=W by have:=I.W0;left,show(((pre p h % W).toNat:Nat):Int)=pre p h % W by have:=Int.emod_nonneg (pre p h) (show W≠0 by have:=I.W0;left);left]at this
  have hp:=(qW W (pre p h)).den_pos;have m1:bV .mod (.int (qW W (pre p h)).num) (.int ((qW W (pre p h)).den:Int))=ok (.int (qW W (pre p h % W)).num):=by
   rw[l7 (by left),o6 (by left),K.num]
  have m2:bV .fdiv (.int ((qW W (pre p h % W)).num*2520)) (.int ((qW W (pre p h)).den:Int))=ok (.int (cK W (pre p h % W)).1):=by
   rw[gn (dk (by left) (ig (by left))),Int.fdiv_eq_ediv_of_nonneg _ (by left),K.den];rfl
  have ek:ej (cK W (pre p h % W))=.tup [.int (cK W (pre p h % W)).1,.tup [.int (qW W (pre p h % W)).num,.int ((qW W (pre p h)).den:Int)]]:=by
   rw[K.den];rfl
  rw[ek];generalize (cK W (pre p h % W)).1=z1 at *;generalize (qW W (pre p h % W)).num=z2 at *;simp[m1,m2]
theorem LL(Φ:aX)(Ah:Φ 1072=wm){n s:Nat}{p:aa}(I:pQ n s W p)(n1:1<=n)(h9:W<=9)(n7:n<=7)(c0 c1 c2 c4 c5 c6 c7 c8 c9 gk eK eC:aI):bj Φ IV [c0,c1,c2,some (.lst .ow (((cB p (n+1)).map λx=>cK W (x % W)).map ej)),c4,c5,c6,c7,c8,c9,gk,eK,eC]=ok (.lst .ow (aR (toQ W (bE W p)))):=by
 unfold IV;have hu:∀c∈(cB p (n+1)).map (λx=>cK W (x % W)),c∈univ:=λc hc=>by
  obtain⟨x,hx,rfl⟩:=List.mem_map.mp hc;obtain⟨h,hh,rfl⟩:=List.mem_map.mp hx;have hh:=List.mem_range.mp hh;obtain⟨a,b⟩:=I.fV (h:=h) (by left);have b':(h:Int)*W<=7*9:=YY (by left) h9 (by have:=I.W0;left) (by decide);exact(Kc I.W0 h9 a (show pre p h<64 by left)).mem
 have e1:∀f,Φ 1072 [.lst f (((cB p (n+1)).map λx=>cK W (x % W)).map ej)]=ok (.lst .ow (((bE W p).map (cK W)).map ej)):=λf=>by
  rw[Ah];show(match oH (((cB p (n+1)).map λx=>cK W (x % W)).map ej)with|some cs=>if cs.length<=8/\∀c∈cs,c∈univ then ok (D.lst .ow ((iR cs).map ej))else none|none=>none)=_;rw[qI];show(if _ then _ else _)=_;rw[if_pos ⟨by rw[List.length_map,oz];left,hu⟩,show cB p (n+1)=(List.range (n+1)).map (pre p) from rfl,BX I n1 h9 n7]
 have tl:=gA W p;rw[I.len]at tl;rw[eI (xs:=[.lst .ow (((bE W p).map (cK W)).map ej)]) (items:=(bE W p).map λy=>ej (cK W y)) (ds:=(bE W p).map λy=>qD (qW W y)) (by
  have h3:bj Φ (.v 3) [c0,c1,c2,some (.lst .ow (((cB p (n+1)).map λx=>cK W (x % W)).map ej)),c4,c5,c6,c7,c8,c9,gk,eK,eC]=ok (.lst .al (((cB p (n+1)).map λx=>cK W (x % W)).map ej)):=by
   show ok (aZ bH (.lst .ow _))=_;rw[zt,lr];rfl
  generalize (((cB p (n+1)).map λx=>cK W (x % W)).map ej)=L1 at *;generalize (((bE W p).map (cK W)).map ej)=L2 at *;show bd (bd (cc Φ [.v 3] _) (Φ 1072)) _=_;have h4:cc Φ [.v 3] [c0,c1,c2,some (.lst .ow L1),c4,c5,c6,c7,c8,c9,gk,eK,eC]=ok [.lst .al L1]:=by
   show bd (bj Φ (.v 3) _) _=_;rw[h3];rfl
  rw[h4,cG,e1];rfl) (by rw[eA,lr,List.map_map];rfl) (cV λy hy=>⟨[some (.int (cK W y).1),some (qD (qW W y))],by simp[bK,ej,cK,cX,qD],by simp,by simp⟩) (by rw[List.length_map];exact dg (by left))]
 have e:((bE W p).map λy=>qD (qW W y))=aR (toQ W (bE W p)):=by unfold aR toQ;rw[List.map_map];rfl
 rw[e];simp
theorem Gm(h0:0<W)(x:Int):qW W x=qW (2*W) (2*x):=by
 unfold qW;exact(aas (by decide)).symm
theorem yM(k:Int):qW 1 k=(k:Rat):=by
 unfold qW;rw[Rat.divInt_eq_div];grind
theorem K9(h0:0<W)(m k:Int):qW (2*W) m+(k:Rat)=qW (2*W) (m+2*(W*k)):=by
 rw[<- oq (show 0<2*W by left),<- yM];congr 1;rw[show 2*(W*k)=2*W*k by rw[Int.mul_assoc]];unfold qW;have:=aas (n:=k) (d:=1) (a:=2*W) (by left);rw[Int.mul_one]at this;exact this.symm
theorem yy{V x:Int}(h0:0<V)(Ux:V<=18)(h1:-200<=x)(h2:x<=200):Sm 4000 (qW V x):=(uh (k:=8) (by left) (by show _<256;left) (by show _<256;left)).mono (by decide)
structure xA(Φ:aX):Prop where
 P:Br Φ
 s9:A4 (Φ 202)
 RR:vX (Φ 203)
 RP:A7 (Φ 222)
 RO:v5 (Φ 223)
 Ah:Φ 1072=wm
noncomputable def yp:aj:=[.asg (.nm 12) (.call 202 [(.v 7),(.tup [(.v 11),(.int 1)])]),.asg (.nm 10) (.or [(.v 10),(.and [(.not (.call 223 [(.v 12),(.ix (.v 1) (.v 9))])),(.call 223 [(.v 12),(.ix (.v 1) (.bin .add (.v 9) (.int 1)))])])])]
def DF(W:Int)(p:aa)(m:Int)(h k:Nat):Bool:=decide (2*pre p h<=m+2*(W*k))&&decide (m+2*(W*k)<2*pre p (h+1))
theorem AW(W:Int)(p:aa){n h:Nat}(hh:h<n):kH (aR (toQ W (cB p n))) (h:Int)=ok (qD (qW W (pre p h))):=by
 have e:(aR (toQ W (cB p n)))[h]?=some (qD (qW W (pre p h))):=by
  unfold aR toQ cB;rw[List.getElem?_map,List.getElem?_map,List.getElem?_map,List.getElem?_range hh];rfl
 unfold kH;rw[sP (by left) (by simp[oz];left),Int.toNat_natCast,Option.bind_some,e];simp
theorem t7(Φ:aX)(Q:xA Φ){n s:Nat}{W:Int}{p:aa}(I:pQ n s W p)(h9:W<=9)(n7:n<=7){m:Int}(m0:0<=m)(m1:m<=18){h:Nat}(hh:h<n)(c0 c2 c3 c4 c5 c6 c8:aI):∀(k j:Nat) (b:Bool) (eK eC:aI),j+k<=8 ->
  ∃pG pF,dW (λd ρ=>cg (.nm 11) d ρ) (λρ=>bw Φ yp ρ) ((List.range' j k).map λ(i:Nat)=>D.int (i:Int)) [c0,some (.lst .ow (aR (toQ W (cB p (n+1))))),c2,c3,c4,c5,c6,some (qD (qW (2*W) m)),c8,some (.int h),some (.bl b),eK,eC]=ok (.nx,[c0,some (.lst .ow (aR (toQ W (cB p (n+1))))),c2,c3,c4,c5,c6,some (qD (qW (2*W) m)),c8,some (.int h),some (.bl (b||(List.range' j k).any (DF W p m h))),pG,pF])
 |0,j,b,eK,eC,_=>⟨eK,eC,by simp[dW]⟩
 |k+1,j,b,eK,eC,hj=>by
  obtain⟨Bo,Bn,ih⟩:=t7 Φ Q I h9 n7 m0 m1 hh c0 c2 c3 c4 c5 c6 c8 k (j+1) (b||DF W p m h j) (some (.int j)) (some (qD (qW (2*W) (m+2*(W*j))))) (by left);refine⟨Bo,Bn,?_⟩;have h0:=I.W0;have wj:W*(j:Int)<=9*7:=YY h9 (by left) (by left) (by decide);have X3:0<=W*(j:Int):=aaw (by left) (by left);have e1:=Q.s9 (qW (2*W) m) ((j:Int):Rat) (yy (by left) (by left) (by left) (by left)) (by rw[<- yM];exact yy (by decide) (by decide) (by left) (by left));rw[K9 h0]at e1;have bp:∀i:Nat,i<=n->0<=pre p i/\pre p i<=63:=λi hi=>by
   obtain⟨a,b⟩:=I.fV hi;have b':(i:Int)*W<=7*9:=YY (by left) h9 (by left) (by decide);exact⟨a,by left⟩
  have e2:∀i:Nat,i<=n->Φ 223 [qD (qW (2*W) (m+2*(W*j))),qD (qW W (pre p i))]=ok (.bl (decide (m+2*(W*j)<2*pre p i))):=λi hi=>by
   obtain⟨a,b⟩:=bp i hi;rw[Q.RO _ _ (yy (by left) (by left) (by left) (by left)) (iS h0 h9 ⟨by left,by left⟩),Gm h0 (pre p i)];congr 2;exact decide_eq_decide.mpr (Gk (by left))
  have a1:=AW W p (n:=n+1) (h:=h) (by left);have a2:=AW W p (n:=n+1) (h:=h+1) (by left);rw[show((h+1:Nat):Int)=(h:Int)+1 by left]at a2;have f1:=e2 h (by left);have f2:=e2 (h+1) (by left);have ec:DF W p m h j=(!decide (m+2*(W*j)<2*pre p h)&&decide (m+2*(W*j)<2*pre p (h+1))):=by
   unfold DF;congr 1;by_cases c:m+2*(W*j)<2*pre p h
   ·rw[decide_eq_true c,decide_eq_false (by left)];rfl
   ·rw[decide_eq_false c,decide_eq_true (by left)];rfl
  rw[List.range'_succ,List.map_cons,List.any_cons,<- Bool.or_assoc];refine gf (ρ1:=[c0,some (.lst .ow (aR (toQ W (cB p (n+1))))),c2,c3,c4,c5,c6,some (qD (qW (2*W) m)),c8,some (.int h),some (.bl b),some (.int j),eC]) (by simp) (ρ2:=[c0,some (.lst .ow (aR (toQ W (cB p (n+1))))),c2,c3,c4,c5,c6,some (qD (qW (2*W) m)),c8,some (.int h),some (.bl (b||DF W p m h j)),some (.int j),some (qD (qW (2*W) (m+2*(W*j))))]) ?_ ih;rw[ec];generalize toQ W (cB p (n+1))=L at *;generalize decide (m+2*(W*j)<2*pre p h)=x1 at *;generalize decide (m+2*(W*j)<2*pre p (h+1))=x2 at *;cases b<;>cases x1<;>cases x2<;>simp[yp,Gn,e1,a1,a2,f1,f2,tj,lP]
noncomputable def ft:aj:=[.asg (.nm 10) (.bl false)]
def jy:aj:=[.fr (.nm 11) (.jr (.bin .add (.bf .len [(.v 0)]) (.int 1))) yp]
noncomputable def ny:aj:=[.ifs (.v 10) [.app 8 (.v 9)] []]
def we:aj:=ft++(jy++ny)
def mC(W:Int)(p:aa)(m:Int)(n h:Nat):Bool:=(List.range (n+1)).any (DF W p m h)
def sM(W:Int)(p:aa)(m:Int)(n j k:Nat):aa:=((List.range' j k).filter (mC W p m n)).map λ(h:Nat)=>(h:Int)
variable {qs:aL}
theorem CY(Φ:aX)(Q:xA Φ){n s:Nat}{p:aa}(I:pQ n s W p)(h9:W<=9)(n7:n<=7){m:Int}(m0:0<=m)(m1:m<=18)(hq:qs.length=n)(c2 c3 c4 c5 c6:aI){j:Nat}(hj:j<n){lot:aa}(hl:lot.length<=j)(gk eK eC:aI):
  ∃pG pF,bw Φ we [some (.lst .fz (aR qs)),some (.lst .ow (aR (toQ W (cB p (n+1))))),c2,c3,c4,c5,c6,some (qD (qW (2*W) m)),some (.lst .ow (ah lot)),some (.int j),gk,eK,eC]=ok (.nx,[some (.lst .fz (aR qs)),some (.lst .ow (aR (toQ W (cB p (n+1))))),c2,c3,c4,c5,c6,some (qD (qW (2*W) m)),some (.lst .ow (ah (if mC W p m n j then lot++[(j:Int)]else lot))),some (.int j),some (.bl (mC W p m n j)),pG,pF]):=by
 obtain⟨Bo,Bn,el⟩:=t7 Φ Q I h9 n7 m0 m1 hj (some (.lst .fz (aR qs))) c2 c3 c4 c5 c6 (some (.lst .ow (ah lot))) (n+1) 0 false eK eC (by left);rw[<- List.range_eq_range',Bool.false_or,show(List.range (n+1)).any (DF W p m j)=mC W p m n j from rfl]at el;refine⟨Bo,Bn,?_⟩;have hc:lot.length<eO:=by show _<1000000;left
 generalize mC W p m n j=mb at el ⊢;generalize toQ W (cB p (n+1))=L at el ⊢;generalize qD (qW (2*W) m)=z at el ⊢;have hit:=zN (Φ:=Φ) (a:=.bin .add (.bf .len [(.v 0)]) (.int 1)) (ρ:=[some (.lst .fz (aR qs)),some (.lst .ow (aR L)),c2,c3,c4,c5,c6,some z,some (.lst .ow (ah lot)),some (.int j),some (.bl false),eK,eC]) (n:=((n+1:Nat):Int)) (by simp[hq]) (by omega) (by omega);rw[Int.toNat_natCast]at hit;have hf:=iJ (Φ:=Φ) (t:=.nm 11) (b:=yp) hit el;have s1:bw Φ ft [some (.lst .fz (aR qs)),some (.lst .ow (aR L)),c2,c3,c4,c5,c6,some z,some (.lst .ow (ah lot)),some (.int j),gk,eK,eC]=ok (.nx,[some (.lst .fz (aR qs)),some (.lst .ow (aR L)),c2,c3,c4,c5,c6,some z,some (.lst .ow (ah lot)),some (.int j),some (.bl false),eK,eC]):=by simp[ft]
 have s2:∀ρ ρ',kr Φ (.fr (.nm 11) (.jr (.bin .add (.bf .len [(.v 0)]) (.int 1))) yp) ρ=ok (.nx,ρ')->bw Φ jy ρ=ok (.nx,ρ'):=λρ ρ' h=>by
  rw[jy,eF,h];rfl
 rw[we,cM Φ _ _ _ _ s1,cM Φ _ _ _ _ (s2 _ _ hf)];clear hf hit el s1 s2;cases mb<;>simp[ny,hc]
theorem vf(Φ:aX)(Q:xA Φ){n s:Nat}{W:Int}{p:aa}(I:pQ n s W p)(h9:W<=9)(n7:n<=7){m:Int}(m0:0<=m)(m1:m<=18){qs:aL}(hq:qs.length=n)(c2 c3 c4 c5 c6:aI):∀(k j:Nat) (lot:aa) (c9 gk eK eC:aI),j+k=n->lot.length<=j ->
  ∃DL AS pG pF,dW (λd ρ=>cg (.nm 9) d ρ) (λρ=>bw Φ we ρ) ((List.range' j k).map λ(i:Nat)=>D.int (i:Int)) [some (.lst .fz (aR qs)),some (.lst .ow (aR (toQ W (cB p (n+1))))),c2,c3,c4,c5,c6,some (qD (qW (2*W) m)),some (.lst .ow (ah lot)),c9,gk,eK,eC]=ok (.nx,[some (.lst .fz (aR qs)),some (.lst .ow (aR (toQ W (cB p (n+1))))),c2,c3,c4,c5,c6,some (qD (qW (2*W) m)),some (.lst .ow (ah (lot++sM W p m n j k))),DL,AS,pG,pF])
 |0,j,lot,c9,gk,eK,eC,_,_=>⟨c9,gk,eK,eC,by rw[show sM W p m n j 0=[] from rfl,List.append_nil];rfl⟩
 |k+1,j,lot,c9,gk,eK,eC,hj,hl=>by
  obtain⟨Bo,Bn,e1⟩:=CY Φ Q I h9 n7 m0 m1 hq c2 c3 c4 c5 c6 (j:=j) (by left) hl gk eK eC;have O3:lot++sM W p m n j (k+1)=(if mC W p m n j then lot++[(j:Int)]else lot)++sM W p m n (j+1) k:=by
   unfold sM;rw[List.range'_succ,List.filter_cons];split<;>simp
  have MC:(if mC W p m n j then lot++[(j:Int)]else lot).length<=j+1:=by
   split
   ·rw[List.length_append,List.length_singleton];left
   ·left
  rw[O3,List.range'_succ,List.map_cons];generalize (if mC W p m n j then lot++[(j:Int)]else lot)=lot2 at *;generalize mC W p m n j=mb at *;obtain⟨e9,Nq,Xu,Xt,ih⟩:=vf Φ Q I h9 n7 m0 m1 hq c2 c3 c4 c5 c6 k (j+1) lot2 (some (.int j)) (some (.bl mb)) Bo Bn (by omega) MC;refine⟨e9,Nq,Xu,Xt,?_⟩;exact gf (by simp) e1 ih
theorem zy{n s:Nat}{p:aa}(I:pQ n s W p){t u:Int}(hz:(t,u)∈dt W (bE W p)):sM W p (t+u) n 0 n=b6 W p t:=by
 unfold sM b6 yc;rw[<- List.range_eq_range',I.len,List.filter_map];congr 1;refine List.filter_congr λh hh=>?_;have hh:=List.mem_range.mp hh;have hl:=I.len;show mC W p (t+u) n h=decide ((t - bA (cW p) (h:Int)) % W<bA p (h:Int));rw[sh (by left) (by left),Int.toNat_natCast];have:=I.met hz hh;by_cases c:(t - pre p h) % W<bA p h
 ·rw[decide_eq_true c];obtain⟨k,k1,k2,k3⟩:=this.mpr c;refine List.any_eq_true.mpr ⟨k,List.mem_range.mpr k1,?_⟩;unfold DF;rw[decide_eq_true k2,decide_eq_true k3];rfl
 ·rw[decide_eq_false c];refine List.any_eq_false.mpr λk hk q=>c (this.mp ⟨k,List.mem_range.mp hk,?_⟩);unfold DF at q;simpa using q
noncomputable def xr(W:Int)(T:aa)(i:Nat):Int:=(T++[W]).getD i 0
theorem oj(W:Int):∀T:aa,dt W T=(List.range T.length).map λi=>(xr W T i,xr W T (i+1))
 |[]=>rfl
 |t::T=>by
  rw[dt,oj W T,List.length_cons,List.range_succ_eq_map,List.map_cons,List.map_map];congr 1;show(t,T.headD W)=(t,(T++[W]).getD 0 0)
  cases T<;>rfl
theorem Fc(W:Int)(T:aa){i:Nat}(hi:i<T.length+1):kH (aR (toQ W (T++[W]))) (i:Int)=ok (qD (qW W (xr W T i))):=by
 have fb:i<(T++[W]).length:=by simpa using hi
 have e:(aR (toQ W (T++[W])))[i]?=some (qD (qW W (xr W T i))):=by
  unfold aR toQ xr;rw[List.getElem?_map,List.getElem?_map,List.getD_eq_getElem?_getD,List.getElem?_eq_getElem fb];rfl
 unfold kH;rw[sP (by left) (by simp;left),Int.toNat_natCast,Option.bind_some,e];simp
noncomputable def Jj:aj:=[.asg (.nm 7) (.call 203 [(.tup [(.int 1),(.int 2)]),(.call 202 [(.ix (.v 4) (.v 6)),(.ix (.v 4) (.bin .add (.v 6) (.int 1)))])]),.asg (.nm 8) (.lst [])]
def Ji:aj:=[.fr (.nm 9) (.jr (.bf .len [(.v 0)])) we]
noncomputable def NL:aj:=[.mut 1033 5 [(.call 202 [(.cj 1031 [(.v 5),(.bf .tuple1 [(.v 8)]),(.tup [(.int 0),(.int 1)])]),(.call 222 [(.ix (.v 4) (.bin .add (.v 6) (.int 1))),(.ix (.v 4) (.v 6))])]),(.bf .tuple1 [(.v 8)])]]
def yq:aj:=Jj++(Ji++NL)
def lT(W:Int)(p T:aa)(i:Nat):aa×Int:=(b6 W p (xr W T i),xr W T (i+1) - xr W T i)
theorem HX:D.tup [.int 1,.int 2]=qD (qW 2 1):=by rfl
theorem Cc(h0:0<W)(x:Int):qW 2 1*qW W x=qW (2*W) x:=by
 unfold qW;rw[Rat.divInt_mul_divInt,Int.one_mul]
theorem Hl(Φ:aX)(Q:xA Φ){n s:Nat}{p:aa}(I:pQ n s W p)(h9:W<=9)(n7:n<=7)(hq:qs.length=n)(c2 c3 c7 c8 c9 gk eK eC:aI){j:Nat}(hj:j<(bE W p).length){ks:aq}{w:aa->Int}(hk:ks.length<900)(hS:∀k,k∉ks->w k=0)(hb:∀l,Bd (w l)):
  ∃xo NF DL AS pG pF,bw Φ yq [some (.lst .fz (aR qs)),some (.lst .ow (aR (toQ W (cB p (n+1))))),c2,c3,some (.lst .ow (aR (toQ W (bE W p++[W])))),some (tQ .ow ks λl=>qW W (w l)),some (.int j),c7,c8,c9,gk,eK,eC]=ok (.nx,[some (.lst .fz (aR qs)),some (.lst .ow (aR (toQ W (cB p (n+1))))),c2,c3,some (.lst .ow (aR (toQ W (bE W p++[W])))),some (tQ .ow (bc ks (lT W p (bE W p) j).1) λl=>qW W (cO w (lT W p (bE W p) j).1 (lT W p (bE W p) j).2 l)),some (.int j),xo,NF,DL,AS,pG,pF])/\0<=(lT W p (bE W p) j).2/\(lT W p (bE W p) j).2<=9:=by
 have h0:=I.W0;have hlen:=I.len;have n1:1<=p.length:=by
  cases e:p with
  |nil=>rw[e]at hj;have:=gA W [];simp at this;rw[this]at hj;simp at hj
  |cons x l=>simp
 have hz:(xr W (bE W p) j,xr W (bE W p) (j+1))∈dt W (bE W p):=by
  rw[oj];exact List.mem_map.mpr ⟨j,List.mem_range.mpr hj,rfl⟩
 have ll:=zy I hz;obtain⟨T,eT,rise,top,_⟩:=kU h0 (p:=p) n1;have T7:=hz;rw[eT]at T7;obtain⟨m1,tu,uW,_⟩:=oi T 0 rise top _ T7;rw[<- eT]at m1 tu uW;dsimp only at m1 tu uW;have t0:0<=xr W (bE W p) j:=by
  rw[oM]at m1;obtain⟨h,_,e⟩:=m1;rw[e];exact Zv _ (by left)
 have a1:=Fc W (bE W p) (i:=j) (by left);have a2:=Fc W (bE W p) (i:=j+1) (by left);rw[show((j+1:Nat):Int)=(j:Int)+1 by left]at a2;unfold lT;dsimp only;generalize xr W (bE W p) j=t at *;generalize xr W (bE W p) (j+1)=u at *;have e1:=Q.s9 (qW W t) (qW W u) (iS h0 h9 ⟨by left,by left⟩) (iS h0 h9 ⟨by left,by left⟩);rw[oq h0]at e1;have e2:=Q.RR (qW 2 1) (qW W (t+u)) (yy (by decide) (by decide) (by decide) (by decide)) (yy h0 (by left) (by left) (by left));rw[Cc h0]at e2;have e3:=Q.RP (qW W u) (qW W t) (iS h0 h9 ⟨by left,by left⟩) (iS h0 h9 ⟨by left,by left⟩);rw[Gj h0]at e3;obtain⟨d9,O4,Bo,Bn,el⟩:=vf Φ Q I h9 n7 (m:=t+u) (by left) (by left) hq c2 c3 (some (.lst .ow (aR (toQ W (bE W p++[W]))))) (some (tQ .ow ks λl=>qW W (w l))) (some (.int j)) n 0 [] c9 gk eK eC (by left) (by simp);rw[<- List.range_eq_range',List.nil_append,ll]at el;have hit:=zN (Φ:=Φ) (a:=.bf .len [(.v 0)]) (ρ:=[some (.lst .fz (aR qs)),some (.lst .ow (aR (toQ W (cB p (n+1))))),c2,c3,some (.lst .ow (aR (toQ W (bE W p++[W])))),some (tQ .ow ks λl=>qW W (w l)),some (.int j),some (qD (qW (2*W) (t+u))),some (.lst .ow (ah [])),c9,gk,eK,eC]) (n:=(n:Int)) (by simp[hq]) (by left) (by left);rw[Int.toNat_natCast]at hit;have hf:=iJ (Φ:=Φ) (t:=.nm 9) (b:=we) hit el;generalize Wh:b6 W p t=lot at *;have g1:∀f,Φ 1031 [tQ f ks λl=>qW W (w l),.tup (ah lot),qD 0]=ok (qD (qW W (w lot))):=λf=>Kj Q.P (e:=qD) (lI anyF) f ks (λl=>qW W (w l)) 0 lot (λh=>by
  show qW W (w lot)=0;rw[hS lot h,K_ h0])
 have a3:=Q.s9 (qW W (w lot)) (qW W (u - t)) (iS h0 h9 (hb lot)) (iS h0 h9 ⟨by left,by left⟩);rw[oq h0]at a3;have g2:Φ 1033 [tQ .ow ks λl=>qW W (w l),qD (qW W (w lot+(u - t))),.tup (ah lot)]=ok (tQ .ow (bc ks lot) λl=>qW W (cO w lot (u - t) l)):=by
  have:=Kg Q.P (e:=qD) (lI anyF) (by left) (λl=>qW W (w l)) lot (qW W (w lot+(u - t))) (ks:=ks);unfold tQ;rw[this];congr 2;refine Yy λk _=>?_;show qD (if k=lot then qW W (w lot+(u - t))else qW W (w k))=qD (qW W (if k=lot then w k+(u - t)else w k));by_cases h:k=lot
  ·rw[if_pos h,if_pos h,h]
  ·rw[if_neg h,if_neg h]
 have x1:=rT (Φ:=Φ) (p:=1033) (i:=5) (es:=[(.call 202 [(.cj 1031 [(.v 5),(.bf .tuple1 [(.v 8)]),(.tup [(.int 0),(.int 1)])]),(.call 222 [(.ix (.v 4) (.bin .add (.v 6) (.int 1))),(.ix (.v 4) (.v 6))])]),(.bf .tuple1 [(.v 8)])]) (ρ:=[some (.lst .fz (aR qs)),some (.lst .ow (aR (toQ W (cB p (n+1))))),c2,c3,some (.lst .ow (aR (toQ W (bE W p++[W])))),some (tQ .ow ks λl=>qW W (w l)),some (.int j),some (qD (qW (2*W) (t+u))),some (.lst .ow (ah lot)),d9,O4,Bo,Bn]) (xs:=[qD (qW W (w lot+(u - t))),.tup (ah lot)]) (by
  generalize toQ W (bE W p++[W])=M at *;simp[kg,Ez,g1,a1,a2,a3,e3]) (by simp) rfl g2
 simp only[List.set]at x1;refine⟨some (qD (qW (2*W) (t+u))),some (.lst .ow (ah lot)),d9,O4,Bo,Bn,?_,by left,by left⟩;have s1:bw Φ Jj [some (.lst .fz (aR qs)),some (.lst .ow (aR (toQ W (cB p (n+1))))),c2,c3,some (.lst .ow (aR (toQ W (bE W p++[W])))),some (tQ .ow ks λl=>qW W (w l)),some (.int j),c7,c8,c9,gk,eK,eC]=ok (.nx,[some (.lst .fz (aR qs)),some (.lst .ow (aR (toQ W (cB p (n+1))))),c2,c3,some (.lst .ow (aR (toQ W (bE W p++[W])))),some (tQ .ow ks λl=>qW W (w l)),some (.int j),some (qD (qW (2*W) (t+u))),some (.lst .ow (ah [])),c9,gk,eK,eC]):=by
  clear x1 hf hit el;generalize toQ W (bE W p++[W])=M at *;simp[Jj,HX,a1,a2,e1,e2]
 have s2:∀ρ ρ',kr Φ (.fr (.nm 9) (.jr (.bf .len [(.v 0)])) we) ρ=ok (.nx,ρ')->bw Φ Ji ρ=ok (.nx,ρ'):=λρ ρ' h=>by
  rw[Ji,eF,h];rfl
 rw[yq,cM Φ _ _ _ _ s1,cM Φ _ _ _ _ (s2 _ _ hf),NL,eF,x1];rfl
theorem uZ(Φ:aX)(Q:xA Φ){n s:Nat}{W:Int}{p:aa}(I:pQ n s W p)(h9:W<=9)(n7:n<=7){qs:aL}(hq:qs.length=n)(c2 c3:aI):∀(k j:Nat) (ks:aq) (w:aa->Int) (c6 c7 c8 c9 gk eK eC:aI),j+k=(bE W p).length->ks.length+k<900->(∀l,l∉ks->w l=0)->(∀l,0<=w l/\w l<=9*j) ->
  ∃Sv xo NF DL AS pG pF,dW (λd ρ=>cg (.nm 6) d ρ) (λρ=>bw Φ yq ρ) ((List.range' j k).map λ(i:Nat)=>D.int (i:Int)) [some (.lst .fz (aR qs)),some (.lst .ow (aR (toQ W (cB p (n+1))))),c2,c3,some (.lst .ow (aR (toQ W (bE W p++[W])))),some (tQ .ow ks λl=>qW W (w l)),c6,c7,c8,c9,gk,eK,eC]=ok (.nx,[some (.lst .fz (aR qs)),some (.lst .ow (aR (toQ W (cB p (n+1))))),c2,c3,some (.lst .ow (aR (toQ W (bE W p++[W])))),some (tQ .ow (mf ((List.range' j k).map (lT W p (bE W p))) ks) λl=>qW W (n4 ((List.range' j k).map (lT W p (bE W p))) w l)),Sv,xo,NF,DL,AS,pG,pF])
 |0,j,ks,w,c6,c7,c8,c9,gk,eK,eC,_,_,_,_=>⟨c6,c7,c8,c9,gk,eK,eC,rfl⟩
 |k+1,j,ks,w,c6,c7,c8,c9,gk,eK,eC,hj,hk,hS,hb=>by
  have tl:=gA W p;have hl:=I.len;obtain⟨d7,d8,d9,O4,Bo,Bn,e1,b1,b2⟩:=Hl Φ Q I h9 n7 hq c2 c3 c7 c8 c9 gk eK eC (j:=j) (by left) (ks:=ks) (w:=w) (by left) hS (λl=>by have:=hb l;exact⟨by left,by left⟩);have kl:=dM ks (lT W p (bE W p) j).1;rw[List.range'_succ,List.map_cons,List.map_cons,mf,n4];generalize lT W p (bE W p) j=en at *;obtain⟨f6,f7,f8,f9,W7,W6,W5,ih⟩:=uZ Φ Q I h9 n7 hq c2 c3 k (j+1) (bc ks en.1) (cO w en.1 en.2) (some (.int j)) d7 d8 d9 O4 Bo Bn (by left) (by left) (λl hl=>by
   have hz:¬ (l∈ks\/l=en.1):=λq=>hl (dJ.mpr q);unfold cO;rw[if_neg λq=>hz (.inr q)];exact hS l λq=>hz (.inl q)) (λl=>by
   have:=hb l;unfold cO;split<;>left)
  exact⟨f6,f7,f8,f9,W7,W6,W5,gf (by simp) e1 ih⟩
noncomputable def IW:CE:=.comp 1 (.nm 0) [5] .seq [(.cj 1035 [(.v 5)])] [] (.tup [(.cj 1032 [(.v 1),(.v 0)]),(.v 0)])
noncomputable def Su:aj:=[.asg (.nm 1) (.lst [(.tup [(.int 0),(.int 1)])])]
def UZ:aj:=[.fr (.nm 2) (.seq (.v 0)) BM]
def Ss:aj:=[.asg (.nm 3) Dt]
def Sr:aj:=[.asg (.nm 4) (.bin .add IV (.lst [(.tup [(.int 1),(.int 1)])])),.asg (.nm 5) (.cj 1030 [])]
def UY:aj:=[.fr (.nm 6) (.jr (.bin .sub (.bf .len [(.v 4)]) (.int 1))) yq]
def UX:aj:=[.ret (.tup [(.bf .len [(.v 0)]),IW])]
def rL:aj:=Su++(UZ++(Ss++(Sr++(UY++UX))))
def Fg(m:aE):Prop:=∀qs B (s:Nat),nU 7 qs B->qs.sum=((s:Int):Rat)->m [.lst .fz (aR qs)]=ok (.tup [.int qs.length,.lst .ow (iU (D7 (bP qs) (fh (bP qs) (m_ qs))))])
theorem D4{Φ:aX}{c:CS}{ρ ρ':aV}(h:kr Φ c ρ=ok (.nx,ρ')):bw Φ [c] ρ=ok (.nx,ρ'):=by rw[eF,h];rfl
theorem KU(Φ:aX)(Q:xA Φ):Fg (mk Φ 1 13 rL):=by
 intro qs B s Sh es;have T:=sy Sh (by decide) es;obtain⟨a1,a2,a3⟩:=Sh.bot (by decide);have n1:=Sh.n1;have n2:=Sh.n2;have h0:=T.W0;have W9:toQ (bP qs:Int) (m_ qs)=qs:=by
  unfold toQ m_;rw[List.map_map]
  conv=>rhs;rw[<- List.map_id qs]
  refine Yy λq hq=>?_;show qW _ (fH _ q)=q;unfold qW;rw[Rat.divInt_eq_div,p8 (a3 q hq),Rat.intCast_natCast];have:(bP qs:Rat)≠0:=by
   have:=Rat.ne_of_gt (A3 h0)
   rwa [Rat.intCast_natCast]at this
  exact Rat.mul_div_cancel this
 have hW:((bP qs:Nat):Int)<=9:=by left
 generalize (bP qs:Int)=W at *;generalize m_ qs=p at *;obtain⟨f2,e2⟩:=vy Φ Q.s9 T hW n2 (some (.lst .fz (aR qs))) none none none none none none none none none none qs.length 0 none (by left);rw[List.drop_zero,W9]at e2;have wR:f_ Φ (.seq (.v 0)) [some (.lst .fz (aR qs)),some (.lst .ow (aR (toQ W (cB p (0+1))))),none,none,none,none,none,none,none,none,none,none,none]=ok (aR qs,[some (.lst .fz (aR qs)),some (.lst .ow (aR (toQ W (cB p (0+1))))),none,none,none,none,none,none,none,none,none,none,none]):=by
  rw[L9 (f:=.fz) (ds:=aR qs) (by simp)];simp
 have g2:=D4 (iJ (Φ:=Φ) (t:=.nm 2) (b:=BM) wR e2);have g1:bw Φ Su [some (.lst .fz (aR qs)),none,none,none,none,none,none,none,none,none,none,none,none]=ok (.nx,[some (.lst .fz (aR qs)),some (.lst .ow (aR (toQ W (cB p (0+1))))),none,none,none,none,none,none,none,none,none,none,none]):=by
  have e:aR (toQ W (cB p (0+1)))=[qD 0]:=by
   show[qD (qW W (pre p 0))]=_;rw[qC,K_ h0]
  rw[e];simp[Su,Ez]
 have e3:=Lc Φ T hW n2 (some (.lst .fz (aR qs))) f2 none none none none none none none none none none;have nl:aK bR (((cB p (qs.length+1)).map λx=>cK W (x % W)).map ej)=false:=bY bR (e:=ej) (λc=>by simp[ej,cX]) _;have g3:bw Φ Ss [some (.lst .fz (aR qs)),some (.lst .ow (aR (toQ W (cB p (qs.length+1))))),f2,none,none,none,none,none,none,none,none,none,none]=ok (.nx,[some (.lst .fz (aR qs)),some (.lst .ow (aR (toQ W (cB p (qs.length+1))))),f2,some (.lst .ow (((cB p (qs.length+1)).map λx=>cK W (x % W)).map ej)),none,none,none,none,none,none,none,none,none]):=by
  generalize ((cB p (qs.length+1)).map λx=>cK W (x % W)).map ej=L at e3 nl ⊢;simp[Ss,QM Φ Dt _ rfl,e3,nl]
 have e4:=LL Φ Q.Ah T n1 hW n2 (some (.lst .fz (aR qs))) (some (.lst .ow (aR (toQ W (cB p (qs.length+1)))))) f2 none none none none none none none none none;have tl:=gA W p;have hl:=T.len;have ba:bV .add (.lst .ow (aR (toQ W (bE W p)))) (.lst .ow [qD 1])=ok (.lst .ow (aR (toQ W (bE W p++[W])))):=by
  show(if mD .ow=false/\mD .ow=false/\(aR (toQ W (bE W p))).length+[qD 1].length<=eO then ok (D.lst .ow (aD bH (aR (toQ W (bE W p))++[qD 1])))else none)=_;rw[if_pos ⟨rfl,rfl,by simp;show _<=1000000;left⟩,<- Qm h0,<- fT];simp
 have n3:Φ 1030 []=ok (tQ .ow [] λ_=>qW W 0):=by rw[Q.P.Aj];rfl
 have o2:aP bR (tQ .ow [] λ_=>qW W 0)=false:=C8 _ _ _ _;have g4:bw Φ Sr [some (.lst .fz (aR qs)),some (.lst .ow (aR (toQ W (cB p (qs.length+1))))),f2,some (.lst .ow (((cB p (qs.length+1)).map λx=>cK W (x % W)).map ej)),none,none,none,none,none,none,none,none,none]=ok (.nx,[some (.lst .fz (aR qs)),some (.lst .ow (aR (toQ W (cB p (qs.length+1))))),f2,some (.lst .ow (((cB p (qs.length+1)).map λx=>cK W (x % W)).map ej)),some (.lst .ow (aR (toQ W (bE W p++[W])))),some (tQ .ow [] λ_=>qW W 0),none,none,none,none,none,none,none]):=by
  have nm:aK bR (aR (toQ W (bE W p++[W])))=false:=by simp
  clear g1 g2 g3 e2 e3 wR nl;generalize ((cB p (qs.length+1)).map λx=>cK W (x % W)).map ej=L at e4 ⊢;generalize aR (toQ W (bE W p++[W]))=M at *;generalize aR (toQ W (bE W p))=M0 at *;generalize aR (toQ W (cB p (qs.length+1)))=L0 at *;simp[Sr,Lx,e4,ba,n3,o2,nm]
 obtain⟨z6,z7,z8,z9,X2,X1,X0,e5⟩:=uZ Φ Q T hW n2 (qs:=qs) rfl f2 (some (.lst .ow (((cB p (qs.length+1)).map λx=>cK W (x % W)).map ej))) (bE W p).length 0 [] (λ_=>0) none none none none none none none (by left) (by simp;left) (λ_ _=>rfl) (λ_=>⟨by left,by left⟩);have Xf:(List.range' 0 (bE W p).length).map (lT W p (bE W p))=fh W p:=by
  unfold fh;rw[oj,List.map_map,<- List.range_eq_range'];rfl
 rw[Xf,<- List.range_eq_range']at e5;have HH:=zN (Φ:=Φ) (a:=.bin .sub (.bf .len [(.v 4)]) (.int 1)) (ρ:=[some (.lst .fz (aR qs)),some (.lst .ow (aR (toQ W (cB p (qs.length+1))))),f2,some (.lst .ow (((cB p (qs.length+1)).map λx=>cK W (x % W)).map ej)),some (.lst .ow (aR (toQ W (bE W p++[W])))),some (tQ .ow [] λ_=>qW W 0),none,none,none,none,none,none,none]) (n:=((bE W p).length:Int)) (by
  have:(aR (toQ W (bE W p++[W]))).length=(bE W p).length+1:=by simp
  generalize aR (toQ W (bE W p++[W]))=M at *;simp[this]) (by left) (by left)
 rw[Int.toNat_natCast]at HH;have g5:=D4 (iJ (Φ:=Φ) (t:=.nm 6) (b:=yq) HH e5);have Wi:=j9 (fh W p) [];have ll:(fh W p).length<=12:=by unfold fh;rw[List.length_map,fR];left
 rw[List.length_nil]at Wi;generalize Wk:mf (fh W p) []=ks at *;have hp:(bu ks).Perm ks:=YT _ _;have e6:∀c1 c2 c3 c4 c6 c7 c8 c9 gk eK eC,bj Φ IW [some (.lst .fz (aR qs)),c1,c2,c3,c4,some (tQ .ow ks λl=>qW W (n4 (fh W p) (λ_=>0) l)),c6,c7,c8,c9,gk,eK,eC]=ok (.lst .ow (iU ((bu ks).map λl=>(qW W (n4 (fh W p) (λ_=>0) l),l)))):=λc1 c2 c3 c4 c6 c7 c8 c9 gk eK eC=>by
  unfold IW;have e4:∀f S,Φ 1035 [tQ f ks S]=ok (.lst .ow ((bu ks).map cX)):=λf S=>D6 Q.P f _ (by left);rw[eI (xs:=[.lst .ow ((bu ks).map cX)]) (items:=(bu ks).map cX) (ds:=iU ((bu ks).map λl=>(qW W (n4 (fh W p) (λ_=>0) l),l))) (by simp[kg,e4]) (by rw[eA,fY]) ?_ (by rw[j_,List.length_map];exact dg (by have:=hp.length_eq;left))]
  ·rw[qL]
  ·unfold iU;rw[List.map_map];refine cV λl hl=>?_;have g1:∀f,Φ 1032 [tQ f ks λl=>qW W (n4 (fh W p) (λ_=>0) l),.tup (ah l)]=ok (qD (qW W (n4 (fh W p) (λ_=>0) l))):=λf=>Ve Q.P (e:=qD) (lI anyF) f (λl=>qW W (n4 (fh W p) (λ_=>0) l)) (hp.mem_iff.mp hl);have m1:aZ bH (cX l)=.tup (ah l):=by show D.tup (aD bH (l.map D.int))=_;rw[ic];rfl
   refine⟨[some (cX l),some (tQ .fz ks λl=>qW W (n4 (fh W p) (λ_=>0) l))],by simp[bK,kg],by simp,?_⟩;simp[m1,kg,g1];rfl
 rw[mk_eq (show[D.lst .fz (aR qs)].length=1 from rfl)];show jz (bw Φ rL [some (.lst .fz (aR qs)),none,none,none,none,none,none,none,none,none,none,none,none])=_;rw[rL,cM Φ _ _ _ _ g1,cM Φ _ _ _ _ (show bw Φ UZ _=_ from g2),cM Φ _ _ _ _ g3,cM Φ _ _ _ _ g4,cM Φ _ _ _ _ (show bw Φ UY _=_ from g5)];unfold D7;rw[Wk];clear g1 g2 g3 g4 g5 e2 e3 e4 e5 wR HH;generalize toQ W (cB p (qs.length+1))=L0 at *;generalize ((cB p (qs.length+1)).map λx=>cK W (x % W)).map ej=L at *;generalize toQ W (bE W p++[W])=M at *;simp[UX,e6]
noncomputable def GO:aj:=[.asg (.nm 1) (.call 224 [(.v 0),(.int 0),(.int 7)]),.asg (.nm 2) (.call 209 [(.v 1)]),.asg (.nm 3) (.bf .list1 [(.v 1)]),.asg (.nm 4) (.call 28 [(.v 3)])]
noncomputable def Ln:aj:=[.ifs (.or [(.not (.vc (.v 4) .tuple)),(.cmp .ne (.v 4) (.v 2)),(.cmp .ne (.v 3) (.v 1)),(.cmp .gt (.bf .len [(.ix (.v 4) (.int 1))]) (.bf .len [(.v 1)]))]) [.ret (.bl false)] [],.mut 1014 4 [(.int 1)],.ret (.cmp .eq (.call 28 [(.v 3)]) (.v 2))]
def jf:aj:=GO++Ln
theorem L3(Φ:aX)(WV:NS (Φ 28))(RQ:Fg (Φ 209))(RN:A5 (Φ 224))(WC:Φ 1014=DG)(ns:aa):mk Φ 1 5 jf [.lst .sc (ah ns)]=ok (.bl true):=by
 obtain⟨qs,B,e1,I⟩:=RN ns 0 7 (by decide) (by decide) (by decide);obtain⟨s,es,hs⟩:=I.size;have XI:nU 12 qs B:=I.le (by decide);have e2:=RQ qs B s I es;have e3:=λf=>WV f qs B s XI es;have hlen:(iU (D7 (bP qs) (fh (bP qs) (m_ qs)))).length<=qs.length:=by
  rw[j_];unfold D7;have hp:(bu (mf (fh (bP qs) (m_ qs)) [])).Perm (mf (fh (bP qs) (m_ qs)) []):=YT _ _;rw[List.length_map,hp.length_eq];have hl:=j9 (fh (bP qs) (m_ qs)) [];have ll:(fh (bP qs) (m_ qs)).length<=qs.length:=by
   unfold fh;rw[List.length_map,fR];have:=gA (bP qs:Int) (m_ qs);have h:=(sy I (by decide) es).len;left
  rw[List.length_nil]at hl;left
 generalize D7 (bP qs) (fh (bP qs) (m_ qs))=hX at *;have EW:Φ 224 [.lst .sc (ah ns),.int 0,.int 7]=ok (.lst .ow (aR qs)):=e1;rw[mk_eq (show[D.lst .sc (ah ns)].length=1 from rfl)];show jz (bw Φ jf [some (.lst .sc (ah ns)),none,none,none,none])=_;have ga:bw Φ GO [some (.lst .sc (ah ns)),none,none,none,none]=ok (.nx,[some (.lst .sc (ah ns)),some (.lst .ow (aR qs)),some (.tup [.int qs.length,.lst .ow (iU hX)]),some (.lst .ow (aR qs)),some (.tup [.int qs.length,.lst .ow (iU hX)])]):=by
  simp[GO,EW,e2,e3]
 have Tj:∀f,eG 40 (.lst f (aR qs))=true:=λf=>by rw[Cv];exact oG (λq=>Ew 38 q) qs
 have Oo:∀f,eG 40 (.tup [.int qs.length,.lst f (iU hX)])=true:=λf=>by
  have:(iU hX).all (eG 38)=true:=oG (λr=>Ly 36 r) hX;simp[this]
 have Xw:∀f g,eZ .ne (.lst f (aR qs)) (.lst g (aR qs))=ok (.bl false):=λf g=>by
  rw[Jf (Tj f) (Tj g)];show ok (D.bl (!dw (qs.map qD) (qs.map qD)))=_;rw[i9 EU];simp
 have ct:∀f g,jQ (.tup [.int qs.length,.lst f (iU hX)]) (.tup [.int qs.length,.lst g (iU hX)])=true:=λf g=>by
  rw[vv,eY,eY,Dj,Di];simp
 have c1:∀f g,eZ .ne (.tup [.int qs.length,.lst f (iU hX)]) (.tup [.int qs.length,.lst g (iU hX)])=ok (.bl false):=λf g=>by rw[Jf (Oo f) (Oo g),ct];rfl
 have c2:∀f g,eZ .eq (.tup [.int qs.length,.lst f (iU hX)]) (.tup [.int qs.length,.lst g (iU hX)])=ok (.bl true):=λf g=>by rw[ND (Oo f) (Oo g),ct]
 have c4:¬ (qs.length:Int)<((iU hX).length:Int):=by left
 have m1:=rT (Φ:=Φ) (p:=1014) (i:=4) (es:=[(.int 1)]) (ρ:=[some (.lst .sc (ah ns)),some (.lst .ow (aR qs)),some (.tup [.int qs.length,.lst .ow (iU hX)]),some (.lst .ow (aR qs)),some (.tup [.int qs.length,.lst .ow (iU hX)])]) (xs:=[.int 1]) (d':=.tup [.int qs.length,.lst .ow []]) rfl rfl rfl (by rw[WC];rfl);simp only[List.set]at m1;rw[jf,cM Φ _ _ _ _ ga];simp only[j_]at c4;simp[Ln,fi,c1,Xw,c4,m1,e3,c2]
end DI
end
section
namespace DI
open PySem PySem.Spec PyProof.Rows L2
def Df(K:ao)(x:Str)(st:Stmt):Prop:=∃f fd,D1 K x x st f fd/\PySem.W.nsIn K mainGlobals x=some (some (.ref f))
variable {K:ao}{st:Stmt}
theorem dmk{x:Str}{f:Addr}{oc:Value}{od an:Option Addr}{sl:Array (Option Value)}{kV dc pm cd ct:Value}(a:PySem.W.nsIn K mainGlobals x=some (some (.ref f)))(l:K.lookup f=some ⟨oc,od,.func (PySem.W.fnOf x x (eB st) (cN st) (br st) .none kV dc pm an cd ct),sl⟩)(c:PySem.W.codeIn K cd x=true)(k:PySem.W.keepIn K (.ref f)=true):Df K x st:=⟨f,_,Ii l c k,a⟩
noncomputable def Uz(N P:aw)(sc:Scope):Bool:=decide (sc.kind=.function)&&(!sc.isCoroutine&&(!sc.isGenerator&&(decide N.Nodup&&(decide (N.take P.length=P)&&(P.all (λx=>decide (sc.names.lookup x=some .local\/sc.names.lookup x=some .cell))&&sc.names.all λy=>decide (y.2≠.free))))))
variable {N:aw}
theorem ES{P:aw}{sc:Scope}(h:Uz N P sc=true):gM N P sc:=by
 obtain⟨h1,h⟩:=aH h;obtain⟨h2,h⟩:=aH h;obtain⟨h3,h⟩:=aH h;obtain⟨h4,h⟩:=aH h;obtain⟨h5,h⟩:=aH h;obtain⟨h6,h7⟩:=aH h;exact⟨Yn h1,jN h2,jN h3,Yn h4,Yn h5,λx hx=>Yn (List.all_eq_true.mp h6 x hx),λy hy=>Yn (List.all_eq_true.mp h7 y hy)⟩
def O6(st:Stmt)(N ps:aw)(tb:List (Nat×Str))(bl:aw)(cs:List (Str×GK))(px:Px)(b:aj):Bool:=Uz N ps (br st)&&jb ⟨br st,N,λn=>List.lookup n tb,bl,cs,px⟩ b (cN st)
theorem u1{α:Type}{P:List α->Prop}(h:∀a,P [a])(us:List α)(e:us.length=1):P us:=by obtain⟨a,rfl⟩:=LY e;exact h a
theorem u2{α:Type}{P:List α->Prop}(h:∀a b,P [a,b])(us:List α)(e:us.length=2):P us:=by obtain⟨a,b,rfl⟩:=LX e;exact h a b
theorem u3{α:Type}{P:List α->Prop}(h:∀a b c,P [a,b,c])(us:List α)(e:us.length=3):P us:=by obtain⟨a,b,c,rfl⟩:=LW e;exact h a b c
theorem u4{α:Type}{P:List α->Prop}(h:∀a b c d,P [a,b,c,d])(us:List α)(e:us.length=4):P us:=by obtain⟨a,b,c,d,rfl⟩:=QI e;exact h a b c d
theorem u5{α:Type}{P:List α->Prop}(h:∀a b c d e,P [a,b,c,d,e])(us:List α)(e:us.length=5):P us:=by
 match us,e with
 |[a,b,c,d,e],_=>exact h a b c d e
variable {P:ax}{base:Heap}{mg:Str->Option Value}{w:World}
theorem Ent.u{k k':Nat}{y:Str}{m:aE}(h:Ent P w K mg base k y m)(hk:k<=k':=by decide):Ent P w K mg base k' y m:=h.up hk
theorem en{h:Heap}(X:K.In h)(G:h.Ns mainGlobals mg)⦃x:Str⦄⦃st:Stmt⦄⦃N ps bl:aw⦄⦃tb:List (Nat×Str)⦄⦃cs:List (Str×GK)⦄⦃px:Px⦄⦃b:aj⦄(k:Nat)(Φ:aX)(m:aE)(d:Df K x st)(hc:O6 st N ps tb bl cs px b=true)
  (hp:tX px Φ/\Jr px Φ) (C7:cQ (λy=>mg y=none) bl) (sV:cQ (λp:Str×GK=>∃u,mg p.1=some u/\D0 K p.2 u) cs)
  (hf:cQ (λp:Nat×Str=>Ent P w K mg base k p.2 (Φ p.1)) tb) (hm:∀ds r,m ds=ok r->ds.length=ps.length/\oo Φ N.length b ds=ok r) (hb:∀(kV doc pm:Value) (an:Option Addr) (gW ct:Value) (us:ai),us.length=ps.length->bindArgs (PySem.W.fnOf x x (eB st) (cN st) (br st) .none kV doc pm an gW ct) ⟨us,[]⟩=pure (ps.zip us):=by first|exact λ_ _ _ _ _ _=>u1 λ_=>rfl|exact λ_ _ _ _ _ _=>u2 λ_ _=>rfl|exact λ_ _ _ _ _ _=>u3 λ_ _ _=>rfl|exact λ_ _ _ _ _ _=>u4 λ_ _ _ _=>rfl|exact λ_ _ _ _ _ _=>u5 λ_ _ _ _ _=>rfl):Ent P w K mg base (k+1) x m:=by
 obtain⟨f,fd,Fu,a⟩:=d;obtain⟨h1,h2⟩:=aH hc;exact ent Fu (PySem.W.mg_of X G a) (Fu.binds hb) (ES h1) h2 hp.1 hp.2 (cQ.mem C7) (cQ.two (P:=λy i=>∃u,mg y=some u/\D0 K i u) sV) (cQ.tab (P:=λg y=>Ent P w K mg base k y (Φ g)) hf) hm
noncomputable def xm(PT F:aX)(i:Nat)(m:aE):aX:=λn=>bif Nat.ble 1000 n then PT n else bif Nat.beq n i then m else F n
theorem T4{α:Type}{Q:Nat->Prop}(p:Nat){k:Nat}{a b c:α}(h:(if p=k then a else b)=c)(h1:a=c->Q k)(h2:b=c->Q p):Q p:=by
 by_cases e:p=k
 ·subst e;rw[if_pos rfl]at h;exact h1 h
 ·rw[if_neg e]at h;exact h2 h
variable {F:Addr->Prop}{Z:Cx}{cs:aA}{Φ:aX}
theorem EH{α:Type}{e:Expr}{p k:Nat}{a b c:α}(h:(if p=k then a else b)=c)(h1:a=c->PE Z e (tD Z F Φ (.cj k cs))/\L2.PT Z e (eN Z F Φ (.cj k cs)))(h2:b=c->PE Z e (tD Z F Φ (.cj p cs))/\L2.PT Z e (eN Z F Φ (.cj p cs))):PE Z e (tD Z F Φ (.cj p cs))/\L2.PT Z e (eN Z F Φ (.cj p cs)):=T4 (Q:=λp=>PE Z e (tD Z F Φ (.cj p cs))/\L2.PT Z e (eN Z F Φ (.cj p cs))) p h h1 h2
theorem T3{α:Type}{i p k:Nat}{a b c:α}(h:(if p=k then a else b)=c)(h1:a=c->PS Z st (mn Z F Φ (.mut k i cs)))(h2:b=c->PS Z st (mn Z F Φ (.mut p i cs))):PS Z st (mn Z F Φ (.mut p i cs)):=T4 (Q:=λp=>PS Z st (mn Z F Φ (.mut p i cs))) p h h1 h2
theorem j8:True:=trivial
theorem cQ.nn{K:ao}{h:Heap}{mg:aO}(X:K.In h)(G:h.Ns mainGlobals mg):∀{l:aw},cQ (λy=>PySem.W.nsIn K mainGlobals y=some none) l->cQ (λy=>mg y=none) l
 |[],_=>trivial
 |_::_,z=>⟨PySem.W.mg_none_of X G z.1,cQ.nn X G z.2⟩
theorem Xd{P:ax}{w:World}{K:ao}{h base:Heap}{mg:aO}{bl:aw}{cs:List (Str×GK)}{px:Px}{PT:aX}(X:K.In h)(G:h.Ns mainGlobals mg)(hp:∀F i m,tX px (xm PT F i m)/\Jr px (xm PT F i m))(C7:cQ (λy=>mg y=none) bl)(sV:cQ (λp:Str×GK=>∃u,mg p.1=some u/\D0 K p.2 u) cs)
  ⦃x:Str⦄ ⦃st:Stmt⦄ (k:Nat) (Φ:aX) (d:Df K x st) (N:aw) (a:Nat) (tb:List (Nat×Str)) (b:aj)
  (hf:cQ (λp:Nat×Str=>Ent P w K mg base k p.2 (Φ p.1)) tb) (hc:O6 st N (N.take a) tb bl cs px b=true:=by decide +kernel) (e:∃F i m,Φ=xm PT F i m:=by exact⟨_,_,_,rfl⟩) (ha:(N.take a).length=a:=by rfl) (hb:∀(kV doc pm:Value) (an:Option Addr) (gW ct:Value) (us:ai),us.length=a->bindArgs (PySem.W.fnOf x x (eB st) (cN st) (br st) .none kV doc pm an gW ct) ⟨us,[]⟩=pure ((N.take a).zip us):=by first|exact λ_ _ _ _ _ _=>u1 λ_=>rfl|exact λ_ _ _ _ _ _=>u2 λ_ _=>rfl|exact λ_ _ _ _ _ _=>u3 λ_ _ _=>rfl|exact λ_ _ _ _ _ _=>u4 λ_ _ _ _=>rfl|exact λ_ _ _ _ _ _=>u5 λ_ _ _ _ _=>rfl):Ent P w K mg base (k+1) x (mk Φ a N.length b):=by
 obtain⟨F,i,m,e⟩:=e;exact en X G k Φ _ d hc (e▸hp F i m) C7 sV hf (λds r q=>⟨(sH ds r q).1.trans ha.symm,(sH ds r q).2⟩) (λkV doc pm an gW ct us hu=>hb kV doc pm an gW ct us (hu.trans ha))
theorem Xc{x:Str}{ps bl:aw}{tb:List (Nat×Str)}{cs:List (Str×GK)}{px:Px}{b:aj}{f:Addr}{fd:FuncData}(k:Nat)(Φ:aX)(m:aE)(Fu:D1 K x x st f fd)(hc:O6 st N ps tb bl cs px b=true)
  (hp:tX px Φ/\Jr px Φ) (C7:cQ (λy=>mg y=none) bl) (sV:cQ (λp:Str×GK=>∃u,mg p.1=some u/\D0 K p.2 u) cs)
  (hf:cQ (λp:Nat×Str=>Ent P w K mg base k p.2 (Φ p.1)) tb) (hm:∀ds r,m ds=ok r->ds.length=ps.length/\oo Φ N.length b ds=ok r):gO P w K mg base xQ (k+1) f fd ps (BV K ps.length m):=by
 obtain⟨h1,h2⟩:=aH hc;exact rg Fu (ES h1) h2 hp.1 hp.2 (cQ.mem C7) (cQ.two (P:=λy i=>∃u,mg y=some u/\D0 K i u) sV) (λg y h=>(cQ.tab (P:=λg y=>Ent P w K mg base k y (Φ g)) hf g y h).ex) hm
end DI
end
namespace PySem.W.Fast
def tw17995284248976664714:=0
def tw5262363278386160980:=0
def tw17920551794044618191:=0
def tw9788873020334269454:=0
def tw740661618155507161:=0
def tw6822744118192486381:=0
def tw5280839550512791435:=0
def tw11580514566689200860:=0
def tw14122104281862971227:=0
def tw4057446147409760817:=0
def tw1177995786947069613:=0
def tw9248083212581362874:=0
def tw9086626005859282633:=0
def tw16948654716408167533:=0
def tw10094923180007434219:=0
def tw18286908585462468423:=0
def tw16631181188660603968:=0
def tw8843909402468802736:=0
def tw8835957506386461635:=0
def tw17773641652958596403:=0
def tw2953893290863031683:=0
def tw16828303854945261285:=0
def tw4752945164479649625:=0
def tw4671337647287068549:=0
def tw14408865850770852802:=0
def tw14081411453569549852:=0
def tw15709346307181325375:=0
def tw8339927659152472679:=0
def tw3729432360662062904:=0
def tw2626041563486349603:=0
def tw3536611473569314175:=0
def tw15316495464899731291:=0
def tw3846988896637678041:=0
def tw2117557344701837198:=0
def tw11951946200129129255:=0
def tw15493503014605657845:=0
def tw11267283375749514423:=0
def tw12923901672694948111:=0
def tw18077531361014008625:=0
def tw11937285209298617518:=0
def tw17394264287560348390:=0
def tw2174662090791331867:=0
def tw16427159003122519861:=0
def tw7053373388371357020:=0
def tw4414805064337052435:=0
def tw1709815817747340726:=0
def tw8091093101655114024:=0
def tw10984203241319500989:=0
def tw11609940639340169566:=0
def tw267203163631802649:=0
def tw7629470285829078361:=0
def tw2606440672319058942:=0
def tw5226326543377309:=0
def tw17701956478094532354:=0
def tw14112869939517534698:=0
def tw17072532621281076773:=0
def tw8977826690585609134:=0
def tw7432796033182231817:=0
def tw8516125635120674003:=0
def tw3327006120292124691:=0
def tw11517461302798898861:=0
def tw14936023181615486818:=0
def tw10614881452006537946:=0
def tw3553426814873594310:=0
def tw18379793997444280003:=0
def tw18114261413018679311:=0
def tw1048990131812287340:=0
def tw5396356050862504050:=0
def tw3540725112780677306:=0
def tw9003357886562280455:=0
def tw3932573032868937817:=0
def tw209052976275213188:=0
def tw12851225234747423599:=0
def tw16026724056143116843:=0
def tw18286081987971691270:=0
def tw13778484882167789445:=0
def tw6460233961468334914:=0
def tw17855449818439339177:=0
def tw7404381139906307738:=0
def tw11616579632555134880:=0
def tw7426155586494490759:=0
def tw17069584176216767102:=0
def tw8850751351191400608:=0
def tw8197093139762549432:=0
def tw13380046737990313933:=0
def tw12433932491951632328:=0
def tw14162196857278825463:=0
def tw14757759341449919437:=0
def tw2038388477680245565:=0
def tw681903650450618227:=0
end PySem.W.Fast
namespace Asm
open PySem PySem.Spec PyProof.Rows L2 DI
noncomputable def top(i:Nat):Stmt:=PySem.Challenge.pw_sharesample_k11_lines.main.body.getD i (.Pass ⟨0,0,0,0⟩)
def px:Px:=⟨λn sc bl e=>if n=1020 then pz true sc bl e else if n=1021 then pz false sc bl e else if n=1030 then ph sc bl e else if n=1031 then pv sc bl e else if n=1032 then tO sc bl e else if n=1035 then fw "sorted" sc bl e else if n=1071 then nL "sorted" "set" sc bl e else if n=1072 then nL "sorted" "set" sc bl e else none,λn sc bl e=>if n=1000 then tM sc bl e else if n=1001 then fw "enumerate" sc bl e else none,λn sc bl e=>if n=1014 then tR sc bl e else if n=1033 then pf sc bl e else none⟩
noncomputable def PT:aX
 |1000=>Bs
 |1001=>rn
 |1014=>DG
 |1020=>(cutD true)
 |1021=>(cutD false)
 |1030=>vD
 |1031=>nI
 |1032=>xc
 |1033=>nF
 |1035=>jA
 |1071=>KA
 |1072=>wm
 |_=>λ_=>none
theorem pr(F:aX)(i:Nat)(m:aE):tX px (xm PT F i m)/\Jr px (xm PT F i m):=⟨⟨(λX sc bl k L p e args he F cs hs=>EH he (λhe=>AI rfl L he hs) λhe=>EH he (λhe=>AI rfl L he hs) λhe=>EH he (λhe=>Dw rfl L he hs) λhe=>EH he (λhe=>DA rfl L he hs) λhe=>EH he (λhe=>I9 rfl L he hs) λhe=>EH he (λhe=>AF rfl L he hs) λhe=>EH he (λhe=>Kx rfl L he hs) λhe=>EH he (λhe=>FR rfl L he hs) λhe=>nomatch he),(λX sc bl k L p e args he F cs tg ht hs pins s σ H R τ ρ xs d items I Si cS ed ei Rr hR=>by
  dsimp only[px]at he;by_cases hp:p=1000
  ·subst hp;rw[if_pos rfl]at he;exact Fm rfl L he ht hs I Si cS ed ei Rr hR
  rw[if_neg hp]at he;clear hp;by_cases hp:p=1001
  ·subst hp;rw[if_pos rfl]at he;exact Dk rfl L he ht hs I Si cS ed ei Rr hR
  rw[if_neg hp]at he;clear hp;cases he)⟩,⟨(λX sc bl k L hN xK p st x pos args he i hi hl pe F cs hs=>T3 he (λhe=>Jd rfl L hN xK he hi hl pe hs) λhe=>T3 he (λhe=>Dv rfl L hN xK he hi hl pe hs) λhe=>nomatch he)⟩⟩
noncomputable def xt(F:aX)(i a b:Nat)(c:aj):aX:=xm PT F i (mk F a b c)
noncomputable def BL:aw:=["abs","all","bool","enumerate","int","isinstance","len","list","min","range","set","sorted","sum","tuple","zip"]
noncomputable def CC:List (Str×GK):=[("MOST_HOUSES",GK.i 12)]
noncomputable def iC:aX:=xm PT PT 0 λ_=>none
noncomputable def jH:aX:=xt iC 201 2 4 (je)
noncomputable def gu:aX:=xt jH 202 2 2 (vO 201)
noncomputable def jF:aX:=xt gu 223 2 2 (kG)
noncomputable def jE:aX:=xt jF 203 2 2 (kD 201)
noncomputable def jG:aX:=xt jE 222 2 2 (pK 201)
noncomputable def iD:aX:=xt jG 209 1 13 (rL)
noncomputable def fB:aX:=xt iD 200 2 4 (dy)
noncomputable def df:aX:=xt fB 224 3 10 (pJ)
noncomputable def iE:aX:=xt df 1 2 3 (cz)
noncomputable def eL:aX:=xt iE 0 1 1 (fA)
noncomputable def iF:aX:=xt eL 3 1 1 (bC)
noncomputable def dA:aX:=xt iF 23 1 1 (kE)
noncomputable def dB:aX:=xt dA 24 2 2 (pI)
noncomputable def gq:aX:=xt dB 9 1 3 (b8)
noncomputable def iA:aX:=xt gq 10 2 2 (eD)
noncomputable def d_:aX:=xt iA 25 1 3 (kF)
noncomputable def eM:aX:=xt d_ 26 1 1 (vR)
noncomputable def fC:aX:=xt eM 2 2 3 (b_)
noncomputable def iB:aX:=xt fC 18 3 3 (vQ)
noncomputable def d5:aX:=xt iB 29 4 4 (vP)
noncomputable def Bb:aX:=xt d5 28 1 9 (AV)
def BO:=B7 iC
def PV:=KQ jH (f:=201) BO
def PU:=B4 jF (f:=201) BO
def PN:=B8 gu
def PQ:=Ga jE (f:=201) BO
def PR:=KU jG ⟨⟨rfl,rfl,rfl,rfl,rfl⟩,PV,PU,PQ,PN,rfl⟩
def PY:=Gb iD
def PM:=F_ fB PY BO
def t1:=jo df
def t0:=sv iE
def t3:=mz eL t0 t1
def Vo:=B5 iF t3
def Vn:=KR dA Vo
def t9:=jU dB t1
def Ta:=qv gq
def Vm:=B6 iA t9 Ta
def Vl:=KY d_ Vn Vm
def t2:=mB eM t1
def Vp:=KW fC ⟨rfl,rfl,rfl,rfl,rfl⟩ t2
def Vj:=KS iB rfl
def Vk:=P9 d5 ⟨rfl,rfl,rfl,rfl,rfl⟩ t9 Ta Vp Vl Vj rfl rfl rfl rfl
theorem wJ:∀ns:aa,(mk Bb 1 5 (jf)) [.lst .sc (ah ns)]=ok (.bl true):=L3 Bb Vk PR PM rfl
theorem Je:O6 (top 30) ["_law_script","_law_shares_here","_law_due_here","_law_handed","_law_found"] ["_law_script"] [(28,"line_drawing"),(209,"_law_due"),(224,"_law_shares")] BL CC px (jf)=true:=by decide +kernel
theorem all_mk{l:PySem.W.OpenLaw}{w:World}{K:ao}{h:Heap}{mg:aO}{fa:Addr}{S5:Value}(X:K.In h)(G:h.Ns mainGlobals mg)(Wu:mg "law" = some (.ref fa))
  (a0:Df K "_law_frac" (top 23))
  (a1:Df K "_law_add" (top 24))
  (a2:Df K "_law_below" (top 27))
  (a3:Df K "_law_mul" (top 25))
  (a4:Df K "_law_sub" (top 26))
  (a5:Df K "_law_due" (top 29))
  (a6:Df K "_law_cell" (top 22))
  (a7:Df K "_law_shares" (top 28))
  (a8:Df K "common_divisor" (top 6))
  (a9:Df K "is_whole" (top 5))
  (a10:Df K "is_fraction" (top 8))
  (a11:Df K "is_share" (top 15))
  (a12:Df K "is_share_list" (top 16))
  (a13:Df K "common_bottom" (top 9))
  (a14:Df K "tops_over" (top 10))
  (a15:Df K "lot_size" (top 17))
  (a16:Df K "check_shares" (top 18))
  (a17:Df K "fraction_of" (top 7))
  (a18:Df K "drawing_of" (top 13))
  (a19:Df K "line_lot" (top 20))
  (a20:Df K "line_drawing" (top 19))
  (a21:Df K "law" (top 30))
  (z:cQ (λy=>PySem.W.nsIn K mainGlobals y=some none) BL)
  (q0:PySem.W.nsIn K mainGlobals "MOST_HOUSES" = some (some S5)) (r0:RelV (.int 12) S5) :
  ∃fd:FuncData,(∀(s:Shared) (v:Value),BindsTo s fd ⟨[v],[]⟩ [("_law_script",v)])/\∀base:Heap,K.In base->base.Ns mainGlobals mg->gO l.prog w K mg base xQ 23 fa fd ["_law_script"] (BV K 1 oO):=by
 obtain⟨f,fd,Fu,a⟩:=a21;have e:=Wu.symm.trans (PySem.W.mg_of X G a);cases e;obtain⟨oc,od,kV,dc,pm,an,cd,ct,sl,rfl,_,_⟩:=id Fu.ex;have Y:=cQ.nn X G z;have x0:∃u,mg "MOST_HOUSES" = some u/\D0 K (GK.i 12) u:=⟨_,PySem.W.mg_of X G q0,r0⟩
 refine⟨PySem.W.fnOf "law" "law" (eB (top 30)) (cN (top 30)) (br (top 30)) .none kV dc pm an cd ct,λs v=>.of_eq rfl,λbase _ _=>?_⟩;have N:=@Xd l.prog w K h base mg BL CC px PT X G pr Y ⟨x0,j8⟩;have E0:=N 1 iC a0 ["_law_top","_law_bottom","_law_one","_law_other"] 2 [] (je) j8;have E1:=N 2 jH a1 ["_law_one","_law_other"] 2 [(201,"_law_frac")] (vO 201) ⟨E0.u,j8⟩;have E2:=N 3 gu a2 ["_law_one","_law_other"] 2 [] (kG) j8;have E3:=N 4 jF a3 ["_law_one","_law_other"] 2 [(201,"_law_frac")] (kD 201) ⟨E0.u,j8⟩;have E4:=N 5 jE a4 ["_law_one","_law_other"] 2 [(201,"_law_frac")] (pK 201) ⟨E0.u,j8⟩;have E5:=N 6 jG a5 ["_law_shares_here","_law_ends","_law_share","_law_parts","_law_marks","_law_lots","_law_k","_law_middle","_law_lot","_law_house","_law_met","_law_turn","_law_place"] 1 [(202,"_law_add"),(203,"_law_mul"),(222,"_law_sub"),(223,"_law_below")] (rL) ⟨E1.u,E3.u,E4.u,E2.u,j8⟩;have E6:=N 7 iD a6 ["_law_script","_law_k","_law_cell_here","_law_number"] 2 [] (dy) j8;have E7:=N 8 fB a7 ["_law_script","_law_at","_law_most","_law_number","_law_many","_law_bottom","_law_tops","_law_k","_law_lack","_law_less"] 3 [(200,"_law_cell"),(201,"_law_frac")] (pJ) ⟨E6.u,E0.u,j8⟩;have E8:=N 9 df a8 ["one","other","rest"] 2 [] (cz) j8;have E9:=N 10 iE a9 ["thing"] 1 [] (fA) j8;have XU:=N 11 eL a10 ["thing"] 1 [(0,"is_whole"),(1,"common_divisor")] (bC) ⟨E9.u,E8.u,j8⟩;have XT:=N 12 iF a11 ["thing"] 1 [(3,"is_fraction")] (kE) ⟨XU.u,j8⟩;have XS:=N 13 dA a12 ["thing","most"] 2 [(23,"is_share")] (pI) ⟨XT.u,j8⟩;have U7:=N 14 dB a13 ["some","bottom","part"] 1 [(1,"common_divisor")] (b8) ⟨E8.u,j8⟩;have U6:=N 15 gq a14 ["some","bottom"] 2 [] (eD) j8;have XR:=N 16 iA a15 ["shares","bottom","total"] 1 [(9,"common_bottom"),(10,"tops_over")] (kF) ⟨U7.u,U6.u,j8⟩;have XQ:=N 17 d_ a16 ["thing"] 1 [(24,"is_share_list"),(25,"lot_size")] (vR) ⟨XS.u,XR.u,j8⟩;have XO:=N 18 eM a17 ["top","bottom","divisor"] 2 [(1,"common_divisor")] (b_) ⟨E8.u,j8⟩;have XN:=N 19 fC a18 ["many","weights","bottom"] 3 [(2,"fraction_of")] (vQ) ⟨XO.u,j8⟩;have XM:=N 20 iB a19 ["begin","starts","lengths","whole"] 4 [] (vP) j8;have XJ:=N 21 d5 a20 ["shares","whole","lengths","starts","turns","weights","turn","until","lot"] 1 [(9,"common_bottom"),(10,"tops_over"),(18,"drawing_of"),(26,"check_shares"),(29,"line_lot")] (AV) ⟨U7.u,U6.u,XN.u,XQ.u,XM.u,j8⟩;exact Xc 22 Bb oO Fu Je (pr _ _ _) Y ⟨x0,j8⟩ ⟨XJ.u,E5.u,E7.u,j8⟩ (zu λns _=>(sH _ _ (wJ ns)).2)
theorem walk{l:PySem.W.OpenLaw}{q:ax}{loose:aw}{XP:(aO)->Heap->Prop}{YP:World->Heap->Prop}{d:DefRec}{K:Params->ao}(hn:l.most=some 63)(MM:d.params.defaults=[])
  (hY:∀(w:World) (h:Heap),YP w h->(K w.params).In h)
  (F:∀(w:World) (mg:aO) (fa:Addr) (h:Heap),(K w.params).In h->h.Ns mainGlobals mg->mg d.name=some (.ref fa) ->
   ∃fd:FuncData,(∀(s:Shared) (u:Value),BindsTo s fd ⟨[u],[]⟩ [("_law_script",u)])/\∀base:Heap,(K w.params).In base->base.Ns mainGlobals mg->gO l.prog w (K w.params) mg base xQ 23 fa fd ["_law_script"] (BV (K w.params) 1 oO)) :
  PySem.W.WalkO q loose XP YP l.row.toRowW d [] (λf vs=>PySem.call f vs) :=
 L2.Bv (n:=63) (k:=23) (x:="_law_script") (CX:=λ_=>xQ) (sp:=λw=>BV (K w.params) 1 oO) hn (by decide) MM ⟨rfl,by decide,by decide⟩ hY F (λw H a ns hl hO hS=>Hf (K w.params) H a ns oO (CK hl) hO hS) λ_ _ _ _ _ z=>z
end Asm
end
open PySem PySem.W PyProof.Rows
set_option maxRecDepth 100000 in
set_option maxHeartbeats 0 in
theorem PySem.Challenge.cw_sharesample_k11_lines_holds : PySem.Challenge.rw_sharesample_k11_lines.Holds := by
 w_on;o_law;k_head;(case hw=>w_witness2)
 k_fill
 refine Asm.walk (l:=PySem.Challenge.rw_sharesample_k11_lines) rfl rfl (fun w h Y=>PySem.W.kIn_of Y) ?F
 case F =>
  intro w mg fa h KX G hmg
  refine' Asm.all_mk KX G hmg ?a0 ?a1 ?a2 ?a3 ?a4 ?a5 ?a6 ?a7 ?a8 ?a9 ?a10 ?a11 ?a12 ?a13 ?a14 ?a15 ?a16 ?a17 ?a18 ?a19 ?a20 ?a21 ?zz ?q0 ?r0
  case a0 | a1 | a2 | a3 | a4 | a5 | a6 | a7 | a8 | a9 | a10 | a11 | a12 | a13 | a14 | a15 | a16 | a17 | a18 | a19 | a20 | a21 =>
   refine' DI.dmk ?x ?y ?z ?w
   case x | y | z | w=>k_is
  (case zz=>refine' ⟨?_,?_,?_,?_,?_,?_,?_,?_,?_,?_,?_,?_,?_,?_,?_,trivial⟩ <;> show PySem.W.nsIn _ _ _ = some none <;> k_is)
  (case q0=>k_is);(case r0=>exact ⟨_,rfl⟩)
