import PyProof.Rows.All
import Wide.All
import OpenK.AllK
import Wide.FinOn
import Lean
import PyProof.EqAt
import PyProof.EqKinds
import PyProof.TupleCall
import PyProof.NeKinds
import KE.BitLaws
import PyProof.SumWalkG
import PyProof.ConsumeWalk
import PyProof.WalksMore
import KE.KSortedM
import PyProof.Rows.SetFrom
import PyProof.CompUse
import PyProof.ZipIter
import PyProof.ListRange
import PyProof.SliceList
import KE.KSortTup
import PyProof.EnumMake
import PyProof.DictRoadsH
import PyProof.DictKinds
import PyProof.DictIter
import PyProof.Rows.DictUnroll
import KE.KDictSum
import PyProof.Draws
import PyProof.ListMulRoad
import PyProof.NsDelKeeps
import PyProof.ExcBaseAll.ValueError
import PyProof.ExcAttrAll.ValueError
import PyProof.Rows.CountFlat
import PySem.Challenge.RW_sharesample_k28_refused_spreads
set_option bootstrap.genMatcherCode false
set_option genSizeOf false
set_option genSizeOfSpec false
set_option Elab.async false
set_option linter.all false
set_option maxRecDepth 100000
local macro_rules | `(tactic| left) => `(tactic| first | assumption | exact Nat.zero_le _ | exact Int.natCast_nonneg _ | exact Int.ofNat_lt.mpr (by assumption) | exact Nat.le_of_lt (by assumption) | exact Nat.le_trans (by assumption) (by assumption) | exact Nat.lt_of_lt_of_le (by assumption) (by assumption) | lia | omega)
noncomputable section
abbrev b4:=@List.length_map
abbrev cb:=@if_neg
abbrev cc:=@if_pos
abbrev cn:=@List.size_toArray
abbrev cz:=@List.length_cons
abbrev cM:=@Bool.and_eq_true
abbrev c8:=@List.length_append
abbrev dx:=@List.map_cons
abbrev dV:=@Int.toNat_natCast
abbrev dX:=@Bool.false_ne_true
abbrev eg:=@List.not_mem_nil
abbrev eG:=@List.lookup_cons
abbrev fb:=@List.map_map
abbrev fc:=@List.length_replicate
abbrev ft:=@List.mem_cons
abbrev fu:=@decide_eq_false
abbrev fx:=@List.nil_append
abbrev fy:=@Bool.false_eq_true
abbrev fI:=@List.getD_eq_getElem?_getD
abbrev f6:=@List.map_append
abbrev f7:=@List.sum_cons
abbrev gb:=@List.replicate_succ
abbrev gc:=@List.all_cons
abbrev gr:=@Int.natAbs_mul
abbrev gv:=@List.all_eq_true
abbrev gA:=@Array.length_toList
abbrev gI:=@List.length_nil
abbrev g5:=@List.foldl_cons
abbrev g6:=@List.all_map
abbrev g7:=@List.drop_eq_getElem_cons
abbrev g8:=@List.range_eq_range'
abbrev g9:=@Rat.divInt_eq_div
abbrev hD:=@Rat.intCast_natCast
abbrev hF:=@List.length_take
abbrev hG:=@List.drop_zero
abbrev hH:=@List.append_nil
abbrev hL:=@List.length_singleton
abbrev hM:=@Int.fdiv_eq_ediv_of_nonneg
abbrev hS:=@List.flatten_cons
abbrev hW:=@List.length_drop
abbrev hY:=@beq_self_eq_true
abbrev h9:=@List.cons_append
abbrev ij:=@List.filterMap_cons
abbrev iN:=@Bool.or_eq_true
abbrev i4:=@Bool.not_eq_true'
abbrev i5:=@List.mem_cons_of_mem
abbrev ji:=@List.length_set
abbrev jA:=@List.zip_cons_cons
abbrev km:=@Bool.or_true
abbrev kq:=@List.mem_cons_self
abbrev kx:=@Rat.intCast_eq_zero_iff
abbrev ky:=@Bool.and_true
abbrev la:=@Nat.add_comm
abbrev lb:=@List.forIn_cons
abbrev ll:=@Bool.and_false
abbrev lZ:=@decide_eq_true
abbrev l4:=@List.mem_range
abbrev l6:=@List.contains_cons
abbrev mm:=@List.any_cons
abbrev mu:=@List.append_assoc
abbrev mX:=@List.mapM_toArray
abbrev mY:=@beq_iff_eq
abbrev m1:=@List.take_length
abbrev m2:=@List.all_toArray
abbrev ng:=@List.any_eq_true
abbrev nt:=@List.filter_cons_of_pos
abbrev nv:=@List.filter_cons_of_neg
abbrev nI:=@Option.map_some
abbrev nR:=@List.length_zip
abbrev oe:=@List.drop_eq_nil_of_le
abbrev oC:=@Array.toArray_toList
abbrev o1:=@List.map_drop
abbrev ph:=@Int.toNat_of_nonneg
abbrev pl:=@List.zip_nil_right
abbrev pE:=@List.map_nil
abbrev pF:=@Nat.succ_mul
abbrev pG:=@Nat.mul_comm
abbrev p0:=@Nat.zero_add
abbrev p4:=@List.length_range'
abbrev p5:=@Array.forIn_toList
abbrev p_:=@Nat.mul_succ
abbrev qw:=@Int.natAbs_natCast
abbrev qx:=@List.set_cons_succ
abbrev ri:=@List.set_cons_zero
abbrev rj:=@List.map_replicate
abbrev aaa:=@PySem.wpAny_bind
abbrev aad:=@of_decide_eq_true
abbrev aae:=@Bool.false_ne_true
abbrev aaf:=@PySem.wpAny_pure
abbrev aag:=@PySem.Heap.get?_push_of_some
abbrev aah:=@PySem.Heap.lt_size
abbrev aai:=@List.mem_cons_of_mem
abbrev aaj:=@Nat.le_refl
abbrev aak:=@List.mem_cons_self
abbrev aal:=@Nat.lt_of_lt_of_le
abbrev aam:=@List.mem_append_right
abbrev aan:=@Nat.ne_of_lt
abbrev aao:=@PySem.Heap.get?_push_size
abbrev aap:=@List.getElem?_eq_getElem
abbrev aaq:=@Option.some.inj
abbrev aar:=@PyProof.Rows.callWith_type1
abbrev aas:=@List.mem_of_getElem?
abbrev aat:=@Nat.ne_of_gt
abbrev aau:=@Nat.lt_irrefl
abbrev aav:=@PySem.wpAny_mono
abbrev aaw:=@List.mem_append_left
abbrev aax:=@List.mem_map_of_mem
abbrev aay:=@List.map_congr_left
abbrev aaz:=@PySem.wpAny_newObj_type
abbrev aaD:=@Nat.pow_le_pow_right
abbrev aaE:=@Nat.lt_succ_of_lt
abbrev aaF:=@PySem.wpAny_holding
abbrev aaG:=@Nat.le_trans
abbrev aaI:=@congrArg
abbrev aaJ:=@PySem.wpAny_Call_Name_kw
abbrev aaK:=@Nat.lt_of_le_of_lt
abbrev aaL:=@PySem.wpAny_callSpecial?_slot
abbrev aaM:=@PySem.wpAny_call_entry
abbrev aaN:=@decide_eq_true
abbrev aa1:=@PySem.wpAny_field
abbrev aa2:=@PySem.Heap.get?_update_other
abbrev aa3:=@Nat.zero_le
abbrev aa4:=@if_pos
abbrev aa7:=@PySem.wpAny_truthy_bool
abbrev aa8:=@PySem.F.slot_dict_keyiterator_next
abbrev aa9:=@decide_eq_false
abbrev aa_:=@List.cons.inj
abbrev aba:=@List.getElem_mem
abbrev abb:=@PySem.Heap.get?_update_self
abbrev abc:=@PySem.W.kia_one
abbrev abd:=@PySem.wpAny_loadPart_at
abbrev abe:=@PySem.wpAny_typeNameOfWhole_keyiter
abbrev abf:=@PySem.mem_of_lookup
abbrev abg:=@PySem.sizeLine_eq
abbrev abh:=@List.getElem?_set_self
abbrev abi:=@PySem.wpAny_passesOwn
abbrev abj:=@PySem.call_meets
abbrev abk:=@Array.getElem?_eq_getElem
abbrev abl:=@beq_self_eq_true
abbrev abm:=@Nat.lt_succ_self
abbrev abo:=@PySem.wpAny_typeNameOf_keyiter
abbrev abp:=@Int.mul_fdiv_cancel_left
abbrev abq:=@List.mergeSort_perm
abbrev abr:=@PySem.Heap.SameBut.update
abbrev abt:=@Nat.mul_le_mul_left
abbrev abu:=@PySem.W.mg_of
abbrev abv:=@PySem.Calls.spliced_cons
abbrev abw:=@PyProof.Rows.callWith_builtin1
abbrev abx:=@PySem.codeAny_builtin
abbrev aby:=@Int.mul_ne_zero
abbrev abz:=@PySem.Calls.spliced_nil
abbrev abA:=@PySem.F.slot_zip_next
abbrev abB:=@List.length_filter_le
abbrev abC:=@Nat.mul_le_mul
abbrev abD:=@PySem.SeqAt.EqAt.bool_bool
abbrev abE:=@PySem.Calls.Name_function_global
abbrev abF:=@PySem.wpAny_execs_nil
abbrev abJ:=@List.length_map
abbrev abK:=@PySem.AutoSeq1.sub_tuple_tuple
abbrev abY:=@PySem.F.args_tuple_add_2
abbrev abZ:=@Nat.lt_trans
abbrev ab0:=@Ne.symm
abbrev ab1:=@PySem.wpAny_seqItems
abbrev ab3:=@List.nodup_nil
abbrev ab4:=@PySem.F.entry_tuple_add
abbrev ab5:=@PySem.F.plainAttrs_list
abbrev ab6:=@PySem.wpAny_pyIter_enum
abbrev ab7:=@PySem.F.slot_tuple_add
abbrev ab8:=@PyProof.Rows.subscriptTail_builtinR
abbrev ab9:=@PySem.wpAny_nextOf_list_item
abbrev ab_:=@Int.fmod_nonneg_of_pos
abbrev aca:=@PySem.wpAny_attempt
abbrev acb:=@Nat.le_of_dvd
abbrev acd:=@PySem.F.slot_tuple_lt
abbrev ace:=@PySem.F.typeOf_object_class
abbrev acf:=@Eq.symm
abbrev acg:=@PySem.codeAny_mono
abbrev ach:=@PySem.SeqAt.EqAt.same
abbrev aci:=@PySem.Calls.evalArgs_plain
abbrev acj:=@PySem.F.slot_int_rmul
abbrev ack:=@PySem.codeAny_call_builtin
abbrev acm:=@PySem.wpAny_updateSeq
abbrev acn:=@PySem.wpAny_setField
abbrev aco:=@PySem.SeqAt.EqAt.int_str
abbrev acp:=@PySem.SeqAt.EqAt.str_int
abbrev acq:=@PySem.SeqAt.EqAt.int_int
abbrev acr:=@PySem.Code.quiet_builtin
abbrev acs:=@PySem.tupleKind_room_in1
abbrev acu:=@Int.fmod_lt_of_pos
abbrev acv:=@PySem.wpAny_standAt
abbrev acw:=@PySem.wpAny_newList
abbrev acy:=@Nat.le_succ_of_le
abbrev acz:=@PySem.wpAny_dictEntries
abbrev acA:=@Prod.ext
abbrev acB:=@if_neg
abbrev acC:=@Nat.succ_ne_self
abbrev acD:=@List.ext_getElem
abbrev acE:=@Nat.le_add_right
abbrev acF:=@Nat.le_succ
abbrev acG:=@Int.le_refl
abbrev acH:=@PySem.boot_len
abbrev aL:=List (List Int)
abbrev ae:=List Int
abbrev aP:=List Nat
abbrev aq:=List PySem.Str
abbrev az:=List PySem.Value
abbrev ao:=List PySem.Expr
abbrev bj:=List PySem.Addr
abbrev aV:=List PySem.Stmt
abbrev aS:=List Rat
abbrev aW:=Array PySem.Value
abbrev ak:=PySem.W.Frag
abbrev aD:=PySem.Value->PySem.Shared->Prop
abbrev av:=List (PySem.Addr×PySem.Obj)
abbrev aj:=PySem.Addr->Prop
abbrev aY:=PySem.Str->Option PySem.Value
abbrev aK:=PySem.Program
abbrev aN:=PySem.Around
namespace L2
open PySem PySem.Spec PyProof.Rows
end L2
namespace L2
open PySem PySem.Spec PyProof.Rows
inductive V where
 |bP|bl (b:Bool)|int (i:Int)|str (x:Str)|V8 (b:Array UInt8)|VX (b:UInt64)|ref (a:Addr)|ty (n:String)
 deriving DecidableEq
abbrev ah:=List V
def RelV:V->Value->Prop
 |.bP,u=>u=Value.none
 |.bl b,u=>u=Value.bool b
 |.int i,u=>∃t,u=Value.int i t
 |.str x,u=>∃t,u=Value.str x t
 |.V8 b,u=>∃t,u=Value.bytes b t
 |.VX b,u=>∃t,u=Value.float b t
 |.ref a,u=>u=Value.ref a
 |.ty n,u=>u=Value.type n
abbrev Vals:ah->az->Prop:=Paired RelV
theorem Vals.length{xs:ah}{a:az}(r:Vals xs a):xs.length=a.length:=Paired.length r
theorem Vals.get:∀{xs:ah} {a:az} {i:Nat} {x:V},Vals xs a->xs[i]?=some x->∃u,a[i]?=some u/\RelV x u
 |_,_,_,_,.nil,e=>by simp at e
 |_,_,0,_,.cons r _,e=>by simp at e;subst e;exact⟨_,rfl,r⟩
 |_,_,i+1,x,.cons _ t,e=>by
  obtain⟨u,c,b⟩:=Vals.get (i:=i) (x:=x) t (by simpa using e);exact⟨u,by simpa using c,b⟩
theorem Vals.set{x:V}{u:Value}(r:RelV x u):∀{xs:ah} {a:az} (i:Nat),Vals xs a->Vals (xs.set i x) (a.set i u)
 |_,_,_,.nil=>.nil
 |_,_,0,.cons _ t=>.cons r t
 |_,_,i+1,.cons q t=>.cons q (Vals.set r i t)
theorem Vals.append:∀{xs a:ah} {b ws:az},Vals xs b->Vals a ws->Vals (xs++a) (b++ws)
 |_,_,_,_,.nil,s=>s
 |_,_,_,_,.cons r t,s=>.cons r (Vals.append t s)
theorem Vals.take:∀{xs:ah} {a:az} (n:Nat),Vals xs a->Vals (xs.take n) (a.take n)
 |_,_,0,_=>.nil
 |_,_,_+1,.nil=>.nil
 |_,_,n+1,.cons r t=>.cons r (Vals.take n t)
theorem Vals.drop:∀{xs:ah} {a:az} (n:Nat),Vals xs a->Vals (xs.drop n) (a.drop n)
 |_,_,0,r=>r
 |_,_,_+1,.nil=>.nil
 |_,_,n+1,.cons _ t=>Vals.drop n t
def uP:Option V->Option Value->Prop
 |some v,some u=>RelV v u
 |none,none=>True
 |_,_=>False
inductive HO where
 |lst (xs:ah)|tup (xs:ah)|jr (lo hi:Int)|iM (o:Obj) (u:HO)|ext (φ:Heap->Prop)
abbrev Hp:=Addr->Option HO
noncomputable def upd(H:Hp)(a:Addr)(o:HO):Hp:=λb=>if b=a then some o else H b
variable {H:Hp}
def aZ{a:Addr}{o:HO}:upd H a o a=some o:=by unfold upd;rw[cc rfl]
def bp{a b:Addr}{o:HO}(h:b≠a):upd H a o b=H b:=by unfold upd;rw[cb h]
def d8{a b:Addr}{o:HO}(h:H a=some o)(h':H b=none):a≠b:=by
 intro e;subst e;rw[h]at h';cases h'
section
def c_(H:Hp)(h:Heap)(a:Addr):HO->Prop
 |.lst b=>b.length<=sizeLine/\∃(c:az) (n:Nat),Vals b c/\h.get? a=some { cls:=.type "list",data:=.seq c.toArray n }
 |.tup b=>b.length<=sizeLine/\∃c:az,Vals b c/\IsTup h a c.toArray
 |.jr g i=>∃t u v,h.get? a=some { cls:=.type "range",data:=.fields #[.int g t,.int i u,.int 1 v] }
 |.iM o u=>h.get? a=some o/\c_ H h a u
 |.ext d=>d h/\(∃o,h.get? a=some o)/\∀f e:Heap,d f->(∀o,f.get? a=some o->e.get? a=some o)->d e
def j6(H:Hp)(h:Heap):Prop:=∀a o,H a=some o->c_ H h a o
end
section
variable {P:aK}{w:World}{H H':Hp}{h h':Heap}{a:Addr}{o:HO}
def gM(x:c_ H h a o):∃u,h.get? a=some u:=by
 cases o with
 |lst b=>obtain⟨_,_,_,_,e⟩:=x;exact⟨_,e⟩
 |tup b=>obtain⟨_,_,_,o,e,_⟩:=x;exact⟨_,e⟩
 |jr d f=>obtain⟨_,_,_,e⟩:=x;exact⟨_,e⟩
 |iM o u=>exact⟨_,x.1⟩
 |ext c=>exact x.2.1
def c_.lt(x:c_ H h a o):a<h.objs.size:=(gM x).elim λ_ e=>aah e
def c_.jn(x:c_ H h a o)(k:∀u,h.get? a=some u->h'.get? a=some u):c_ H' h' a o:=by
 induction o with
 |lst f=>obtain⟨z,b,n,r,e⟩:=x;exact⟨z,b,n,r,k _ e⟩
 |tup f=>obtain⟨z,b,r,d,e,c⟩:=x;exact⟨z,b,r,d,k _ e,c⟩
 |jr j l=>obtain⟨t,u,v,e⟩:=x;exact⟨t,u,v,k _ e⟩
 |iM d u g=>exact⟨k _ x.1,g x.2⟩
 |ext i=>exact⟨x.2.2 _ _ x.1 k,x.2.1.imp k,x.2.2⟩
theorem j6.lt(x:j6 H h)(e:H a=some o):a<h.objs.size:=(x a o e).lt
def j6.fresh(x:j6 H h)(e:h.objs.size<=a):H a=none:=by
 cases q:H a with
 |none=>rfl
 |some u=>exact absurd (aal (x.lt q) e) (aau _)
def j6.kept(x:j6 H h)(k:∀b u,h.get? b=some u->h'.get? b=some u):j6 H h':=λa o e =>
 (x a o e).jn (k a)
def j6.laid(x:j6 H h)(k:∀b u,h.get? b=some u->h'.get? b=some u)(d:h.objs.size<=a)(new:c_ (upd H a o) h' a o):j6 (upd H a o) h':=λb u e=>by
 have f:=x.fresh d;by_cases c:b=a
 ·subst c;rw[aZ]at e;cases e;exact new
 ·rw[bp c]at e;exact(x b u e).jn (k b)
end
def Rd(H:Hp)(a:Addr)(u:HO):Prop:=H a=some u\/∃o,H a=some (.iM o u)
variable {h:Heap}
def Rd.ok{a:Addr}{u:HO}(r:Rd H a u)(x:j6 H h):c_ H h a u:=by
 rcases r with r|⟨o,r⟩
 ·exact x a u r
 ·obtain⟨_,q⟩:=x a _ r;exact q
def Z0:Option HO->Prop
 |some (.lst _)=>True
 |some (.ext _)=>True
 |_=>False
section
variable {P:aK}{w:World}{H:Hp}{h h':Heap}{x e:Addr}{o':HO}
def j6.write(ok:j6 H h)(k:∀b u,b≠x->h.get? b=some u->h'.get? b=some u)
  (new:c_ (upd H x o') h' x o'):j6 (upd H x o') h':=λb u q=>by
 by_cases a:b=x
 ·subst a;rw[aZ]at q;cases q;exact new
 ·rw[bp a]at q;exact(ok b u q).jn λv=>k b v a
end
structure Un(fs ex:bj)(H H':Hp)(h h':Heap):Prop where
 keep:∀b o,h.get? b=some o->H b=none->b∉fs->b∉ex->h'.get? b=some o
 slot:∀b o,h.get? b=some o->H b=none->b∈fs->b∉ex->∃sl,h'.get? b=some { o with slots:=sl }
 free:∀b o,h.get? b=some o->H b=none->b∉ex->H' b=none
 there:∀b o,h.get? b=some o->b∉ex->∃o',h'.get? b=some o'
 nj:∀b xs,H b=some (.tup xs)->H' b=some (.tup xs)
 mC:∀b o u,H b=some (.iM o u)->H' b=some (.iM o u)
section
variable {fs fs' ex Zk:bj}{H H1 H2:Hp}{h h1 h2 h':Heap}{a x e:Addr}{o:HO}
def Un.any(u:Un fs ex H H1 h h1){b:Addr}{c:Obj}(q:h.get? b=some c)(n:H b=none)(d:b∉ex):∃g,h1.get? b=some { c with slots:=g }:=by
 by_cases f:b∈fs
 ·exact u.slot b c q n f d
 ·exact⟨c.slots,u.keep b c q n f d⟩
def Un.kept(k:∀b u,h.get? b=some u->h'.get? b=some u):Un fs ex H H h h' :=
 ⟨λb c q _ _ _=>k b c q,λb c q _ _ _=>⟨c.slots,k b c q⟩,λ_ _ _ n _=>n,λb c q _=>⟨c,k b c q⟩,λ_ _ q=>q,λ_ _ _ q=>q⟩
def Un.refl:Un fs ex H H h h:=Un.kept λ_ _ q=>q
def Un.laid(k:∀b u,h.get? b=some u->h'.get? b=some u)(d:h.objs.size<=a)(hn:H a=none):Un fs ex H (upd H a o) h h' where
 keep:=λb u q _ _ _=>k b u q
 slot:=λb u q _ _ _=>⟨u.slots,k b u q⟩
 free:=λb u q n _=>by rw[bp (Nat.ne_of_lt (Nat.lt_of_lt_of_le (Heap.lt_size q) d))];exact n
 there:=λb u q _=>⟨u,k b u q⟩
 nj:=λb c q=>by rw[bp (d8 q hn)];exact q
 mC:=λb u c q=>by rw[bp (d8 q hn)];exact q
def Un.write(d:Z0 (H x))(k:∀b u,b≠x->h.get? b=some u->h'.get? b=some u)(l:∃u,h'.get? x=some u):Un fs ex H (upd H x o) h h':=by
 have f:∀b,H b=none->b≠x:=λb n z=>by subst z;rw[n]at d;exact d
 have g:∀b u,H b=some u->¬ Z0 (some u)->b≠x:=λb u q j z=>by subst z;rw[q]at d;exact j d
 refine⟨λb u q n _ _=>k b u (f b n) q,λb u q n _ _=>⟨u.slots,k b u (f b n) q⟩,λb u q n _=>by rw[bp (f b n)];exact n,λb u q _=>?_,
  λb i q=>by rw[bp (g b _ q λz=>z)];exact q,λb u i q=>by rw[bp (g b _ q λz=>z)];exact q⟩
 by_cases c:b=x
 ·subst c;exact l
 ·exact⟨u,k b u c q⟩
end
noncomputable def Vb(h:Heap)(H:Hp):bj:=(List.range h.objs.size).filter λa=>(H a).isSome
def tW(h:Heap)(H:Hp):Heap:=PySem.W.hideAll h (Vb h H)
def BI(h:Heap)(H:Hp):(tW h H).objs.size=h.objs.size:=PySem.W.hideAll_size _ _
variable {o:Obj}
def EY{b:Addr}(e:h.get? b=some o)(n:H b=none):(tW h H).get? b=some o :=
 PySem.W.hideAll_get _ e λa=>by
  have q:(H b).isSome=true:=(List.mem_filter.mp a).2;rw[n]at q;simp at q
def Il{b:Addr}(e:(tW h H).get? b=some o):h.get? b=some o/\H b=none:=by
 have a:h.get? b=some o:=PySem.W.of_hideAll (Vb h H) e;refine⟨a,?_⟩;cases q:H b with
 |none=>rfl
 |some x =>
  have c:b∈Vb h H:=List.mem_filter.mpr ⟨List.mem_range.mpr (aah a),by simp[q]⟩;have z:(tW h H).get? b=none:=PySem.W.hideAll_none (Vb h H) c;rw[z]at e;cases e
end L2
namespace L2
open PySem PySem.Spec PyProof.Rows
structure Mod(K:ak)(mg:aY)(base:Heap):Prop where
 XE:K.In base
 glob:base.Ns mainGlobals mg
 blt:∃mb,base.Ns builtinsNs mb/\∀x:Str,x ≠ "__name__" -> mb x=bootBuiltins x
 nolimit:base.NoLimit
structure Cx where
 prog:aK
 w:World
 K:ak
 mg:aY
 base:Heap
 A:aN
 N:aq
 s₀:Shared
 H₀:Hp
 env:Env
 outer:List Env
 stack:List Env
 ex:bj
 fn:Str->Bool
 calm:Bool
 pn:av
 xe:aD
noncomputable def mD(l:List Env):bj:=l.filterMap (·.frame)
abbrev Cx.fs(X:Cx):bj:=mD X.outer
def Pl(sc:Scope)(x:Str):Prop:=sc.names.lookup x=some .local\/sc.names.lookup x=some .cell\/sc.names.lookup x=some .free
def Loc(sc:Scope)(x:Str):Prop:=sc.names.lookup x=some .local\/sc.names.lookup x=some .cell
def Look(env:Env)(h:Heap)(m:aY)(x:Str)(u:Value):Prop :=
 (env.kindOf x=some .local/\m x=some u)\/((env.kindOf x=some .cell\/env.kindOf x=some .free)/\∃c,env.cells.lookup x=some c/\h.IsCell c (some u))
structure Cx.Ok(X:Cx):Prop where
 mod:Mod X.K X.mg X.base
 kind:X.env.scope.kind=.function
 glob:X.env.globals=mainGlobals
 blt:X.env.builtins=builtinsNs
 above:X.s₀.heap.objs.size<=X.env.locals
 inj:∀x y c,X.env.cells.lookup x=some c->X.env.cells.lookup y=some c->x=y
 has:∀x,(X.env.kindOf x=some .cell\/X.env.kindOf x=some .free)->∃c,X.env.cells.lookup x=some c
 Le:∀x c,X.fn x=true->X.env.cells.lookup x=some c->X.s₀.heap.objs.size<=c
 hd:X.calm=true->X.A.handled=none
 frames:X.A.frames=some X.stack
 L3:X.stack=X.outer\/(X.stack=X.env::X.outer/\X.env.frame=some X.env.locals)
 T6:∀b∈X.ex,b≠X.env.locals/\∀x c,X.env.cells.lookup x=some c->c≠b
 bs:∀b o,X.base.get? b=some o->X.s₀.heap.get? b=some o/\X.H₀ b=none
 Gh:X.base.objs.size<=X.s₀.heap.objs.size
 vM:∀b o,X.base.get? b=some o->b∉X.ex
 yF:∀b∈X.ex,b∉X.fs
 kC:X.s₀.heap.FunFrames X.base X.outer
 Cs:∀b∈X.fs,X.H₀ b=none
structure Inv(X:Cx)(pins:av)(σ:List (Option V))(H:Hp)(s:Shared):Prop where
 ok:X.Ok
 os:s.os=X.s₀.os
 bare:AllBare s.gens
 base:Un X.fs X.ex X.H₀ H X.s₀.heap s.heap
 loc:∃m,s.heap.Ns X.env.locals m/\∀(i:Nat) (x:Str) (v:V),X.N[i]?=some x->σ[i]?=some (some v)->Pl X.env.scope x->∃u,RelV v u/\Look X.env s.heap m x u
 cell:∀x c,X.env.cells.lookup x=some c->∃v,s.heap.IsCell c v
 free:H X.env.locals=none
 gw:∀x c,X.env.cells.lookup x=some c->H c=none
 pin:∀p∈X.pn++pins,s.heap.get? p.1=some p.2/\H p.1=none/\p.1≠X.env.locals/\p.1∉X.fs/\∀v,p.2.data≠.cell v
 cD:j6 H s.heap
 len:σ.length=X.N.length
variable {A:aN}{E:Value->Shared->Prop}{Q:Unit->Shared->Prop}{ch:bj}{t':Nat}
section
variable {X:Cx}{pins:av}{σ:List (Option V)}{H H':Hp}{s:Shared}{h':Heap}
def Cx.Ok.Xr(ok:X.Ok){b:Addr}{o:Obj}(e:X.base.get? b=some o):b∉X.fs:=λa=>by
 have:=(ok.kC.mem a).1;rw[e]at this;cases this
theorem Inv.bs(I:Inv X pins σ H s):∀b o,X.base.get? b=some o->s.heap.get? b=some o/\H b=none:=λb o e =>
 ⟨I.base.keep b o (I.ok.bs b o e).1 (I.ok.bs b o e).2 (I.ok.Xr e) (I.ok.vM b o e),I.base.free b o (I.ok.bs b o e).1 (I.ok.bs b o e).2 (I.ok.vM b o e)⟩
def Inv.bk(I:Inv X pins σ H s):∀b o,X.base.get? b=some o->s.heap.get? b=some o:=λb o e=>(I.bs b o e).1
theorem Inv.mod(I:Inv X pins σ H s):Mod X.K X.mg X.base:=I.ok.mod
def Inv.Cp(I:Inv X pins σ H s):X.K.In s.heap:=I.ok.mod.XE.keeps I.bk
theorem Inv.lt(I:Inv X pins σ H s):X.env.locals<s.heap.objs.size:=let ⟨_,hn,_⟩:=I.loc;hn.lt
def Inv.sz(I:Inv X pins σ H s):X.s₀.heap.objs.size<=s.heap.objs.size:=aaG I.ok.above (Nat.le_of_lt I.lt)
def Inv.MU(I:Inv X pins σ H s){a:Addr}(h:s.heap.objs.size<=a):a∉X.fs:=λc=>by
 obtain⟨_,o,b,_⟩:=I.ok.kC.mem c;exact absurd (aal (aah b) (aaG I.sz h)) (aau _)
def Inv.JT(I:Inv X pins σ H s):∀x c,X.env.cells.lookup x=some c->c≠X.env.locals:=λx c e z=>by
 obtain⟨v,o,a,b⟩:=I.cell x c e;obtain⟨m,⟨g,h,i,d,f,_⟩,_⟩:=I.loc;rw[z,d]at a;cases a;rw[f]at b;cases b
theorem Inv.kC(I:Inv X pins σ H s):s.heap.FunFrames X.base X.outer:=by
 have all:∀(l:List Env),(∀b∈mD l,b∈X.fs)->X.s₀.heap.FunFrames X.base l->s.heap.FunFrames X.base l:=by
  intro l;induction l with
  |nil=>intro _ _;trivial
  |cons n r g =>
   intro f hl;obtain⟨k,⟨L,o,a,j,i,m⟩,h⟩:=hl;have d:L∈X.fs:=f L (by unfold mD;rw[ij,a];exact aak);obtain⟨p,e⟩:=I.base.slot L o i (I.ok.Cs L d) d λz=>I.ok.yF L z d;exact⟨k,⟨L,_,a,j,e,m⟩,g (λb c=>f b (by unfold mD;rw[ij,a];exact aai _ c)) h⟩
 exact all X.outer (λ_ c=>c) I.ok.kC
theorem Inv.stack(I:Inv X pins σ H s):s.heap.FunFrames X.base X.stack:=by
 rcases I.ok.L3 with e|⟨e,b⟩
 ·rw[e];exact I.kC
 ·rw[e];obtain⟨m,a,_⟩:=I.loc;refine .cons (by rw[I.ok.kind];decide) b a ?_ I.kC;exact Heap.get?_none_of_le (aaG I.ok.Gh I.ok.above)
def Inv.kv(I:Inv X pins σ H s):∀b∈mD X.stack,b∈X.env.locals::X.fs:=λb a=>by
 rcases I.ok.L3 with e|⟨e,c⟩
 ·rw[e]at a;exact aai _ a
 ·rw[e]at a;unfold mD at a;rw[ij,c]at a;exact a
def Inv.lj(I:Inv X pins σ H s):∀b∈mD X.stack,H b=none:=λb a=>by
 rcases List.mem_cons.mp (I.kv b a)with e|a
 ·rw[e];exact I.free
 ·obtain⟨_,o,c,_⟩:=I.ok.kC.mem a;exact I.base.free b o c (I.ok.Cs b a) λz=>I.ok.yF b z a
def Inv.step{g':Array GenState}{d':Drawn}(I:Inv X pins σ H s)
  (B:∀b∈ch,(b∈X.ex\/X.s₀.heap.objs.size<=b)/\b≠X.env.locals/\(∀x c,X.env.cells.lookup x=some c->c≠b)/\∀p∈X.pn++pins,p.1≠b)
  (keep:∀b o,b≠X.env.locals->b∉X.fs->b∉ch->s.heap.get? b=some o->H b=none->h'.get? b=some o)
  (slot:∀b o,b≠X.env.locals->b∈X.fs->b∉ch->s.heap.get? b=some o->H b=none->∃D,h'.get? b=some { o with slots:=D }) (free:∀b o,b∉ch->s.heap.get? b=some o->H b=none->H' b=none)
  (there:∀b o,b∉ch->s.heap.get? b=some o->∃t,h'.get? b=some t)
  (M:∀b f,H b=some (.tup f)->H' b=some (.tup f)) (N:∀b o u,H b=some (.iM o u)->H' b=some (.iM o u))
  (ns:∀m,s.heap.Ns X.env.locals m->h'.Ns X.env.locals m) (S:j6 H' h') (P:AllBare g') :
  Inv X pins σ H' { s with heap:=h',gens:=g',drawn:=d',toks:=t' }:=by
 have w:∀b o,X.s₀.heap.get? b=some o->b≠X.env.locals:=λb o e=>aan (aal (aah e) I.ok.above);have C:∀b o,X.s₀.heap.get? b=some o->b∉X.ex->b∉ch:=λb o e a g=>by
  rcases(B b g).1 with z|z
  ·exact a z
  ·exact absurd (aal (aah e) z) (aau _)
 have cellK:∀x c,X.env.cells.lookup x=some c->∀v,s.heap.IsCell c v->h'.IsCell c v:=λx c e v T=>by
  obtain⟨o,j,F⟩:=T;have y:c∉ch:=λz=>(B c z).2.2.1 x c e rfl;by_cases L:c∈X.fs
  ·obtain⟨D,q⟩:=slot c o (I.JT x c e) L y j (I.gw x c e);exact⟨_,q,F⟩
  ·exact⟨o,keep c o (I.JT x c e) L y j (I.gw x c e),F⟩
 refine⟨I.ok,I.os,P,⟨λb o e n g a=>?_,λb o e n g a=>?_,λb o e n a=>?_,λb o e a=>?_,λb f e=>M b f (I.base.nj b f e),λb o f e=>N b o f (I.base.mC b o f e)⟩,?_,λx c e=>?_,?_,λx c e=>?_,λp K=>?_,S,I.len⟩
 ·exact keep b o (w b o e) g (C b o e a) (I.base.keep b o e n g a) (I.base.free b o e n a)
 ·obtain⟨D,h⟩:=I.base.slot b o e n g a;obtain⟨U,G⟩:=slot b _ (w b o e) g (C b o e a) h (I.base.free b o e n a);exact⟨U,G⟩
 ·obtain⟨t,h⟩:=I.base.there b o e a;exact free b t (C b o e a) h (I.base.free b o e n a)
 ·obtain⟨t,h⟩:=I.base.there b o e a;exact there b t (C b o e a) h
 ·obtain⟨m,O,hl⟩:=I.loc;refine⟨m,ns m O,λi x v h G R=>?_⟩;obtain⟨u,r,l⟩:=hl i x v h G R;refine⟨u,r,?_⟩;rcases l with l|⟨k,c,e,z⟩
  ·exact .inl l
  ·exact .inr ⟨k,c,e,cellK x c e _ z⟩
 ·obtain⟨v,z⟩:=I.cell x c e;exact⟨v,cellK x c e v z⟩
 ·obtain⟨m,⟨o,_,_,j,_⟩,_⟩:=I.loc;exact free _ o (λz=>(B _ z).2.1 rfl) j I.free
 ·obtain⟨v,o,j,F⟩:=I.cell x c e;exact free c o (λz=>(B c z).2.2.1 x c e rfl) j (I.gw x c e)
 ·obtain⟨e,n,ne,J,d⟩:=I.pin p K;have y:p.1∉ch:=λz=>(B p.1 z).2.2.2 p K rfl;exact⟨keep p.1 p.2 ne J y e n,free p.1 p.2 y e n,ne,J,d⟩
def Inv.un(I:Inv X pins σ H s)(u:Un X.fs [] H H' s.heap h')(i:j6 H' h'):Inv X pins σ H' { s with heap:=h',toks:=t' }:=by
 obtain⟨m,⟨o,t,v,d,r⟩,_⟩:=id I.loc;obtain⟨l,h⟩:=u.any d I.free (by simp);exact I.step (g':=s.gens) (d':=s.drawn) (ch:=[]) (λ_ z=>nomatch z) (λb o _ a _ e n=>u.keep b o e n a (by simp)) (λb o _ a _ e n=>u.slot b o e n a (by simp)) (λb o _ e n=>u.free b o e n (by simp)) (λb o _ e=>u.there b o e (by simp)) u.nj u.mC (λq g=>by
  obtain⟨p,j,k,c,f⟩:=g;rw[d]at c;cases c;exact⟨_,j,k,h,f⟩) i I.bare
def Inv.call{g':Array GenState}{d':Drawn}(I:Inv X pins σ H s)(u:Un (mD X.stack) ch H H' s.heap h')(q:j6 H' h')(k:AllBare g')
  (h:∀b∈ch,(b∈X.ex\/X.s₀.heap.objs.size<=b)/\b≠X.env.locals/\(∀x c,X.env.cells.lookup x=some c->c≠b)/\∀p∈X.pn++pins,p.1≠b) :
  Inv X pins σ H' { s with heap:=h',gens:=g',drawn:=d',toks:=t' }:=by
 obtain⟨m,⟨o,C,D,g,r⟩,_⟩:=id I.loc;obtain⟨w,d⟩:=u.any g I.free λz=>(h _ z).2.1 rfl;exact I.step (ch:=ch) h (λb o d l a e n=>u.keep b o e n (λz=>(List.mem_cons.mp (I.kv b z)).elim d l) a) (λb o _ _ a e n=>u.any e n a) (λb o a e n=>u.free b o e n a) (λb o a e=>u.there b o e a) u.nj u.mC (λB j=>by
  obtain⟨y,t,v,f,i⟩:=j;rw[g]at f;cases f;exact⟨_,t,v,d,i⟩) q k
def Inv.turned{it:Addr}(I:Inv X pins σ H s)(k:∀b o,b≠it->s.heap.get? b=some o->h'.get? b=some o)(hn:H it=none)(d:it≠X.env.locals)
  (l:it∈X.ex\/X.s₀.heap.objs.size<=it) (j:∀x c,X.env.cells.lookup x=some c->c≠it) (i:∀p∈X.pn++pins,p.1≠it):Inv X pins σ H { s with heap:=h',toks:=t' }:=by
 have w:∀b u,H b=some u->b≠it:=λb u e z=>by rw[z,hn]at e;cases e
 refine I.step (g':=s.gens) (d':=s.drawn) (ch:=[it]) (λb h=>?_) (λb o _ _ a e _=>k b o (λz=>a (by simp[z])) e) (λb o _ _ a e _=>⟨o.slots,k b o (λz=>a (by simp[z])) e⟩) (λ_ _ _ _ n=>n)
  (λb o a e=>⟨o,k b o (λz=>a (by simp[z])) e⟩) (λ_ _ e=>e) (λ_ _ _ e=>e) (λm g=>?_) (λb u e=>?_) I.bare
 ·have e:b=it:=by simpa using h
  subst e;exact⟨l,d,j,i⟩
 ·obtain⟨o,q,t,f,r⟩:=g;exact⟨o,q,t,k _ o (ab0 d) f,r⟩
 ·exact(I.cD b u e).jn λv=>k b v (w b u e)
def Inv.tok(I:Inv X pins σ H s)(t:Nat):Inv X pins σ H { s with toks:=t }:=I.un (h':=s.heap) (t':=t) Un.refl I.cD
theorem Inv.kept{t':Nat}(I:Inv X pins σ H s)(k:∀b u,s.heap.get? b=some u->h'.get? b=some u):Inv X pins σ H { s with heap:=h',toks:=t' }:=I.un (Un.kept k) (I.cD.kept k)
theorem Inv.laid{a:Addr}{o:HO}{t':Nat}(I:Inv X pins σ H s)(k:∀b u,s.heap.get? b=some u->h'.get? b=some u)(c:s.heap.objs.size<=a)(new:c_ (upd H a o) h' a o):
  Inv X pins σ (upd H a o) { s with heap:=h',toks:=t' }:=I.un (Un.laid k c (I.cD.fresh c)) (I.cD.laid k c new)
theorem Inv.write{x:Addr}{o:HO}{t':Nat}(I:Inv X pins σ H s)(a:Z0 (H x))(k:∀b u,b≠x->s.heap.get? b=some u->h'.get? b=some u)(c:∃u,h'.get? x=some u)
  (new:c_ (upd H x o) h' x o):Inv X pins σ (upd H x o) { s with heap:=h',toks:=t' }:=I.un (Un.write a k c) (I.cD.write k new)
def Inv.jT{a:av}(I:Inv X pins σ H s)(h:∀p∈a,s.heap.get? p.1=some p.2/\H p.1=none/\p.1≠X.env.locals/\p.1∉X.fs/\∀v,p.2.data≠.cell v):Inv X a σ H s :=
 ⟨I.ok,I.os,I.bare,I.base,I.loc,I.cell,I.free,I.gw,λp b=>(List.mem_append.mp b).elim (λz=>I.pin p (aaw _ z)) (h p),I.cD,I.len⟩
def vN{N:aq}(c:N.Nodup){i j:Nat}{x:Str}(a:N[i]?=some x)(b:N[j]?=some x):i=j:=by
 obtain⟨g,e⟩:=List.getElem?_eq_some_iff.mp a;obtain⟨f,d⟩:=List.getElem?_eq_some_iff.mp b;exact(List.getElem_inj c).mp (e.trans d.symm)
def A7{M:Model}{i:Nat}{x:Str}{v:V}{u:Value}(I:Inv X pins σ H s)(hN:X.N.Nodup)(G:X.N[i]?=some x)(l:Loc X.env.scope x)(r:RelV v u)
  (h:∀T,Inv X pins (σ.set i (some v)) H T->(∃a,Heap.SameBut a s.heap T.heap/\(a=X.env.locals\/X.env.cells.lookup x=some a))->Q () T) (hf:X.fn x=true\/X.env.scope.names.lookup x=some .local:=by first|exact .inl rfl|exact .inr rfl|assumption):wpAny M A (storeName X.env x u) Q E s:=by
 obtain⟨m,hn,hl⟩:=id I.loc;have pB:(X.env.scope.kind==.class||(X.env.scope.kind==.module&&X.env.locals != X.env.globals))=false:=by rw[I.ok.kind];rfl
 have SU:i<σ.length:=by rw[I.len];exact(List.getElem?_eq_some_iff.mp G).1
 have JT:=I.JT;have tracked:∀{a:Addr} {h':Heap},(∃o,s.heap.get? a=some o/\H a=none)->Heap.SameBut a s.heap h'->j6 H h':=λ{a h'} ha f b ob e=>by
  obtain⟨_,_,SY⟩:=ha;exact(I.cD b ob e).jn λK q=>(f.2 b (by rintro rfl;rw[SY]at e;cases e)).trans q
 rcases l with B|B
 ·refine wpAny_storeName_local B hn (λh' xy f=>?_) pB;obtain⟨oL,_,_,SM,_⟩:=id hn;refine h _ ⟨I.ok,I.os,I.bare,⟨λb o e n D l=>?_,λb o e n D l=>?_,I.base.free,λb o e l=>?_,I.base.nj,I.base.mC⟩,⟨_,xy,λj y P g w e3=>?_⟩,λy c e=>?_,I.free,I.gw,λp Z=>?_,tracked ⟨oL,SM,I.free⟩ f,by simpa using I.len⟩ ⟨_,f,.inl rfl⟩
  ·exact(f.2 b (aan (aal (aah e) I.ok.above))).trans (I.base.keep b o e n D l)
  ·obtain⟨S,g⟩:=I.base.slot b o e n D l;exact⟨S,(f.2 b (aan (aal (aah e) I.ok.above))).trans g⟩
  ·obtain⟨W,g⟩:=I.base.there b o e l;exact⟨W,(f.2 b (aan (aal (aah e) I.ok.above))).trans g⟩
  ·by_cases C:j=i
   ·subst C;rw[G]at g;cases g;rw[List.getElem?_set_self SU]at w;cases w;exact⟨u,r,.inl ⟨B,by simp⟩⟩
   ·rw[List.getElem?_set_ne (Ne.symm C)]at w;obtain⟨R,U,q⟩:=hl j y P g w e3;refine⟨R,U,?_⟩;rcases q with ⟨k,e⟩|⟨k,c,e,z⟩
    ·refine .inl ⟨k,?_⟩;have:y≠x:=λe=>C (vN hN g (e▸G));simp[this,e]
    ·exact .inr ⟨k,c,e,z.sameBut f (JT y c e)⟩
  ·obtain⟨K,z⟩:=I.cell y c e;exact⟨K,z.sameBut f (JT y c e)⟩
  ·obtain⟨e,n,ne,Y,d⟩:=I.pin p Z;exact⟨(f.2 p.1 ne).trans e,n,ne,Y,d⟩
 ·have O:X.fn x=true:=by
   rcases hf with z|z
   ·exact z
   ·rw[z]at B;cases B
  obtain⟨c,t⟩:=I.ok.has x (.inl B);obtain⟨K,z⟩:=I.cell x c t;refine wpAny_storeName_cell I.ok.kind B t z (λh' GS f=>?_);obtain⟨oc,F,Yv⟩:=id z;refine h { s with heap:=h' } ⟨I.ok,I.os,I.bare,⟨λb o e n D l=>?_,λb o e n D l=>?_,I.base.free,λb o e l=>?_,I.base.nj,I.base.mC⟩,⟨m,hn.sameBut f (ab0 (JT x c t)),λj y P g w e3=>?_⟩,λy L e=>?_,I.free,I.gw,λp Z=>?_,tracked ⟨oc,F,I.gw x c t⟩ f,by simpa using I.len⟩ ⟨c,f,.inr t⟩
  ·exact(f.2 b (aan (aal (aah e) (I.ok.Le x c O t)))).trans (I.base.keep b o e n D l)
  ·obtain⟨S,g⟩:=I.base.slot b o e n D l;exact⟨S,(f.2 b (aan (aal (aah e) (I.ok.Le x c O t)))).trans g⟩
  ·obtain⟨W,g⟩:=I.base.there b o e l;exact⟨W,(f.2 b (aan (aal (aah e) (I.ok.Le x c O t)))).trans g⟩
  ·by_cases C:j=i
   ·subst C;rw[G]at g;cases g;rw[List.getElem?_set_self SU]at w;cases w;exact⟨u,r,.inr ⟨.inl B,c,t,GS⟩⟩
   ·rw[List.getElem?_set_ne (Ne.symm C)]at w;obtain⟨R,U,q⟩:=hl j y P g w e3;refine⟨R,U,?_⟩;rcases q with q|⟨k,L,e,z'⟩
    ·exact .inl q
    ·refine .inr ⟨k,L,e,z'.sameBut f ?_⟩;rintro rfl;exact C (vN hN g (I.ok.inj _ _ _ e t▸G))
  ·by_cases J:L=c
   ·subst J;exact⟨_,GS⟩
   ·obtain⟨w2,z2⟩:=I.cell y L e;exact⟨w2,z2.sameBut f J⟩
  ·obtain⟨e,n,ne,Y,d⟩:=I.pin p Z;refine⟨(f.2 p.1 ?_).trans e,n,ne,Y,d⟩;intro q;rw[q,F]at e;have q':oc=p.2:=aaq e;exact d K (by rw[<- q'];exact Yv)
def jm{M:Model}{i:Nat}{x:Str}{v:V}{u:Value}(I:Inv X pins σ H s)(d:X.N.Nodup)(c:X.N[i]?=some x)(b:Loc X.env.scope x)(r:RelV v u)
  (h:∀a,Inv X pins (σ.set i (some v)) H a->Q () a) (hf:X.fn x=true\/X.env.scope.names.lookup x=some .local:=by first|exact .inl rfl|exact .inr rfl|assumption):wpAny M A (storeName X.env x u) Q E s :=
 A7 I d c b r (λa e _=>h a e) hf
def Inv.AG{s':Shared}(I:Inv X pins σ H s)(g:s'.os=s.os)(u:Un (mD X.stack) ch H H' s.heap s'.heap)(i:j6 H' s'.heap)(h:AllBare s'.gens)
  (j:∀b∈ch,(b∈X.ex\/X.s₀.heap.objs.size<=b)/\b≠X.env.locals/\(∀x c,X.env.cells.lookup x=some c->c≠b)/\∀p∈X.pn++pins,p.1≠b):Inv X pins σ H' s':=by
 obtain⟨h',a,d,t',f⟩:=s';have e:f=s.os:=g;subst e;exact I.call (g':=a) (t':=t') (d':=d) u i h j
end
abbrev XK:=Value->Option Addr->Hp->Prop
abbrev St:=List (Option V)
abbrev VK:=V->Hp->Prop
abbrev TE:=St->Hp->VK->Prop
abbrev TT:=St->Hp->(Bool->Hp->Prop)->Prop
abbrev TA:=St->Hp->(ah->Hp->Prop)->Prop
structure Ends where
 nx:St->Hp->Prop
 rt:VK
 bk:St->Hp->Prop:=λ_ _=>False
 ct:St->Hp->Prop:=λ_ _=>False
abbrev TS:=Ends->St->Hp->Prop
def EP(X:Cx)(pins:av)(b:St)(Q:VK)(u:Value)(s':Shared):Prop:=∃v a,Inv X pins b a s'/\RelV v u/\Q v a
def TP(X:Cx)(pins:av)(c:St)(Q:Bool->Hp->Prop)(b:Bool)(s':Shared):Prop:=∃a,Inv X pins c a s'/\Q b a
def AP(X:Cx)(pins:av)(c:St)(Q:ah->Hp->Prop)(d:az)(s':Shared):Prop:=∃a b,Inv X pins c b s'/\Vals a d/\Q a b
def SP(X:Cx)(pins:av)(D:Ends)(f:Flow)(s':Shared):Prop :=
 match f with
 |.next=>∃a b,Inv X pins a b s'/\D.nx a b
 |.brk=>∃a b,Inv X pins a b s'/\D.bk a b
 |.cont=>∃a b,Inv X pins a b s'/\D.ct a b
 |.ret u=>∃v a b,Inv X pins a b s'/\RelV v u/\D.rt v b
def PE(X:Cx)(e:Expr)(t:TE):Prop :=
 ∀(pins:av) (s:Shared) (a:St) (H:Hp) (Q:VK),Inv X pins a H s->t a H Q->wpAny (model X.prog X.w) X.A (eval e X.env) (EP X pins a Q) X.xe s
def PT(X:Cx)(e:Expr)(t:TT):Prop :=
 ∀(pins:av) (s:Shared) (a:St) (H:Hp) (Q:Bool->Hp->Prop),Inv X pins a H s->t a H Q->wpAny (model X.prog X.w) X.A (isTrue e X.env (eval e X.env)) (TP X pins a Q) X.xe s
def PW(X:Cx)(e:Expr)(t:TT):Prop :=
 ∀(whole:Sem Value) (pins:av) (s:Shared) (a:St) (H:Hp) (Q:Bool->Hp->Prop),Inv X pins a H s->t a H Q->wpAny (model X.prog X.w) X.A (isTrue e X.env whole) (TP X pins a Q) X.xe s
def PW.pt{X:Cx}{e:Expr}{t:TT}(h:PW X e t):PT X e t:=h _
def PA(X:Cx)(es:ao)(t:TA):Prop :=
 ∀(pos:Pos) (pins:av) (s:Shared) (a:St) (H:Hp) (Q:ah->Hp->Prop),Inv X pins a H s->t a H Q->wpAny (model X.prog X.w) X.A (spliced (backTo pos (starEach es X.env))) (AP X pins a Q) X.xe s
def PS(X:Cx)(b:Stmt)(t:TS):Prop :=
 ∀(pins:av) (s:Shared) (a:St) (H:Hp) (D:Ends),Inv X pins a H s->t D a H->wpAny (model X.prog X.w) X.A (exec b X.env) (SP X pins D) X.xe s
def iA(X:Cx)(b:aV)(t:TS):Prop :=
 ∀(pins:av) (s:Shared) (a:St) (H:Hp) (D:Ends),Inv X pins a H s->t D a H->wpAny (model X.prog X.w) X.A (execs b X.env) (SP X pins D) X.xe s
def dH{b:Type}{t:Sem b}{Q c:b->Shared->Prop}{M:Model}{s:Shared}(h:wpAny M A t Q E s)(d:∀a s,Q a s->c a s):wpAny M A t c E s:=aav h d λ_ _ x=>x
end L2
namespace L2
open PySem PySem.Spec PyProof.Rows
variable {E Q:Value->Shared->Prop}{H:Hp}{pos:Pos}{σ:L2.St}
section
variable {X:Cx}
def nA(i:Nat):TE:=λσ H Q=>∃v,σ[i]?=some (some v)/\Q v H
def tC(v:V):TE:=λ_ H Q=>Q v H
def ml{i:Nat}{x:Str}(o:X.N[i]?=some x)(j:Pl X.env.scope x)(d:(x==("__debug__" : Str))=false:=by decide)(g:(x==("__classdict__" : Str))=false:=by decide):PE X (.Name x pos) (nA i):=by
 intro pins s σ H Q I h;obtain⟨v,e,h⟩:=h;obtain⟨m,k,hl⟩:=I.loc;obtain⟨u,r,l⟩:=hl i x v o e j;have fin:EP X pins σ Q u s:=⟨v,H,I,r,h⟩
 rcases l with ⟨b,n⟩|⟨b,c,f,a⟩
 ·exact wpAny_Name (wpAny_loadName_local I.ok.kind b k n fin) d
 ·rcases b with b|b
  ·exact wpAny_Name (wpAny_loadName_cell I.ok.kind b f a fin) d
  ·exact wpAny_Name (wpAny_loadName_free I.ok.kind b f a fin g) d
def ME{i j pos}:PE X (.Constant (.int i) j pos) (tC (.int i)):=λ_ _ _ H _ I h=>wpAny_Constant_int ⟨.int i,H,I.tok _,⟨_,rfl⟩,h⟩
def RA{b j pos}:PE X (.Constant (.bool b) j pos) (tC (.bl b)):=λ_ _ _ H _ I h=>Constant_bool ⟨.bl b,H,I,rfl,h⟩
def DW{j pos}:PE X (.Constant .none j pos) (tC .bP):=λ_ _ _ H _ I h=>Constant_none ⟨.bP,H,I,rfl,h⟩
def tm{x j pos}:PE X (.Constant (.str x) j pos) (tC (.str x)):=λ_ _ _ H _ I h=>Calls.Constant_str ⟨.str x,H,I.tok _,⟨_,rfl⟩,h⟩
def Gl(X:Cx)(x:Str):Prop:=X.env.kindOf x=some .globalImplicit
def tO{pins:av}{s:Shared}{x:Str}{u:Value}(I:Inv X pins σ H s)(b:Gl X x)(a:X.mg x=some u)(h:Q u s)
  (c:(x==("__debug__" : Str))=false:=by decide):wpAny (model X.prog X.w) X.A (eval (.Name x pos) X.env) Q E s :=
 abE I.ok.kind b (Calls.loadGlobal_global (by rw[I.ok.glob];exact I.mod.glob.keeps I.bk) a h) c
def d_{pins:av}{s:Shared}{x:Str}{u:Value}(I:Inv X pins σ H s)(c:Gl X x)(b:X.mg x=none)(a:bootBuiltins x=some u)(h:Q u s)
  (hn:x ≠ "__name__":=by decide) (d:(x==("__debug__" : Str))=false:=by decide):wpAny (model X.prog X.w) X.A (eval (.Name x pos) X.env) Q E s:=by
 obtain⟨mb,f,e⟩:=I.mod.blt;exact abE I.ok.kind c (Calls.loadGlobal_builtin (by rw[I.ok.glob];exact I.mod.glob.keeps I.bk) b (by rw[I.ok.blt];exact f.keeps I.bk) ((e x hn).trans a) h) d
def zC{x:Str}{v:V}{u:Value}(b:Gl X x)(a:X.mg x=some u)(r:RelV v u)(c:(x==("__debug__" : Str))=false:=by decide):PE X (.Name x pos) (tC v) :=
 λ_ _ _ H _ I h=>tO I b a ⟨v,H,I,r,h⟩ c
def zE{x:Str}{v:V}{u:Value}(c:Gl X x)(b:X.mg x=none)(a:bootBuiltins x=some u)(r:RelV v u)(hn:x ≠ "__name__":=by decide)(d:(x==("__debug__" : Str))=false:=by decide):PE X (.Name x pos) (tC v) :=
 λ_ _ _ H _ I h=>d_ I c b a ⟨v,H,I,r,h⟩ hn d
variable {a b:Expr}{ta tb:TE}{pos:Pos}
def PC(X:Cx)(op:CmpOp)(a b:Expr)(t:TE):Prop :=
 ∀(pins:av) (s:Shared) (σ:St) (H:Hp) (Q:VK),Inv X pins σ H s->t σ H Q ->
  wpAny (model X.prog X.w) X.A (eval a X.env) (λv d=>wpAny (model X.prog X.w) X.A (eval b X.env) (λu c=>wpAny (model X.prog X.w) X.A (compareOp op v u) (EP X pins σ Q) X.xe c) X.xe d) X.xe s
def Ee(b:Expr){op:CmpOp}(h:op≠.In)(c:op≠.NotIn):behindInMarks op b=false:=by
 have e:(op==CmpOp.In)=false:=by cases op<;>first|rfl|exact absurd rfl h
 have d:(op==CmpOp.NotIn)=false:=by cases op<;>first|rfl|exact absurd rfl c
 cases b<;>simp[behindInMarks,e,d]
def WB(ta:TE):TE:=λσ H Q=>ta σ H λx c=>Q (.bl (decide (x=.bP))) c
def RelV.Eb{x:V}{v:Value}(r:RelV x v):(v==Value.none)=decide (x=.bP):=by
 cases x with
 |bP=>cases r;rfl
 |bl _=>cases r;rfl
 |int _=>obtain⟨t,rfl⟩:=r;rfl
 |str _=>obtain⟨t,rfl⟩:=r;rfl
 |V8 _=>obtain⟨t,rfl⟩:=r;rfl
 |VX _=>obtain⟨t,rfl⟩:=r;rfl
 |ref _=>cases r;rfl
 |ty _=>cases r;rfl
def MG{j pos'}(e:PE X a ta):PC X .Is a (.Constant .none j pos') (WB ta):=by
 intro pins s σ H Q I h;refine dH (e pins s σ H _ I h) λv k f=>?_;obtain⟨x,i,g,c,d⟩:=f;exact Constant_none (is_none_gen ⟨.bl _,i,g,by rw[c.Eb];rfl,d⟩)
def tB(t:TE):TT:=λσ H Q=>t σ H λx d=>∃c,x=.bl c/\Q c d
def Mw{op:CmpOp}{t:TE}(h:PC X op a b t)(e:behindInMarks op b=false:=by first|exact Ee _ (by decide) (by decide)|rfl):PT X (.Compare a [op] [b] pos) (tB t):=by
 intro pins s σ H Q I hw;refine wpAny_isTrue_Compare1 (dH (h pins s σ H _ I hw) λv o e=>dH e λu n i=>dH i λc m j=>?_) e;obtain⟨x,l,k,f,g⟩:=j;obtain⟨d,rfl,q⟩:=g;cases f;exact aa7 ⟨l,k,q⟩
def DE{e:Expr}{t:TE}(h:PE X e t)(he:∀whole,isTrue e X.env whole=(do let v <- whole;standAt e.pos;holding [v] (truthy v)):=by intro _;rfl):PT X e (tB t):=by
 intro pins s σ H Q I hw;refine isTrue_plain (dH (h pins s σ H _ I hw) λv k g=>?_) (he _);obtain⟨x,j,i,c,f⟩:=g;obtain⟨d,rfl,q⟩:=f;cases c;exact aa7 ⟨j,i,q⟩
variable {tA Ve:TT}{rest:ao}
def QS(t u:TT):TT:=λσ H Q=>t σ H λc d=>if c=true then u σ d Q else Q false d
def tOr(t u:TT):TT:=λσ H Q=>t σ H λc d=>if c=true then Q true d else u σ d Q
def Wy(t:TT):TT:=λσ H Q=>t σ H λc d=>Q (!c) d
def HV(d:PT X a tA):PW X (.BoolOp .And [a] pos) tA:=by
 intro f pins s σ H Q I h;refine isTrue_and (dH (d pins s σ H Q I h) λc g e=>?_);cases c with
 |true=>exact isTrue_and_nil e
 |false=>exact e
def DD(d:PT X a tA):PW X (.BoolOp .Or [a] pos) tA:=by
 intro f pins s σ H Q I h;refine isTrue_or (dH (d pins s σ H Q I h) λc g e=>?_);cases c with
 |false=>exact isTrue_or_nil e
 |true=>exact e
def Mv(k:PT X a tA)(j:PW X (.BoolOp .And (b::rest) pos) Ve):PW X (.BoolOp .And (a::b::rest) pos) (QS tA Ve):=by
 intro g pins s σ H Q I h;refine isTrue_and (dH (k pins s σ H _ I h) λc i ⟨f,e,d⟩=>?_);cases c with
 |true=>exact j g pins i σ f Q e d
 |false=>exact⟨f,e,d⟩
def Ky(k:PT X a tA)(j:PW X (.BoolOp .Or (b::rest) pos) Ve):PW X (.BoolOp .Or (a::b::rest) pos) (tOr tA Ve):=by
 intro g pins s σ H Q I h;refine isTrue_or (dH (k pins s σ H _ I h) λc i ⟨f,e,d⟩=>?_);cases c with
 |true=>exact⟨f,e,d⟩
 |false=>exact j g pins i σ f Q e d
def DF(d:PT X a tA):PT X (.UnaryOp .Not a pos) (Wy tA):=by
 intro pins s σ H Q I h;exact isTrue_not (d pins s σ H (λc e=>Q (!c) e) I h)
def Kl(ta tb:TE):TE:=λσ H Q=>ta σ H λx d=>∃c,x=.bl c/\if c=true then tb σ d Q else Q (.bl false) d
def QK(ta tb:TE):TE:=λσ H Q=>ta σ H λx d=>∃c,x=.bl c/\if c=true then Q (.bl true) d else tb σ d Q
def QL(ta:TE):TE:=λσ H Q=>ta σ H λx d=>∃c,x=.bl c/\Q (.bl (!c)) d
def DV{op}{t:TE}(h:PE X a t):PE X (.BoolOp op [a] pos) t:=λpins s σ H Q I hw=>BoolOp_one (h pins s σ H Q I hw)
def MF(k:PE X a ta)(j:PE X (.BoolOp .And (b::rest) pos) tb):PE X (.BoolOp .And (a::b::rest) pos) (Kl ta tb):=by
 intro pins s σ H Q I h;refine BoolOp_and (dH (k pins s σ H _ I h) λv g l=>?_);obtain⟨x,f,e,i,d⟩:=l;obtain⟨c,rfl,d⟩:=d;cases i;refine aa7 ?_;cases c with
 |true=>exact j pins g σ f Q e d
 |false=>exact⟨.bl false,f,e,rfl,d⟩
def Rz(k:PE X a ta)(j:PE X (.BoolOp .Or (b::rest) pos) tb):PE X (.BoolOp .Or (a::b::rest) pos) (QK ta tb):=by
 intro pins s σ H Q I h;refine BoolOp_or (dH (k pins s σ H _ I h) λv g l=>?_);obtain⟨x,f,e,i,d⟩:=l;obtain⟨c,rfl,d⟩:=d;cases i;refine aa7 ?_;cases c with
 |false=>exact j pins g σ f Q e d
 |true=>exact⟨.bl true,f,e,rfl,d⟩
def MD(f:PE X a ta):PE X (.UnaryOp .Not a pos) (QL ta):=by
 intro pins s σ H Q I h;refine UnaryOp_ (dH (f pins s σ H _ I h) λv k g=>?_);obtain⟨x,j,i,e,d⟩:=g;obtain⟨c,rfl,d⟩:=d;cases e;exact not_of (aa7 ⟨.bl (!c),j,i,rfl,d⟩)
end
end L2
namespace L2
open PySem PySem.Spec PyProof.Rows
def dq(K:ak)(H:Hp)(a:Addr)(xs:ah):Prop :=
 Rd H a (.lst xs) \/
  ∃(o:Obj) (b:aW) (n:Nat),K.lookup a=some o/\o.cls=.type "list" /\ o.dict=none/\o.data=.seq b n/\b.size<=sizeLine/\Vals xs b.toList
def bc(K:ak)(H:Hp)(a:Addr)(xs:ah):Prop :=
 Rd H a (.tup xs) \/
  ∃(o:Obj) (b:aW) (n:Nat),K.lookup a=some o/\o.cls=.type "tuple" /\ o.data=.seq b n/\b.size<=sizeLine/\Vals xs b.toList
noncomputable def ZW:Value->Option V
 |.none=>some .bP
 |.bool b=>some (.bl b)
 |.int i _=>some (.int i)
 |.str x _=>some (.str x)
 |.bytes b _=>some (.V8 b)
 |.float b _=>some (.VX b)
 |.ref a=>some (.ref a)
 |.type n=>some (.ty n)
 |_=>none
def RelV.abs{x:V}{u:Value}(r:RelV x u):ZW u=some x:=by
 cases x with
 |bP=>cases r;rfl
 |bl _=>cases r;rfl
 |int _=>obtain⟨t,rfl⟩:=r;rfl
 |str _=>obtain⟨t,rfl⟩:=r;rfl
 |V8 _=>obtain⟨t,rfl⟩:=r;rfl
 |VX _=>obtain⟨t,rfl⟩:=r;rfl
 |ref _=>cases r;rfl
 |ty _=>cases r;rfl
def RelV.inj{x y:V}{u:Value}(r:RelV x u)(q:RelV y u):x=y:=aaq (r.abs.symm.trans q.abs)
theorem Vals.inj:∀{xs a:ah} {b:az},Vals xs b->Vals a b->xs=a
 |_,_,_,.nil,.nil=>rfl
 |_,_,_,.cons r t,.cons r' t'=>by rw[r.inj r',Vals.inj t t']
variable {K:ak}
section
variable {X:Cx}{pins:av}{σ:St}{H:Hp}{s:Shared}{a:Addr}{xs ys:ah}
def dq.of(h:H a=some (.lst xs)):dq K H a xs:=.inl (.inl h)
def bc.of(h:H a=some (.tup xs)):bc K H a xs:=.inl (.inl h)
def Inv.list(I:Inv X pins σ H s)(h:dq X.K H a xs):∃b:az,Vals xs b/\PlainL s.heap a b.toArray/\xs.length<=sizeLine:=by
 rcases h with h|⟨o,b,n,d,g,f,c,i,r⟩
 ·obtain⟨z,b,n,r,e⟩:=h.ok I.cD;exact⟨b,r,⟨_,n,e,rfl,rfl,rfl⟩,z⟩
 ·refine⟨b.toList,r,⟨o,n,I.Cp a o d,g,f,by simpa using c⟩,?_⟩;have e:=r.length;simp only[gA]at e;left
def Inv.tuple(I:Inv X pins σ H s)(h:bc X.K H a xs):∃b:az,Vals xs b/\IsTup s.heap a b.toArray/\xs.length<=sizeLine:=by
 rcases h with h|⟨o,b,n,d,f,c,g,r⟩
 ·obtain⟨z,b,r,p⟩:=h.ok I.cD;exact⟨b,r,p,z⟩
 ·refine⟨b.toList,r,⟨o,I.Cp a o d,f,n,by simpa using c⟩,?_⟩;have e:=r.length;simp only[gA]at e;left
def Inv.jx(I:Inv X pins σ H s)(h:dq X.K H a xs)(h':dq X.K H a ys):xs=ys:=by
 obtain⟨i,r,⟨o,n,e,_,_,d⟩,_⟩:=I.list h;obtain⟨b,g,⟨j,k,c,_,_,f⟩,_⟩:=I.list h';rw[e]at c;cases c;rw[d]at f;injection f with d1 _;have:i=b:=by simpa using congrArg Array.toList d1
 subst this;exact r.inj g
def Inv.l_(I:Inv X pins σ H s)(h:bc X.K H a xs)(h':bc X.K H a ys):xs=ys:=by
 obtain⟨i,r,⟨o,e,_,n,d⟩,_⟩:=I.tuple h;obtain⟨b,g,⟨j,c,_,k,f⟩,_⟩:=I.tuple h';rw[e]at c;cases c;rw[d]at f;injection f with d1 _;have:i=b:=by simpa using congrArg Array.toList d1
 subst this;exact r.inj g
end
noncomputable abbrev Cx.oH(X:Cx)(E:aD):Cx:={ X with xe:=E }
abbrev Cx.zJ(X:Cx):Cx:=X.oH λ_ _=>False
theorem Cx.Ok.oH{X:Cx}(ok:X.Ok)(E:aD):(X.oH E).Ok :=
 ⟨ok.mod,ok.kind,ok.glob,ok.blt,ok.above,ok.inj,ok.has,ok.Le,ok.hd,ok.frames,ok.L3,ok.T6,ok.bs,ok.Gh,ok.vM,ok.yF,ok.kC,ok.Cs⟩
variable {E:Value->Shared->Prop}{X:Cx}
def Cx.Ok.iG(ok:(X.oH E).Ok):X.Ok :=
 ⟨ok.mod,ok.kind,ok.glob,ok.blt,ok.above,ok.inj,ok.has,ok.Le,ok.hd,ok.frames,ok.L3,ok.T6,ok.bs,ok.Gh,ok.vM,ok.yF,ok.kC,ok.Cs⟩
section
variable {X:Cx}{pins:av}{σ:St}{H:Hp}{s:Shared}{E:aD}
theorem Inv.oH(I:Inv X pins σ H s)(E:aD):Inv (X.oH E) pins σ H s:=⟨I.ok.oH E,I.os,I.bare,I.base,I.loc,I.cell,I.free,I.gw,I.pin,I.cD,I.len⟩
theorem Inv.iG(I:Inv (X.oH E) pins σ H s):Inv X pins σ H s:=⟨I.ok.iG,I.os,I.bare,I.base,I.loc,I.cell,I.free,I.gw,I.pin,I.cD,I.len⟩
theorem SP.iG{D:Ends}{f:Flow}{s':Shared}(h:SP (X.oH E) pins D f s'):SP X pins D f s':=by
 cases f with
 |next=>obtain⟨a,b,I,q⟩:=h;exact⟨a,b,I.iG,q⟩
 |brk=>obtain⟨a,b,I,q⟩:=h;exact⟨a,b,I.iG,q⟩
 |cont=>obtain⟨a,b,I,q⟩:=h;exact⟨a,b,I.iG,q⟩
 |ret u=>obtain⟨v,a,b,I,r,q⟩:=h;exact⟨v,a,b,I.iG,r,q⟩
theorem iA.zJ{a:aV}{t:TS}(h:iA X.zJ a t):iA X a t:=λpins s σ H D I hw =>
 aav (h pins s σ H D (I.oH _) hw) (λ_ _ q=>q.iG) λ_ _ z=>False.elim z
end
variable {H:Hp}{σ:L2.St}
section
variable {X:Cx}{st:Stmt}{rest:aV}{t u:TS}{e:Expr}{te:TE}{pos:Pos}
def QN:TS:=λD σ H=>D.nx σ H
def Wv(t u:TS):TS:=λD σ H=>t { D with nx:=u D } σ H
def sW:iA X [] QN:=λ_ _ σ H _ I h=>abF ⟨σ,H,I,h⟩
def dZ(d:PS X st t)(c:iA X rest u):iA X (st::rest) (Wv t u):=by
 intro pins s σ H D I h;refine wpAny_execs_cons (dH (d pins s σ H { D with nx:=u D } I h) λf b q=>?_);cases f with
 |next =>
  obtain⟨a,i,g,q⟩:=q;exact c pins b a i D g q
 |ret v=>exact q
 |brk=>exact q
 |cont=>exact q
def iJ(a:PS X st t):iA X [st] t:=by
 intro pins s σ H D I h;refine wpAny_execs_cons (dH (a pins s σ H D I h) λf b q=>?_);cases f with
 |next=>exact abF q
 |ret v=>exact q
 |brk=>exact q
 |cont=>exact q
def Inv.quiet{pins:av}{s:Shared}(I:Inv X pins σ H s):interactive X.env=false:=by simp[interactive,I.ok.kind]
def QP(te:TE):TS:=λD σ H=>te σ H λ_ a=>D.nx σ a
def nS(he:PE X e te)(hs:swapsWith e none pos.line X.env=pure false:=by rfl):PS X (.Expr e pos) (QP te):=by
 intro pins s σ H D I h;exact wpAny_Expr_any (dH (he pins s σ H _ I h) λv d ⟨x,c,b,f,a⟩=>⟨σ,c,b,a⟩) I.quiet hs
def Ww(te:TE):TS:=λD σ H=>te σ H D.rt
def o3(he:PE X e te):PS X (.Return (some e) pos) (Ww te):=by
 intro pins s σ H D I h;exact wpAny_Return_some (dH (he pins s σ H _ I h) λv f ⟨x,d,c,a,b⟩=>⟨x,σ,d,c,a,b⟩)
def WC(c:TT)(t u:TS):TS:=λD σ H=>c σ H λb a=>if b=true then t D σ a else u D σ a
def vD{c:Expr}{a b:aV}{f:TT}(l:PT X c f)(n:iA X a t)(m:iA X b u):PS X (.If c a b pos) (WC f t u):=by
 intro pins s σ H D I h;refine wpAny_If (dH (l pins s σ H _ I h) λd g ⟨k,j,i⟩=>?_);cases d with
 |true=>exact n pins g σ k D j i
 |false=>exact m pins g σ k D j i
def LY:TS:=λ_ _ _=>False
end
abbrev TG:=V->St->Hp->(St->Hp->Prop)->Prop
abbrev J9:=ah->St->Hp->(St->Hp->Prop)->Prop
def PG(X:Cx)(target:Expr)(t:TG):Prop :=
 ∀(pins:av) (s:Shared) (σ:St) (H:Hp) (v:V) (u:Value) (Q:St->Hp->Prop),Inv X pins σ H s->RelV v u->t v σ H Q ->
  wpAny (model X.prog X.w) X.A (assign target X.env u) (λ_ c=>∃a b,Inv X pins a b c/\Q a b) X.xe s
def Qm(X:Cx)(d:ao)(t:J9):Prop :=
 ∀(pins:av) (s:Shared) (σ:St) (H:Hp) (vs:ah) (b:az) (Q:St->Hp->Prop),Inv X pins σ H s->Vals vs b->t vs σ H Q ->
  wpAny (model X.prog X.w) X.A (assignInOrder ((assignEach d X.env).map (·.2)) b) (λ_ e=>∃a c,Inv X pins a c e/\Q a c) X.xe s
abbrev Pm:=V->V->V->Hp->(Hp->Prop)->Prop
def U4(X:Cx)(t:Pm):Prop :=
 ∀(pins:av) (s:Shared) (σ:St) (H:Hp) (o i v:V) (a b u:Value) (Q:Hp->Prop),Inv X pins σ H s->RelV o a->RelV i b->RelV v u->t o i v H Q ->
  wpAny (model X.prog X.w) X.A (setItem a b u) (λ_ d=>∃c,Inv X pins σ c d/\Q c) X.xe s
variable {es:ao}{te:TE}{tg:Expr}
section
variable {X:Cx}{pos:Pos}
def pJ(i:Nat):TG:=λv σ H Q=>Q (σ.set i (some v)) H
def tf{i:Nat}{x:Str}(c:X.N.Nodup)(b:X.N[i]?=some x)(a:Loc X.env.scope x)(hf:X.fn x=true\/X.env.scope.names.lookup x=some .local:=by first|exact .inl rfl|exact .inr rfl|assumption):PG X (.Name x pos) (pJ i):=by
 intro pins s σ H v u Q I r h;exact wpAny_assign_Name (jm I c b a r (λe d=>⟨_,H,d,h⟩) hf)
def Og:J9:=λa σ H Q=>a=[]/\Q σ H
def Fq(t:TG)(u:J9):J9:=λb σ H Q=>∃v r,b=v::r/\t v σ H λa c=>u r a c Q
def zy:Qm X [] Og:=by
 intro pins s σ H a b Q I r h;obtain⟨e,h⟩:=h;subst e;cases r;exact assignInOrder_nil ⟨σ,H,I,h⟩
def vF{e:Expr}{t:TG}{u:J9}(g:PG X e t)(f:Qm X es u)
  (hs:(assignEach (e::es) X.env).map (·.2)=assign e X.env::(assignEach es X.env).map (·.2):=by rfl):Qm X (e::es) (Fq t u):=by
 intro pins s σ H m o Q I r h;obtain⟨v,n,i,h⟩:=h;subst i;cases r with
 |cons r c =>
  rw[hs];refine assignInOrder_cons (dH (g pins s σ H _ _ _ I r h) λ_ b j=>?_);obtain⟨a,l,k,d⟩:=j;exact f pins b a l _ _ Q k c d
def Y9(K:ak)(n:Nat)(t:J9):TG:=λv σ H Q=>∃a b,v=.ref a/\bc K H a b/\b.length=n/\t b σ H Q
def DR{k:Nat}{t:J9}{n:Nat}(l:X.calm=true)(h:Qm X es t)
  (hn:(assignEach es X.env).length=n:=by rfl) (f:(assignEach es X.env).findIdx? (·.1)=none:=by rfl):PG X (.Tuple es k pos) (Y9 X.K n t):=by
 intro pins s σ H v u Q I r hw;obtain⟨a,d,p,j,hl,hw⟩:=hw;subst p;cases r;obtain⟨x,c,i,w⟩:=I.tuple j;refine assign_Tuple_tuple (I.ok.hd l) i (by simp[hn,<- hl,c.length]) f λm g=>?_;have q:Inv X pins σ H { s with heap:=m }:=I.kept (t':=s.toks) λb o e=>g b o (aan (aah e)) e;exact h pins _ σ H d _ Q q (by simpa using c) hw
def Y_(to a:TE)(t:Pm):TG:=λv σ H Q=>to σ H λo d=>a σ d λi c=>t o i v c λb=>Q σ b
def MB{o i:Expr}{to d:TE}{t:Pm}(n:PE X o to)(p:PE X i d)(hs:U4 X t)
  (q:∀v,assign (.Subscript o i pos) X.env v=(do
   let a <- holding [v] (eval o X.env)
   let b <- holding [v,a] (eval i X.env)
   standAt pos
   holding [v,a,b] (setItem a b v)
   release [v,a,b] []):=by intro _;rfl):PG X (.Subscript o i pos) (Y_ to d t):=by
 intro pins s σ H v u Q I r h;rw[q];refine aaa (aaF (dH (n pins s σ H _ I h) λa f c=>?_));obtain⟨x,D,A,j,m⟩:=c;refine aaa (aaF (dH (p pins f σ D _ A m) λb e c=>?_));obtain⟨y,C,z,g,l⟩:=c;refine aaa (acv (aaa (aaF (dH (hs pins e σ C x y v a b u _ z j g r l) λ_ F c=>?_))));obtain⟨B,w,k⟩:=c;exact wpAny_release ⟨σ,B,w,k⟩
def QR(te:TE)(g:TG):TS:=λD σ H=>te σ H λx a=>g x σ a D.nx
def DK{e:Expr}{g:TG}(he:PE X e te)(d:PG X tg g)(hs:swapsWithSole [tg] e pos.line X.env=pure false:=by rfl)(hw:swappedStores [tg] e X.env=pure none:=by rfl)
  (f:(assignEach [tg] X.env).map (·.2)=[assign tg X.env]:=by rfl):PS X (.Assign [tg] e pos) (QR te g):=by
 intro pins s σ H D I h;refine wpAny_Assign_stores (dH (he pins s σ H _ I h) λv a i=>?_) hs hw;obtain⟨x,k,j,b,c⟩:=i;rw[f];exact dH (d pins a σ k x v _ j b c) λ_ l q=>q
def oZ{i:Nat}{x:Str}{e:Expr}{pos':Pos}(f:X.N.Nodup)(d:X.N[i]?=some x)(c:Loc X.env.scope x)(he:PE X e te)(hs:swapsWith e (some (.Name x pos')) pos.line X.env=pure false:=by rfl)(hf:X.fn x=true\/X.env.scope.names.lookup x=some .local:=by first|exact .inl rfl|exact .inr rfl|assumption):
  PS X (.Assign [.Name x pos'] e pos) (QR te (pJ i)):=by
 intro pins s σ H D I h;refine wpAny_Assign_Name (dH (he pins s σ H _ I h) λv n g=>?_) hs;obtain⟨y,l,k,a,b⟩:=g;exact jm k f d c a (λm j=>⟨_,l,j,b⟩) hf
def Wx(i j:Nat)(b:TA):TS:=λD σ H=>b σ H λa c=>∃v w,a=[v,w]/\D.nx ((σ.set i (some v)).set j (some w)) c
def Mx{i j:Nat}{x y:Str}{a b:Expr}{g:TA}{px f pt:Pos}{kt k2 PJ}(P:X.calm=true)(m:X.N.Nodup)(O:X.N[i]?=some x)(M:X.N[j]?=some y)(F:i≠j)
  (l:X.env.scope.names.lookup x=some .local) (k:X.env.scope.names.lookup y=some .local) (Q:PA X [a,b] g)
  (hw:swappedStores [.Tuple [.Name x px,.Name y f] kt pt] (.Tuple [a,b] k2 PJ) X.env=pure (some [x,y]))
  (hs:swapsWithSole [.Tuple [.Name x px,.Name y f] kt pt] (.Tuple [a,b] k2 PJ) pos.line X.env=pure false:=by rfl) :
  PS X (.Assign [.Tuple [.Name x px,.Name y f] kt pt] (.Tuple [a,b] k2 PJ) pos) (Wx i j g):=by
 intro pins s σ H D I h;rw[exec_Assign_arm];refine aaa (acv ?_);rw[hs];refine aaa (aaf ?_);rw[cb (by decide)];refine aaa (Tuple_ (dH (Q _ pins s σ H _ I h) λz c S=>?_));obtain⟨Y,t,W,C,d⟩:=S;obtain⟨v,w,R,d⟩:=d;subst R;obtain⟨u1,u2,rfl,B,L⟩:∃u1 u2,z=[u1,u2]/\RelV v u1/\RelV w u2:=by
  cases C with
  |cons p q =>
   cases q with
   |cons J G =>
    cases G;exact⟨_,_,rfl,p,J⟩
 refine aaz ?_ (by show 2<=sizeLine;decide);have V:Inv X pins σ t { c with heap:=c.heap.push { cls:=.type "tuple",data:=.seq [u1,u2].toArray } }:=W.kept (t':=c.toks) λb o e=>aag _ e;rw[hw];refine aaa (aaf ?_);show wpAny (model X.prog X.w) X.A (do rule "assign.swapped-stores";let items <- unpackItems (.ref c.heap.objs.size) 2 none;assignInOrder [λv=>bindName X.env y v,λv=>bindName X.env x v] items.reverse;pure Flow.next) _ _ _;refine aaa (wpAny_rule (aaa (unpackItems_tuple (items:=#[u1,u2]) (I.ok.hd P) (IsTup.new c.heap _) λn u=>?_)));have U:=V.kept (h':=n) (t':=c.toks) λb o e=>u b o (aan (aah e)) e;show wpAny _ _ (assignInOrder [λv=>bindName X.env y v,λv=>bindName X.env x v] [u2,u1] >>= λ_=>pure Flow.next) _ _ _;refine aaa (assignInOrder_cons (wpAny_bindName (jm U m M (.inl k) L (λs2 T=>?_) (.inr k))));refine assignInOrder_cons (wpAny_bindName (jm T m O (.inl l) B (λZ r=>assignInOrder_nil (aaf ?_)) (.inr l)));rw[List.set_comm _ _ (Ne.symm F)]at r;exact⟨_,t,r,d⟩
end
section
variable {X:Cx}{pos:Pos}
def LW(c:TT)(tb:TS):TS:=λD σ H=>∃W:Nat->St->Hp->Prop,(∃m,W m σ H)/\∀m σ H,W m σ H ->
 c σ H λb e=>if b=true then ∃N:St->Hp->Prop,(∀a f,N a f->∃d,d<m/\W d a f)/\tb { D with nx:=N,ct:=N,bk:=D.nx } σ e else D.nx σ e
def DG{c:Expr}{body:aV}{p:TT}{tb:TS}(q:PassesOwn (model X.prog X.w) X.A X.env X.xe)(J:PT X c p)(L:iA X body tb):PS X (.While c body [] pos) (LW p tb):=by
 intro pins s σ H D I h;obtain⟨W,⟨G,z⟩,turn⟩:=h;refine wpAny_While (codeAny_whileLoop (λn F=>∃e y,Inv X pins e y F/\W n e y) ?_ G ⟨σ,H,I,z⟩);rintro n C ⟨d,x,M,w1⟩;refine abi q (dH (J pins C d x _ M (turn n d x w1)) λb B ⟨u,t,j⟩=>?_);cases b with
 |true =>
  obtain⟨N,r,j⟩:=j;rw[cc rfl];refine abi q (dH (L pins B d u _ t j) λf O i=>?_);cases f with
  |next =>
   obtain⟨a,g,o,k⟩:=i;obtain⟨l,m,w3⟩:=r a g k;exact⟨l,m,a,g,o,w3⟩
  |cont =>
   obtain⟨a,g,o,k⟩:=i;obtain⟨l,m,w3⟩:=r a g k;exact⟨l,m,a,g,o,w3⟩
  |brk=>exact i
  |ret v=>exact i
 |false =>
  rw[cb dX];exact abF ⟨d,u,t,j⟩
end
structure It where
 go:Nat->Hp->Prop
 uW:Nat->Hp->V->Hp->Prop
 stop:Nat->Hp->Prop
def qq(X:Cx)(pins:av)(H:Hp)(b:Addr):Prop :=
 H b=none/\b≠X.env.locals/\b∉X.fs/\(b∈X.ex\/X.s₀.heap.objs.size<=b)/\(∀x c,X.env.cells.lookup x=some c->c≠b)/\∀p∈X.pn++pins,p.1≠b
def Inv.yD{pins:av}{H':Hp}{s:Shared}{b:Addr}(I:Inv X pins σ H s)(a:s.heap.objs.size<=b)(hn:H' b=none):qq X pins H' b:=by
 refine⟨hn,aat (aal I.lt a),I.MU a,.inr (aaG I.sz a),λx c e z=>?_,λp d z=>?_⟩
 ·obtain⟨v,q⟩:=I.cell x c e;exact absurd (aal q.lt (by rw[z];exact a)) (aau _)
 ·exact absurd (aal (aah (I.pin p d).1) (by rw[z];exact a)) (aau _)
structure Turn(P:aK)(w:World)(K:ak)(tg:Expr)(J:It)(fp:bj)(it:Addr)(tn:Nat->Heap->Prop):Prop where
 mem:it∈fp
 obj:∀i h,tn i h->∀b∈fp,∃o,h.get? b=some o/\∀v,o.data≠.cell v
 keep:∀i h h',tn i h->(∀b∈fp,∀o,h.get? b=some o->h'.get? b=some o)->tn i h'
 item:∀(X:Cx),X.prog=P->X.w=w->X.K=K->X.calm=true->∀(i:Nat) (pins:av) (s:Shared) (σ:St) (H:Hp) (E:aD),Inv X pins σ H s->(∀b∈fp,qq X pins H b)->tn i s.heap->J.go i H ->
  wpAny (model P w) X.A (pyNext (.ref it)) (λr s1=>∃u,r=some u /\
   wpAny (model P w) X.A (letOwnedTupleGo tg (.ref it) u) (λ_ s2=>∃x H',Inv X pins σ H' s2/\RelV x u/\J.uW i H x H'/\tn (i+1) s2.heap/\∀b∈fp,H' b=none) E s1) E s
 done:∀(X:Cx),X.prog=P->X.w=w->X.K=K->X.calm=true->∀(i:Nat) (pins:av) (s:Shared) (σ:St) (H:Hp) (E:aD),Inv X pins σ H s->(∀b∈fp,qq X pins H b)->tn i s.heap->J.stop i H ->
  wpAny (model P w) X.A (pyNext (.ref it)) (λr s1=>r=none/\Inv X pins σ H s1) E s
 self:∀(A:aN) (i:Nat) (s:Shared) (Q:aD) (E:aD),tn i s.heap->Q (.ref it) s->wpAny (model P w) A (pyIter (.ref it)) Q E s
abbrev TI:=St->Hp->(It->Hp->Prop)->Prop
def Cv(X:Cx)(pins:av)(σ:St)(tg:Expr)(R:It->Hp->Prop)(c:Value)(s2:Shared):Prop :=
 ∃(it:Addr) (fp:bj) (a:Nat->Heap->Prop) (J:It) (H':Hp),c=.ref it/\Inv X pins σ H' s2/\Turn X.prog X.w X.K tg J fp it a/\a 0 s2.heap/\(∀b∈fp,qq X pins H' b)/\R J H'
def PI(X:Cx)(tg iter:Expr)(a:TI):Prop :=
 ∀(pins:av) (s:Shared) (σ:St) (H:Hp) (R:It->Hp->Prop),Inv X pins σ H s->a σ H R ->
  wpAny (model X.prog X.w) X.A (eval iter X.env) (λv b=>wpAny (model X.prog X.w) X.A (pyIter v) (Cv X pins σ tg R) X.xe b) X.xe s
def z6{M:Model}{A:aN}{s:Shared}{it:Addr}{u:Value}{o:Obj}{n:String}{vs:aW}{Q:Unit->Shared->Prop}(b:s.heap.get? it=some o)(d:o.cls=.type n)(c:o.data=.fields vs)
    (hn:["enumerate","zip","dict_itemiterator","dict_reverseitemiterator","odict_iterator","itertools.zip_longest","itertools.pairwise"].contains n=false) (a:Q () s):wpAny M A (letOwnedTupleGo tg (.ref it) u) Q E s:=by
  unfold letOwnedTupleGo;cases tg<;>first
    |exact aaf a
    | (cases u<;>first
        |exact aaf a
        | (refine aaa (wpAny_load b ?_)
           rw[d,c];show wpAny M A (if (["enumerate","zip","dict_itemiterator","dict_reverseitemiterator","odict_iterator","itertools.zip_longest","itertools.pairwise"].contains n&&vs[0]?==some (rawInt _))=true then _ else _) Q E s;rw[cb (by intro h;rw[hn,Bool.false_and]at h;cases h)];exact aaf a))
noncomputable def Qp(K:ak)(a:Addr):It :=
 ⟨λi H=>∃b x,dq K H a b/\b[i]?=some x,λi H x c=>c=H/\∀b,dq K H a b->b[i]?=some x,λi H=>∃b,dq K H a b/\b.length<=i⟩
noncomputable def Qo(K:ak)(a:Addr):It :=
 ⟨λi H=>∃b x,bc K H a b/\b[i]?=some x,λi H x c=>c=H/\∀b,bc K H a b->b[i]?=some x,λi H=>∃b,bc K H a b/\b.length<=i⟩
noncomputable def Cw(lo:Int)(n:Nat):It:=⟨λi _=>i<n,λi H x a=>a=H/\x=.int (lo+i),λi _=>n<=i⟩
variable {P:aK}{w:World}
def A0(a it:Addr):Turn P w K tg (Qp K a) [it] it (λi h=>h.IsListIter it a i) where
 mem:=by simp
 obj:=λi h f b g=>by
  have e:b=it:=by simpa using g
  subst e;obtain⟨o,e,c,d⟩:=f;exact⟨o,e,λv z=>by rw[d]at z;cases z⟩
 keep:=λi h m f k=>f.at λo e=>k it (by simp) o e
 item:=by
  intro X t hw y J i pins s σ H E I l f r;subst t hw y;obtain⟨L,x,j,q⟩:=r;obtain⟨U,n,p,O⟩:=I.list j;obtain⟨u,R,N⟩:=n.get q;obtain⟨F,D,S,C,B,A⟩:=l it (by simp);refine wpAny_pyNext_list_item f p.isList (x:=u) (by simpa using R) λm G M=>?_;have V:Inv X pins σ H { s with heap:=m }:=I.turned (t':=s.toks) (λb o g e=>(M.2 b g).trans e) F D C B A;obtain⟨o,e,c,d⟩:=id G;exact⟨u,rfl,z6 (s:={ s with heap:=m }) e c d (by decide) ⟨x,H,V,N,⟨rfl,λW Q=>by rw[I.jx Q j];exact q⟩,G,λb g=>(l b g).1⟩⟩
 done:=by
  intro X t hw y J i pins s σ H E I l f r;subst t hw y;obtain⟨L,j,q⟩:=r;obtain⟨U,n,p,O⟩:=I.list j;obtain⟨F,D,S,C,B,A⟩:=l it (by simp);have hl:=n.length;exact wpAny_pyNext_list_end (I.ok.hd J) f p.isList (by simp;left) λm T=>⟨rfl,I.turned (t':=s.toks) (λb o g e=>T b o g e) F D C B A⟩
 self:=λ_ _ _ _ _ f h=>wpAny_pyIter_listiter f h
def xN(a it:Addr):Turn P w K tg (Qo K a) [it] it (λi h=>h.IsTupleIter it a i) where
 mem:=by simp
 obj:=λi h f b g=>by
  have e:b=it:=by simpa using g
  subst e;obtain⟨o,e,c,d⟩:=f;exact⟨o,e,λv z=>by rw[d]at z;cases z⟩
 keep:=λi h m f k=>f.at λo e=>k it (by simp) o e
 item:=by
  intro X t hw y L i pins s σ H E I l f r;subst t hw y;obtain⟨M,x,j,q⟩:=r;obtain⟨G,n,p,Q⟩:=I.tuple j;obtain⟨u,S,O⟩:=n.get q;obtain⟨F,D,T,C,B,A⟩:=l it (by simp);refine wpAny_pyNext_tuple_item f (show s.heap.IsTuple a G.toArray from p) (x:=u) (by simpa using S) λm J N=>?_;have V:Inv X pins σ H { s with heap:=m }:=I.turned (t':=s.toks) (λb o g e=>(N.2 b g).trans e) F D C B A;obtain⟨o,e,c,d⟩:=id J;exact⟨u,rfl,z6 (s:={ s with heap:=m }) e c d (by decide) ⟨x,H,V,O,⟨rfl,λW R=>by rw[I.l_ R j];exact q⟩,J,λb g=>(l b g).1⟩⟩
 done:=by
  intro X t hw y L i pins s σ H E I l f r;subst t hw y;obtain⟨M,j,q⟩:=r;obtain⟨G,n,p,Q⟩:=I.tuple j;obtain⟨F,D,T,C,B,A⟩:=l it (by simp);have hl:=n.length;exact wpAny_pyNext_tuple_end (I.ok.hd L) f (show s.heap.IsTuple a G.toArray from p) (by simp;left) λm U=>⟨rfl,I.turned (t':=s.toks) (λb o g e=>U b o g e) F D C B A⟩
 self:=λ_ _ _ _ _ f h=>wpAny_pyIter_tupleiter f h
def xO(it:Addr)(lo:Int)(n:Nat):Turn P w K tg (Cw lo n) [it] it (λi h=>IsRangeIter h it (lo+(i:Nat)*1) ((n:Int) - (i:Nat)) 1) where
 mem:=by simp
 obj:=λi h a b c=>by
  have e:b=it:=by simpa using c
  subst e;exact⟨_,a,λv z=>by
   have B:Data.fields _=Data.cell v:=z;cases B⟩
 keep:=λi h f a k=>k it (by simp) _ a
 item:=by
  intro X l hw m j i pins s σ H E I d a g;subst l hw m;obtain⟨x,u,F,r,q,p⟩:=d it (by simp);have W:=Walks.range (prog:=X.prog) (w:=X.w) (I.ok.hd j) it lo 1 n;refine W.item i s _ _ g a λv f y D A C=>?_;obtain⟨t,rfl⟩:=D;have J:Inv X pins σ H { s with heap:=f,toks:=y }:=I.turned (λb o c e=>C b o (by simpa using c) e) x u r q p;refine⟨_,rfl,z6 (s:={ s with heap:=f,toks:=y }) (n:="range_iterator") A rfl rfl (by decide) ⟨.int (lo+i),H,J,⟨t,?_⟩,⟨rfl,rfl⟩,A,λb c=>(d b c).1⟩⟩;rw[Int.mul_one]
 done:=by
  intro X l hw m j i pins s σ H E I d a g;subst l hw m;obtain⟨x,u,F,r,q,p⟩:=d it (by simp);exact wpAny_pyNext_range_end (I.ok.hd j) a (by have:n<=i:=g;left) λf G=>⟨rfl,I.turned (t':=s.toks) (λb o c e=>G b o c e) x u r q p⟩
 self:=λ_ _ _ _ _ a h=>wpAny_pyIter_rangeiter a h
end L2
namespace L2
open PySem PySem.Spec PyProof.Rows
variable {H:Hp}{fp:bj}{h:Heap}{lo:Int}{pos:Pos}{σ:L2.St}
section
variable {X:Cx}{tg:Expr}
def Sl(K:ak)(d:TE):TI:=λσ H R=>d σ H λx b=>∃a,x=.ref a/\(∃c,dq K b a c)/\R (Qp K a) b
def X7(K:ak)(d:TE):TI:=λσ H R=>d σ H λx b=>∃a,x=.ref a/\(∃c,bc K b a c)/\R (Qo K a) b
def s_{l:Expr}{f:TE}(hl:PE X l f):PI X tg l (Sl X.K f):=by
 intro pins s σ H R I h;refine dH (hl pins s σ H _ I h) λv c m=>?_;obtain⟨x,n,d,g,i⟩:=m;obtain⟨a,e,⟨r,j⟩,q⟩:=i;subst e;cases g;obtain⟨w,t,p,u⟩:=d.list j;refine wpAny_pyIter_list p.isList ?_;refine⟨c.heap.objs.size,[c.heap.objs.size],_,_,n,rfl,d.kept (t':=c.toks) λb o e=>aag _ e,A0 a _,⟨_,aao _ rfl,rfl,rfl⟩,λb k=>?_,q⟩;have e:b=c.heap.objs.size:=by simpa using k
 subst e;exact d.yD (aaj _) (d.cD.fresh (aaj _))
def yc{l:Expr}{f:TE}(hl:PE X l f):PI X tg l (X7 X.K f):=by
 intro pins s σ H R I h;refine dH (hl pins s σ H _ I h) λv c m=>?_;obtain⟨x,r,d,g,i⟩:=m;obtain⟨a,e,⟨t,j⟩,q⟩:=i;subst e;cases g;obtain⟨n,u,p,w⟩:=d.tuple j;refine wpAny_pyIter_tuple (show c.heap.IsTuple a n.toArray from p) ?_;refine⟨c.heap.objs.size,[c.heap.objs.size],_,_,r,rfl,d.kept (t':=c.toks) λb o e=>aag _ e,xN a _,⟨_,aao _ rfl,rfl,rfl⟩,λb k=>?_,q⟩;have e:b=c.heap.objs.size:=by simpa using k
 subst e;exact d.yD (aaj _) (d.cD.fresh (aaj _))
def Dz{pins:av}{s:Shared}{R:It->Hp->Prop}{E:aD}{a:Int}{t u v:Tok}{tk:Nat}(I:Inv X pins σ H s)(j:-(2 ^ 62)<=lo)(i:lo<2 ^ 62)(g:-(2 ^ 62)<=a)(f:a<2 ^ 62)
  (q:R (Cw lo (a - lo).toNat) H):wpAny (model X.prog X.w) X.A (pyIter (.ref s.heap.objs.size)) (Cv X pins σ tg R) E { s with heap:=s.heap.push { cls:=.type "range",data:=.fields #[.int lo t,.int a u,.int 1 v] },toks:=tk }:=by
 refine wpAny_pyIter_range (IsRange.new ..) (small_one j i g f) ?_;have c:Inv X pins σ H { s with heap:=s.heap.push { cls:=.type "range",data:=.fields #[.int lo t,.int a u,.int 1 v] },toks:=tk }:=I.kept λb o e=>aag _ e;refine⟨(s.heap.push { cls:=.type "range",data:=.fields #[.int lo t,.int a u,.int 1 v] }).objs.size,[(s.heap.push { cls:=.type "range",data:=.fields #[.int lo t,.int a u,.int 1 v] }).objs.size],_,_,H,rfl,
  c.kept (t':=tk) λb o e=>aag _ e,xO _ lo (a - lo).toNat,?_,λb d=>?_,q⟩
 ·have l:lo+((0:Nat):Int)*1=lo:=by simp
  have k:(((a - lo).toNat:Nat):Int) - ((0:Nat):Int)=Builtin.Range.rangeSize lo a 1:=by rw[rangeSize_one];split<;>left
  show IsRangeIter _ _ (lo+((0:Nat):Int)*1) ((((a - lo).toNat:Nat):Int) - ((0:Nat):Int)) 1;rw[l,k];exact aao _ rfl
 ·have e:b=(s.heap.push { cls:=.type "range",data:=.fields #[.int lo t,.int a u,.int 1 v] }).objs.size:=by simpa using d
  subst e;exact c.yD (aaj _) (c.cD.fresh (aaj _))
def Sk(b:TA):TI:=λσ H R=>b σ H λa c=>∃j:Int,a=[.int j] /\ -(2 ^ 62)<=j/\j<2 ^ 62/\R (Cw 0 j.toNat) c
def rG{a:Expr}{c:TA}{p:Pos}(k:Gl X "range")(i:X.mg "range" = none)(l:PA X [a] c)(hs:starEach [a] X.env=[(false,eval a X.env)]:=by rfl):PI X tg (.Call (.Name "range" p) [a] [] pos) (Sk c):=by
 intro pins s σ H R I h;refine Call_ (d_ I k i boot_range (aar (dH (l pos pins s σ H _ I h) λu v m=>?_) hs rfl));obtain⟨o,w,n,f,b⟩:=m;obtain⟨j,e,b,g,q⟩:=b;subst e;cases f with
 |cons r d =>
  cases d;obtain⟨t,rfl⟩:=r;exact call_range_1 (Dz n (by left) (by left) b g (by simpa using q))
def WD(e:TI)(g:TG)(tb:TS):TS:=λD σ H=>e σ H λJ j=>∃W:Nat->Nat->St->Hp->Prop,(∃m,W 0 m σ j)/\∀i m σ H,W i m σ H ->
 (J.stop i H/\D.nx σ H)\/(J.go i H/\∃N:St->Hp->Prop,(∀a b,N a b->∃d,d<m/\W (i+1) d a b)/\∀x b,J.uW i H x b->g x σ b λc f=>tb { D with nx:=N,ct:=N,bk:=D.nx } c f)
noncomputable def js(fp:bj)(h:Heap):av:=fp.filterMap λb=>(h.get? b).map λo=>(b,o)
def iL{b:Addr}{o:Obj}(a:b∈fp)(e:h.get? b=some o):(b,o)∈js fp h:=List.mem_filterMap.mpr ⟨b,a,by rw[e];rfl⟩
def rK{p:Addr×Obj}(a:p∈js fp h):p.1∈fp/\h.get? p.1=some p.2:=by
 obtain⟨b,c,e⟩:=List.mem_filterMap.mp a;cases q:h.get? b with
 |none=>rw[q]at e;cases e
 |some o =>
  rw[q]at e;have d:(b,o)=p:=aaq e;subst d;exact⟨c,q⟩
def Inv.pinned{pins:av}{s:Shared}(I:Inv X pins σ H s)(hf:∀b∈fp,qq X pins H b)(g:∀b∈fp,∃o,s.heap.get? b=some o/\∀v,o.data≠.cell v):Inv X (pins++js fp s.heap) σ H s :=
 I.jT λp f=>(List.mem_append.mp f).elim (λz=>I.pin p (aam _ z)) λz=>by
  obtain⟨a,e⟩:=rK z;obtain⟨k,j,i,_⟩:=hf p.1 a;obtain⟨o,c,d⟩:=g p.1 a;rw[e]at c;cases c;exact⟨e,k,j,i,d⟩
def Inv.k_{pins a:av}{s:Shared}(I:Inv X (pins++a) σ H s):Inv X pins σ H s:=I.jT λp b=>I.pin p (aam _ (aaw _ b))
def kz{iter:Expr}{body:aV}{O:TI}{g:TG}{tb:TS}(B:PassesOwn (model X.prog X.w) X.A X.env X.xe)(U:X.calm=true)(hi:PI X tg iter O)(hg:PG X tg g)(k:iA X body tb)
  (hs:∀x,foldedSetIterable iter X.env x=pure x:=by intro _;rfl):PS X (.For tg iter body [] pos) (WD O g tb):=by
 intro pins s σ H D I h;refine wpAny_For (dH (hi pins s σ H _ I h) λv s1 h1=>dH h1 λXU s2 h2=>?_) hs;obtain⟨it,fp,P,J,H2,e,I2,T,Q0,V,W,⟨m0,w0⟩,turn⟩:=h2;subst e;have M:∀{H':Hp},(∀b∈fp,H' b=none)->∀b∈fp,qq X pins H' b:=λhn b k=>⟨hn b k,(V b k).2⟩
 refine codeAny_forLoop_any (λn S=>∃i j H',Inv X pins j H' S/\P i S.heap/\(∀b∈fp,H' b=none)/\W i n j H') ?_ m0 ⟨0,σ,H2,I2,Q0,λb k=>(V b k).1,w0⟩;rintro n R ⟨i,c,E,Y,y,C,w3⟩;rcases turn i n c E w3 with ⟨stop,qn⟩|⟨go,N,hN,step⟩
 ·refine abi B (dH (T.done X rfl rfl rfl U i pins R c E X.xe Y (M C) y stop) λr s4 t=>?_);obtain⟨K,I4⟩:=t;subst K;exact abF ⟨c,E,I4,qn⟩
 ·refine abi B (dH (T.item X rfl rfl rfl U i pins R c E X.xe Y (M C) y go) λr s4 t=>?_);obtain⟨u,K,h4⟩:=t;subst K;refine abi B (dH h4 λ_ Q t=>?_);obtain⟨x,Z,I5,r5,y5,L,Ze⟩:=t;have Z3:=I5.pinned (M Ze) (T.obj _ _ L);refine abi B (dH (hg _ Q c Z x u _ Z3 r5 (step x Z y5)) λ_ s6 t=>?_);obtain⟨F,H6,I6,q6⟩:=t;refine abi B (dH (k _ s6 F H6 _ I6 q6) λf G q=>?_);have again:∀{a:St} {p:Hp},Inv X (pins++js fp Q.heap) a p G->N a p->∃m,m<n/\∃i j H',Inv X pins j H' G/\P i G.heap/\(∀b∈fp,H' b=none)/\W i m j H':=λ{a p} l z=>by
   obtain⟨m',hm,w7⟩:=hN a p z;refine⟨m',hm,i+1,a,p,l.k_,T.keep _ _ _ L λb k o e=>(l.pin (b,o) (aam _ (aam _ (iL k e)))).1,λb k=>?_,w7⟩;obtain⟨o,e,d⟩:=T.obj _ _ L b k;exact(l.pin (b,o) (aam _ (aam _ (iL k e)))).2.1
  cases f with
  |next=>obtain⟨a,p,l,z⟩:=q;exact again l z
  |cont=>obtain⟨a,p,l,z⟩:=q;exact again l z
  |brk=>obtain⟨a,p,l,q⟩:=q;exact⟨a,p,l.k_,q⟩
  |ret v=>obtain⟨x7,a,p,l,r7,q⟩:=q;exact⟨x7,a,p,l.k_,r7,q⟩
end
variable {K:ak}{xs:ah}
def wm{a:Addr}{g:TG}{tb:TS}{D:Ends}(b:Nat->St->Hp->Prop)(s:b 0 σ H)(hl:∀i σ H,i<=xs.length->b i σ H->dq K H a xs)
  (hs:∀i x σ H,xs[i]?=some x->b i σ H->g x σ H λc j=>tb { D with nx:=b (i+1),ct:=b (i+1),bk:=D.nx } c j) (r:∀σ H,b xs.length σ H->D.nx σ H) :
  ∃W:Nat->Nat->St->Hp->Prop,(∃m,W 0 m σ H)/\∀i m σ H,W i m σ H ->
   ((Qp K a).stop i H/\D.nx σ H)\/((Qp K a).go i H/\∃N:St->Hp->Prop,(∀d f,N d f->∃k,k<m/\W (i+1) k d f)/\∀x f,(Qp K a).uW i H x f->g x σ f λc j=>tb { D with nx:=N,ct:=N,bk:=D.nx } c j):=by
 refine⟨λi m σ H=>m=xs.length - i/\i<=xs.length/\b i σ H,⟨xs.length,by simp,aa3 _,s⟩,?_⟩;rintro i m σ H ⟨rfl,o,p⟩;have q:=hl i σ H o p;by_cases l:i<xs.length
 ·refine .inr ⟨⟨xs,xs[i],q,by simp[l]⟩,b (i+1),λd f n=>⟨xs.length - (i+1),by left,rfl,l,n⟩,λx f y=>?_⟩;obtain⟨e,y⟩:=y;subst e;exact hs i x σ _ (y xs q) p
 ·have e:i=xs.length:=by left
  subst e;exact .inl ⟨⟨xs,q,aaj _⟩,r σ H p⟩
def Ad{a:Addr}{g:TG}{tb:TS}{D:Ends}(b:Nat->St->Hp->Prop)(s:b 0 σ H)(hl:∀i σ H,i<=xs.length->b i σ H->bc K H a xs)
  (hs:∀i x σ H,xs[i]?=some x->b i σ H->g x σ H λc j=>tb { D with nx:=b (i+1),ct:=b (i+1),bk:=D.nx } c j) (r:∀σ H,b xs.length σ H->D.nx σ H) :
  ∃W:Nat->Nat->St->Hp->Prop,(∃m,W 0 m σ H)/\∀i m σ H,W i m σ H ->
   ((Qo K a).stop i H/\D.nx σ H)\/((Qo K a).go i H/\∃N:St->Hp->Prop,(∀d f,N d f->∃k,k<m/\W (i+1) k d f)/\∀x f,(Qo K a).uW i H x f->g x σ f λc j=>tb { D with nx:=N,ct:=N,bk:=D.nx } c j):=by
 refine⟨λi m σ H=>m=xs.length - i/\i<=xs.length/\b i σ H,⟨xs.length,by simp,aa3 _,s⟩,?_⟩;rintro i m σ H ⟨rfl,o,p⟩;have q:=hl i σ H o p;by_cases l:i<xs.length
 ·refine .inr ⟨⟨xs,xs[i],q,by simp[l]⟩,b (i+1),λd f n=>⟨xs.length - (i+1),by left,rfl,l,n⟩,λx f y=>?_⟩;obtain⟨e,y⟩:=y;subst e;exact hs i x σ _ (y xs q) p
 ·have e:i=xs.length:=by left
  subst e;exact .inl ⟨⟨xs,q,aaj _⟩,r σ H p⟩
def BU{n:Nat}{g:TG}{tb:TS}{D:Ends}(c:Nat->St->Hp->Prop)(q:c 0 σ H)
  (hs:∀i σ H,i<n->c i σ H->g (.int (lo+i)) σ H λa j=>tb { D with nx:=c (i+1),ct:=c (i+1),bk:=D.nx } a j) (o:∀σ H,c n σ H->D.nx σ H) :
  ∃W:Nat->Nat->St->Hp->Prop,(∃m,W 0 m σ H)/\∀i m σ H,W i m σ H ->
   ((Cw lo n).stop i H/\D.nx σ H)\/((Cw lo n).go i H/\∃N:St->Hp->Prop,(∀b d,N b d->∃k,k<m/\W (i+1) k b d)/\∀x d,(Cw lo n).uW i H x d->g x σ d λa j=>tb { D with nx:=N,ct:=N,bk:=D.nx } a j):=by
 refine⟨λi m σ H=>m=n - i/\i<=n/\c i σ H,⟨n,by simp,aa3 _,q⟩,?_⟩;rintro i m σ H ⟨rfl,r,p⟩;by_cases f:i<n
 ·refine .inr ⟨f,c (i+1),λb d l=>⟨n - (i+1),by left,rfl,f,l⟩,λx d y=>?_⟩;obtain⟨e,y⟩:=y;subst e y;exact hs i σ _ f p
 ·have e:i=n:=by left
  subst e;exact .inl ⟨aaj _,o σ H p⟩
end L2
namespace L2
open PySem PySem.Spec PyProof.Rows
abbrev R2:=V->V->Hp->VK->Prop
def kW(X:Cx)(f:Value->Value->Sem Value)(r:R2):Prop :=
 ∀(pins:av) (s:Shared) (a:St) (H:Hp) (x y:V) (v u:Value) (Q:VK),Inv X pins a H s->RelV x v->RelV y u->r x y H Q ->
  wpAny (model X.prog X.w) X.A (f v u) (EP X pins a Q) X.xe s
def ZY(X:Cx)(f:Value->Sem Value)(r:V->Hp->VK->Prop):Prop :=
 ∀(pins:av) (s:Shared) (a:St) (H:Hp) (x:V) (v:Value) (Q:VK),Inv X pins a H s->RelV x v->r x H Q ->
  wpAny (model X.prog X.w) X.A (f v) (EP X pins a Q) X.xe s
def fY(X:Cx)(f:Value)(r:ah->Hp->VK->Prop):Prop :=
 ∀(pins:av) (s:Shared) (a:St) (H:Hp) (xs:ah) (b:az) (Q:VK),Inv X pins a H s->Vals xs b->r xs H Q ->
  wpAny (model X.prog X.w) X.A (call f b) (EP X pins a Q) X.xe s
def Ho(r:R2)(b tb:TE):TE:=λa H Q=>b a H λx d=>tb a d λy c=>r x y c Q
def tUn(r:V->Hp->VK->Prop)(b:TE):TE:=λa H Q=>b a H λx c=>r x c Q
def rI(C:Int->Int->Prop)(g:Int->Int->V):R2:=λx y H Q=>∃i j,x=.int i/\y=.int j/\C i j/\Q (g i j) H
def DA(g:Int->Int->V):R2:=λx y H Q=>∃i j,x=.int i/\y=.int j/\Q (g i j) H
def rU(g:Int->V):V->Hp->VK->Prop:=λx H Q=>∃i,x=.int i/\Q (g i) H
section
variable {X:Cx}{a b c:Expr}{ta tb tc:TE}{pos:Pos}
def Pe(t:PE X a ta)(r:PE X b tb){pins:av}{s:Shared}{d:St}{H:Hp}{R:V->V->Hp->Prop}(I:Inv X pins d H s)
  (h:ta d H λx l=>tb d l λy e=>R x y e) {Q:aD} {f:Value->Value->Sem Value}
  (hf:∀v u j x y e,Inv X pins d e j->RelV x v->RelV y u->R x y e->wpAny (model X.prog X.w) X.A (f v u) Q X.xe j) :
  wpAny (model X.prog X.w) X.A (eval a X.env) (λv i=>wpAny (model X.prog X.w) X.A (eval b X.env) (λu g=>wpAny (model X.prog X.w) X.A (f v u) Q X.xe g) X.xe i) X.xe s:=by
 refine dH (t pins s d H _ I h) λv m k=>?_;obtain⟨x,l,B,o,q⟩:=k;refine dH (r pins m d l _ B q) λu j k=>?_;obtain⟨y,e,z,n,p⟩:=k;exact hf v u j x y e z o n p
def vH{op:Operator}{r:R2}(i:kW X (binaryOp op) r)(k:PE X a ta)(j:PE X b tb):PE X (.BinOp a op b pos) (Ho r ta tb):=by
 intro pins s d H Q I h;exact wpAny_BinOp (Pe k j I h λv u e x y m l g f q=>i pins e d m x y v u Q l g f q)
def Ry{op:UnaryOp}{r:V->Hp->VK->Prop}(i:ZY X (unaryOp op) r)(j:PE X a ta):PE X (.UnaryOp op a pos) (tUn r ta):=by
 intro pins s d H Q I h;exact UnaryOp_ (dH (j pins s d H _ I h) λv e ⟨x,l,k,f,g⟩=>i pins e d l x v Q k f g)
def MQ{f:Value->Value->Sem Value}{C:Int->Int->Prop}{g:Int->Int->Int}
  (rule:∀(i j:Int) (t u:Tok) (s:Shared) (Q:aD) (E:aD),C i j->Q (.int (g i j) s.toks) { s with toks:=s.toks+1 }->wpAny (model X.prog X.w) X.A (f (.int i t) (.int j u)) Q E s) :
  kW X f (rI C λi j=>.int (g i j)):=by
 intro pins s m H x y v u Q I k e h;obtain⟨i,j,rfl,rfl,l,q⟩:=h;obtain⟨t,rfl⟩:=k;obtain⟨d,rfl⟩:=e;exact rule i j t d s _ _ l ⟨.int (g i j),H,I.tok _,⟨_,rfl⟩,q⟩
def Xm{f:Value->Value->Sem Value}{g:Int->Int->Int}
  (rule:∀(i j:Int) (t u:Tok) (s:Shared) (Q:aD) (E:aD),Q (.int (g i j) s.toks) { s with toks:=s.toks+1 }->wpAny (model X.prog X.w) X.A (f (.int i t) (.int j u)) Q E s) :
  kW X f (DA λi j=>.int (g i j)):=by
 intro pins s l H x y v u Q I k e h;obtain⟨i,j,rfl,rfl,q⟩:=h;obtain⟨t,rfl⟩:=k;obtain⟨d,rfl⟩:=e;exact rule i j t d s _ _ ⟨.int (g i j),H,I.tok _,⟨_,rfl⟩,q⟩
def Ij{f:Value->Value->Sem Value}{g:Int->Int->Bool}
  (rule:∀(i j:Int) (t u:Tok) (s:Shared) (Q:aD) (E:aD),Q (.bool (g i j)) s->wpAny (model X.prog X.w) X.A (f (.int i t) (.int j u)) Q E s) :
  kW X f (DA λi j=>.bl (g i j)):=by
 intro pins s l H x y v u Q I k e h;obtain⟨i,j,rfl,rfl,q⟩:=h;obtain⟨t,rfl⟩:=k;obtain⟨d,rfl⟩:=e;exact rule i j t d s _ _ ⟨.bl (g i j),H,I,rfl,q⟩
def xM(k:Nat):(0:Int)<=2 ^ k:=by
 rw[two_pow_cast];exact Int.natCast_nonneg _
def MP:kW X (binaryOp .Add) (DA λi j=>.int (i+j)):=Xm λ_ _ _ _ _ _ _ q=>add_int q
def Ig:kW X (binaryOp .Mod) (rI (λ_ j=>j≠0) λi j=>.int (i.fmod j)):=MQ λ_ _ _ _ _ _ _ d q=>mod_int' d q
def ML:kW X (binaryOp .RShift) (rI (λ_ j=>0<=j) λi j=>.int (i / 2 ^ j.toNat)):=MQ λi j _ _ _ _ _ d q =>
 rshift_int d (by rw[hM i (xM _)];exact q)
def unI{f:Value->Sem Value}{g:Int->Int}
  (rule:∀(i:Int) (t:Tok) (s:Shared) (Q:aD) (E:aD),Q (.int (g i) s.toks) { s with toks:=s.toks+1 }->wpAny (model X.prog X.w) X.A (f (.int i t)) Q E s) :
  ZY X f (rU λi=>.int (g i)):=by
 intro pins s e H x v Q I d h;obtain⟨i,rfl,q⟩:=h;obtain⟨t,rfl⟩:=d;exact rule i t s _ _ ⟨.int (g i),H,I.tok _,⟨_,rfl⟩,q⟩
def LP:ZY X (unaryOp .USub) (rU λi=>.int (-i)):=unI λ_ _ _ _ _ q=>neg_int q
end
variable {us:az}
section
variable {X:Cx}{a b c:Expr}{ta tb tc:TE}{pos:Pos}
def RF:kW X (compareOp .Lt) (DA λi j=>.bl (decide (i<j))):=Ij λ_ _ _ _ _ _ _ q=>lt_int q
def RG:kW X (compareOp .LtE) (DA λi j=>.bl (decide (i<=j))):=Ij λ_ _ _ _ _ _ _ q=>le_int q
def RH:kW X (compareOp .Gt) (DA λi j=>.bl (decide (j<i))):=Ij λ_ _ _ _ _ _ _ q=>gt_int q
def RI:kW X (compareOp .GtE) (DA λi j=>.bl (decide (j<=i))):=Ij λ_ _ _ _ _ _ _ q=>ge_int q
def kW.or{f:Value->Value->Sem Value}{r i:R2}(h:kW X f r)(h':kW X f i):kW X f (λx y H Q=>r x y H Q\/i x y H Q):=by
 intro pins s d H x y v u Q I g e q;rcases q with q|q
 ·exact h pins s d H x y v u Q I g e q
 ·exact h' pins s d H x y v u Q I g e q
def Ec(b:Expr){op:CmpOp}(h:op≠.In:=by decide)(d:op≠.NotIn:=by decide):behindInMarks op b=false:=by
 have f:(op==CmpOp.In)=false:=by cases op<;>first|rfl|exact absurd rfl h
 have e:(op==CmpOp.NotIn)=false:=by cases op<;>first|rfl|exact absurd rfl d
 cases b<;>simp[behindInMarks,f,e]
def tq{op:CmpOp}{r:R2}(i:kW X (compareOp op) r)(l:PE X a ta)(k:PE X b tb)(j:behindInMarks op b=false):PE X (.Compare a [op] [b] pos) (Ho r ta tb):=by
 intro pins s d H Q I h;exact wpAny_Compare1 (Pe l k I h λv u e x y n m g f q=>i pins e d n x y v u Q m g f q) j
def Kj(t:TE):TT:=λd H Q=>t d H λx e=>∃k,x=.bl k/\Q k e
def sV{op:CmpOp}{r:R2}(p:kW X (compareOp op) r)(w:PE X a ta)(t:PE X b tb)(q:behindInMarks op b=false):PT X (.Compare a [op] [b] pos) (Kj (Ho r ta tb)):=by
 intro pins s d H Q I h;refine wpAny_isTrue_Compare1 (dH (w pins s d H _ I h) λv g ⟨x,F,C,l,o⟩=>dH (t pins g d F _ C o) λu f ⟨y,E,B,j,n⟩ =>
  dH (p pins f d E x y v u _ B l j n) λc G ⟨z,D,A,i,k,e,m⟩=>?_) q
 subst e;cases i;exact aa7 ⟨D,A,m⟩
def tL:(sizeLine:Nat)<2 ^ 63:=by rw[sizeLine_eq];decide
def vals1{x:V}(r:Vals [x] us):∃u,us=[u]/\RelV x u:=by
 cases r with
 |cons e d=>cases d;exact⟨_,rfl,e⟩
def vals2{x y:V}(r:Vals [x,y] us):∃u d,us=[u,d]/\RelV x u/\RelV y d:=by
 cases r with
 |cons h g =>
  cases g with
  |cons f e=>cases e;exact⟨_,_,rfl,h,f⟩
def Ge:fY X (.builtin "abs") (λd H Q=>∃i,d=[.int i]/\Q (.int (if i<0 then -i else i)) H):=by
 intro pins s e H d us Q I r h;obtain⟨i,rfl,q⟩:=h;obtain⟨u,rfl,t,rfl⟩:=vals1 r;exact call_abs_int λu f=>⟨.int (if i<0 then -i else i),H,I.tok _,⟨_,rfl⟩,q⟩
def B8:fY X (.type "int") (λd H Q=>(∃i,d=[.int i]/\Q (.int i) H)\/∃k,d=[.bl k]/\Q (.int (if k then 1 else 0)) H):=by
 intro pins s f H d us Q I r h;rcases h with ⟨i,rfl,q⟩|⟨k,rfl,q⟩
 ·obtain⟨u,rfl,t,rfl⟩:=vals1 r;exact call_int_int ⟨.int i,H,I,⟨_,rfl⟩,q⟩
 ·obtain⟨u,rfl,e⟩:=vals1 r;cases e;exact call_int_bool ⟨.int (if k then 1 else 0),H,I.tok _,⟨_,rfl⟩,q⟩
end
end L2
namespace L2
open PySem PySem.Spec PyProof.Rows
def uP.some_of{v:V}{o:Option Value}(r:uP (some v) o):∃u,o=some u/\RelV v u:=by
 cases o with
 |none=>exact(show False from r).elim
 |some u=>exact⟨u,rfl,r⟩
def uP.none_of{o:Option Value}(r:uP none o):o=none:=by
 cases o with
 |none=>rfl
 |some u=>exact(show False from r).elim
structure Qq(K:ak)(C:Addr):Prop where
 pg:PySem.W.plainGet K C Str.empty=true
 hd:PySem.W.hasDictIn K C=true
 po:PySem.W.plainOver K C=true
 sa:PySem.W.findIn K (.ref C) "__setattr__" = some (some (.builtin "object.__setattr__"))
end L2
namespace L2
open PySem PySem.Spec PyProof.Rows
structure hV(k:Nat)(A:aN):Prop where
 hd:A.handled=none
 dp:A.depth+3*k+5<recursionLimit
 un:A.units+16*k+200<cLine
variable {A:aN}
def hV.mono{j k:Nat}(r:hV k A)(h:j<=k):hV j A:=⟨r.hd,by have:=r.dp;left,by have:=r.un;left⟩
theorem hV.deeper{k:Nat}{A:aN}(r:hV (k+1) A)(env:Env):hV k (A.deeper env) :=
 ⟨r.hd,by have:=r.dp;show A.depth+1+3*k+5<_;left,by have:=r.un;show A.units+3+16*k+200<_;left⟩
theorem hV.depth{k:Nat}{A:aN}(r:hV k A):A.depth<recursionLimit:=by have:=r.dp;left
theorem hV.units{k:Nat}{A:aN}(r:hV k A):A.units+64<cLine:=by have:=r.un;left
def QM:TA:=λ_ H Q=>Q [] H
def Kk(d:TE)(c:TA):TA:=λa H Q=>d a H λx f=>c a f λb e=>Q (x::b) e
section
variable {X:Cx}{e:Expr}{es:ao}{te:TE}{t:TA}{pos:Pos}
def d7:PA X [] QM:=λ_ _ _ _ H Q I h=>abz ⟨[],H,I,.nil,h⟩
def cy(k:PE X e te)(j:PA X es t)(hs:starEach (e::es) X.env=(false,eval e X.env)::starEach es X.env:=by rfl):PA X (e::es) (Kk te t):=by
 intro pos pins s a H Q I h;rw[hs];show wpAny _ _ (spliced ((false,eval e X.env)::backTo pos (starEach es X.env))) _ _ s;refine abv (dH (k pins s a H _ I h) λu c l=>?_);obtain⟨x,p,n,f,i⟩:=l;exact dH (j pos pins c a p _ n i) λq r ⟨b,o,m,d,g⟩=>⟨x::b,o,m,.cons f d,g⟩
def Wu(t:TA):TE:=λc H Q=>t c H λa b=>a.length<=sizeLine/\∀p,b p=none->Q (.ref p) (upd b p (.tup a))
def Wz(t:TA):TE:=λc H Q=>t c H λa b=>a.length<=sizeLine/\∀p,b p=none->Q (.ref p) (upd b p (.lst a))
def MC{x1}(h:PA X es t):PE X (.Tuple es x1 pos) (Wu t):=by
 intro pins s f H Q I j;refine wpAny_Tuple_spliced (dH (h pos pins s f H _ I j) λi a ⟨g,d,c,r,z,q⟩=>⟨by rw[<- r.length];exact z,?_⟩);have k:d a.heap.objs.size=none:=c.cD.fresh (aaj _);refine⟨.ref a.heap.objs.size,upd d a.heap.objs.size (.tup g),c.laid (t':=a.toks) (λb u e=>aag _ e) (aaj _) ?_,rfl,q _ k⟩;exact⟨z,i,r,⟨_,aao _ rfl,rfl,_,rfl⟩⟩
def yd(h:PA X es t):PE X (.List es pos) (Wz t):=by
 intro pins s f H Q I j;refine wpAny_List_spliced (dH (h pos pins s f H _ I j) λi a ⟨g,d,c,r,z,q⟩=>⟨by rw[<- r.length];exact z,?_⟩);have k:d a.heap.objs.size=none:=c.cD.fresh (aaj _);refine⟨.ref a.heap.objs.size,upd d a.heap.objs.size (.lst g),c.laid (t':=a.toks) (λb u e=>aag _ e) (aaj _) ?_,rfl,q _ k⟩;exact⟨z,i,0,r,aao _ rfl⟩
end
abbrev Sp:=ah->Hp->VK->XK->Prop
abbrev Cd:=List Env->Hp->Shared->XK->aD
structure Kb(P:aK)(w:World)(K:ak)(mg:aY)(base:Heap)(A:aN)(outer:List Env)(s:Shared)(H:Hp):Prop where
 frames:A.frames=some outer
 mod:Mod K mg base
 bs:∀b o,base.get? b=some o->s.heap.get? b=some o/\H b=none
 Gh:base.objs.size<=s.heap.objs.size
 kC:s.heap.FunFrames base outer
 Cs:∀b∈mD outer,H b=none
 cD:j6 H s.heap
 bare:AllBare s.gens
def CE(outer:List Env)(P:aK)(w:World)(H:Hp)(s:Shared)(Q:VK)(u:Value)(s':Shared):Prop :=
 ∃v a,s'.os=s.os/\AllBare s'.gens/\Un (mD outer) [] H a s.heap s'.heap/\j6 a s'.heap/\RelV v u/\Q v a
def CR(CX:Cd)(outer:List Env)(P:aK)(w:World)(H:Hp)(s:Shared)(Q:VK)(E:XK)(r:Result)(s':Shared):Prop :=
 match r with
 |.ok (.ret u)=>CE outer P w H s Q u s'
 |.ok _=>False
 |.error e=>CX outer H s E e s'
structure iB(P:aK)(w:World)(K:ak)(mg:aY)(base:Heap)(CX:Cd)(k:Nat)(f:Addr)(fd:FuncData)(ps:aq)(sp:Sp):Prop where
 len:∀vs H Q E,sp vs H Q E->vs.length=ps.length
 run:∀(A:aN) (outer:List Env) (s:Shared) (H:Hp) (args:Args) (us:az) (vs:ah) (Q:VK) (E:XK),hV k A->Kb P w K mg base A outer s H->BindsTo s fd args (ps.zip us)->Vals vs us->sp vs H Q E ->
  codeAny (model P w) A (.call (.ref f) args) (CR CX outer P w H s Q E) s
theorem iB.mono{P:aK}{w:World}{K:ak}{mg:aY}{base:Heap}{CX:Cd}{j k:Nat}{f:Addr}{a:FuncData}{ps:aq}{sp:Sp}(F:iB P w K mg base CX j f a ps sp)(h:j<=k):
  iB P w K mg base CX k f a ps sp:=⟨F.len,λA outer s H args c b Q E d=>F.run A outer s H args c b Q E (d.mono h)⟩
variable {Q:VK}
section
variable {X:Cx}{pins:av}{σ:St}{H:Hp}{s s':Shared}
def Inv.Zr(I:Inv X pins σ H s):Kb X.prog X.w X.K X.mg X.base X.A X.stack s H :=
 ⟨I.ok.frames,I.ok.mod,I.bs,aaG I.ok.Gh I.sz,I.stack,I.lj,I.cD,I.bare⟩
def Inv.after{u:Value}(I:Inv X pins σ H s)(h:CE X.stack X.prog X.w H s Q u s'):EP X pins σ Q u s':=by
 obtain⟨v,i,a,bare,un,e,r,q⟩:=h;obtain⟨c,g,d,t,f⟩:=s';obtain rfl:f=s.os:=a;exact⟨v,i,I.call (h':=c) (g':=g) (d':=d) (t':=t) (ch:=[]) un e bare (λb z=>absurd z (by simp)),r,q⟩
end
def QQ(sp:Sp)(gC:ah)(E:XK)(t:TA):TE:=λa H Q=>t a H λb c=>sp (b++gC) c Q E
def Binds(K:ak)(b:FuncData)(ps:aq)(ds:az):Prop :=
 ∀(s:Shared) (a:az),K.In s.heap->(a++ds).length=ps.length->BindsTo s b ⟨a,[]⟩ (ps.zip (a++ds))
variable {K:ak}{N ps:aq}
def Binds.all{b:FuncData}(h:∀a:az,a.length=ps.length->bindArgs b ⟨a,[]⟩=pure (ps.zip a)):Binds K b ps []:=λs a _ hl=>by
 rw[hH]at hl ⊢;exact .of_eq (h a hl)
def Passes(CX:Cd)(X:Cx)(E:XK):Prop:=∀(pins:av) (a:St) (H:Hp) (s:Shared) (e:Value) (s':Shared),Inv X pins a H s->CX X.stack H s E e s'->X.xe e s'
variable {H:Hp}{us:az}{vs:ah}
section
variable {X:Cx}{CX:Cd}{k:Nat}{f C:Addr}{fd:FuncData}{ps:aq}{sp:Sp}{gC:ah}{ds:az}{E:XK}{x m:Str}{p pos apos:Pos}{e o:Expr}{es:ao}{ta:TE}{t:TA}
theorem Mq{pins:av}{b:St}{s:Shared}(F:iB X.prog X.w X.K X.mg X.base CX k f fd ps sp)(i:hV k X.A)(l:Binds X.K fd ps ds)(j:Vals gC ds)(g:Passes CX X E)
  (I:Inv X pins b H s) (r:Vals vs us) (h:sp (vs++gC) H Q E):wpAny (model X.prog X.w) X.A (call (.ref f) us) (EP X pins b Q) X.xe s:=by
 have c:Vals (vs++gC) (us++ds):=r.append j;have hl:(us++ds).length=ps.length:=by rw[<- c.length];exact F.len _ _ _ _ h
 refine wpAny_call (acg (F.run X.A X.stack s H ⟨us,[]⟩ (us++ds) (vs++gC) Q E i I.Zr (l s us I.Cp hl) c h) λr d a=>?_);cases r with
 |error e=>exact g pins b H s e d I a
 |ok n =>
  cases n with
  |ret u=>exact I.after a
  |next=>exact False.elim a
  |brk=>exact False.elim a
  |cont=>exact False.elim a
def zD(F:iB X.prog X.w X.K X.mg X.base CX k f fd ps sp)(d:hV k X.A)(j:Gl X x)(g:X.mg x=some (.ref f))(i:PySem.W.keepIn X.K (.ref f)=true)(n:Binds X.K fd ps ds)(l:Vals gC ds)(c:Passes CX X E)
  (u:PA X (e::es) t) (hdb:(x==("__debug__" : Str))=false:=by decide) (he:starEach (e::es) X.env=(false,eval e X.env)::starEach es X.env:=by rfl) (hpl:(backTo pos (starEach es X.env)).any (·.1)=false:=by rfl) :
  PE X (.Call (.Name x p) (e::es) [] pos) (QQ sp gC E t):=by
 intro pins s b H Q I h;refine aaJ (tO I j g ?_ hdb);refine PySem.W.callWith_K (h₀:=X.base) I.ok.mod.XE i (dH (u pos pins s b H _ I h) λus v ⟨vs,y,a,r,q⟩=>⟨a.Cp,?_⟩) he hpl;exact Mq F d n l c a r q
end
structure gV(N P:aq)(sc:Scope):Prop where
 kind:sc.kind=.function
 co:sc.isCoroutine=false
 gen:sc.isGenerator=false
 nd:N.Nodup
 pre:N.take P.length=P
 par:∀x∈P,sc.names.lookup x=some .local\/sc.names.lookup x=some .cell
 MV:∀y∈sc.names,y.2≠.free
theorem sk{kindOf:Str->Option NameKind}{x:Str}:∀{binds:List (Str×Value)} {m:aY},(∀v,(x,v)∉binds)->bindL kindOf binds m x=m x
 |[],_,_=>rfl
 | (n,v)::r,m,h=>by
  unfold bindL;rw[sk λw hw=>h w (i5 _ hw)];split
  ·have:x≠n:=by rintro rfl;exact h v aak
   simp[this]
  ·rfl
theorem sr{kindOf:Str->Option NameKind}{x:Str}:∀{binds:List (Str×Value)} {m:aY},(∀v,(x,v)∉binds)->bindC kindOf binds m x=m x
 |[],_,_=>rfl
 | (n,v)::r,m,h=>by
  unfold bindC;rw[sr λw hw=>h w (i5 _ hw)];split
  ·rfl
  ·have:x≠n:=by rintro rfl;exact h v aak
   simp[this]
theorem so{kindOf:Str->Option NameKind}{x:Str}{v:Value}:∀{P:aq} {vs:az} {i:Nat} {m:aY},P.Nodup->P[i]?=some x->vs[i]?=some v->kindOf x=some .local ->
  bindL kindOf (P.zip vs) m x=some v
 |[],_,_,_,_,h,_,_=>by simp at h
 |_::_,[],_,_,_,_,h,_=>by simp at h
 |p::P,w::vs,0,m,nd,h1,h2,hk=>by
  simp at h1 h2;subst h1;subst h2;show bindL kindOf ((p,w)::P.zip vs) m p=_;unfold bindL;rw[sk λv a=>(List.nodup_cons.mp nd).1 (List.of_mem_zip a).1,cc hk];simp
 |p::P,w::vs,i+1,m,nd,h1,h2,hk=>by
  show bindL kindOf ((p,w)::P.zip vs) m x=_;unfold bindL;exact so (i:=i) (List.nodup_cons.mp nd).2 (by simpa using h1) (by simpa using h2) hk
theorem su{kindOf:Str->Option NameKind}{x:Str}{v:Value}:∀{P:aq} {vs:az} {i:Nat} {m:aY},P.Nodup->P[i]?=some x->vs[i]?=some v->kindOf x≠some .local ->
  bindC kindOf (P.zip vs) m x=some v
 |[],_,_,_,_,h,_,_=>by simp at h
 |_::_,[],_,_,_,_,h,_=>by simp at h
 |p::P,w::vs,0,m,nd,h1,h2,hk=>by
  simp at h1 h2;subst h1;subst h2;show bindC kindOf ((p,w)::P.zip vs) m p=_;unfold bindC;rw[sr λv a=>(List.nodup_cons.mp nd).1 (List.of_mem_zip a).1,cb hk];simp
 |p::P,w::vs,i+1,m,nd,h1,h2,hk=>by
  show bindC kindOf ((p,w)::P.zip vs) m x=_;unfold bindC;exact su (i:=i) (List.nodup_cons.mp nd).2 (by simpa using h1) (by simpa using h2) hk
noncomputable def start(N:aq)(vs:ah):St:=vs.map some++List.replicate (N.length - vs.length) none
noncomputable def jH(CX:Cd)(P:aK)(w:World)(K:ak)(mg:aY)(base:Heap)(N:aq)(qual:Str)(scope:Scope)(f:Addr)(a:Value)(A:aN)(outer:List Env)(s:Shared)(H:Hp)(E:XK):Cx where
 prog:=P
 w:=w
 K:=K
 mg:=mg
 base:=base
 A:=A.deeper (envOfC qual scope s.heap.objs.size f a)
 N:=N
 s₀:=s
 H₀:=H
 env:=envOfC qual scope s.heap.objs.size f a
 outer:=outer
 stack:=envOfC qual scope s.heap.objs.size f a::outer
 ex:=[]
 calm:=true
 fn:=λ_=>true
 pn:=[]
 xe:=λe c=>wpAny (model P w) (A.deeper (envOfC qual scope s.heap.objs.size f a)) (leaving (envOfC qual scope s.heap.objs.size f a) e) (λ_ b=>CX outer H s E e b) (λd b=>CX outer H s E d b) c
def wU{sc:Scope}{n:Nat}{x:Str}(h:sc.names.lookup x=some .cell):∃c,(cellsFrom n sc.names []).lookup x=some c:=by
 have q:=PySem.W.cellsFrom_some sc.names n [] (.inl h);exact Option.isSome_iff_exists.mp q
variable {P:aK}{base:Heap}{f:Addr}{mg:Str->Option Value}{qual:Str}{scope:Scope}{w:World}
def BA{CX:Cd}{t:Value}{outer:List Env}{s C:Shared}{E:XK}  
  (S:gV N ps scope) (J:A.handled=none) (e0:Kb P w K mg base A outer s H) (hl:vs.length=ps.length) (r:Vals vs us)
  (x:InCallC s s.heap.objs.size (bindL (envOfC qual scope s.heap.objs.size f t).kindOf (ps.zip us) λ_=>none) (cellsFrom (s.heap.objs.size+1) scope.names []) (bindC (envOfC qual scope s.heap.objs.size f t).kindOf (ps.zip us) λ_=>none) C) :
  Inv (jH CX P w K mg base N qual scope f t A outer s H E) [] (start N vs) H C:=by
 have I:ps.length<=N.length:=by have:=aaI List.length S.pre;rw[hF]at this;left
 obtain⟨o,M,rfl,F⟩:=x.done;have B:∀b:Addr,b∉(jH CX P w K mg base N qual scope f t A outer s H E).ex:=λb z=>absurd (show b∈([]:bj) from z) (by simp);refine⟨⟨e0.mod,S.kind,rfl,rfl,aaj _,λy z c o d=>?_,λy g=>?_,λy c _ h=>?_,λ_=>J,Around.frames_deeper e0.frames,.inr ⟨rfl,rfl⟩,λb z=>absurd z (B b),e0.bs,e0.Gh,λb _ _=>B b,λb z=>absurd z (B b),e0.kC,e0.Cs⟩,
  rfl,e0.bare,Un.kept F,⟨_,x.toInCall.ns,λi y v o d O=>?_⟩,λy c h=>⟨_,x.cell y c h⟩,e0.cD.fresh (aaj _),λy c h=>?_,λp l=>absurd (show p∈([]:av) from l) (by simp),e0.cD.kept F,?_⟩
 ·exact name_of_addr x.apart (abf o) (abf d)
 ·have g:scope.names.lookup y=some .cell\/scope.names.lookup y=some .free:=g;rcases g with g|g
  ·exact wU g
  ·exact absurd rfl (S.MV _ (abf g))
 ·exact Nat.le_of_lt (x.above y c (abf h))
 ·have m:i<vs.length:=by
   unfold start at d;by_cases m:i<vs.length
   ·exact m
   ·rw[List.getElem?_append_right (by simpa using m)]at d;rw[List.getElem?_replicate]at d;split at d<;>cases d
  have L:vs[i]?=some v:=by
   unfold start at d;rw[List.getElem?_append_left (by simpa using m),List.getElem?_map]at d;cases e:vs[i]? with
   |none=>rw[e]at d;cases d
   |some a=>rw[e]at d;cases d;rfl
  obtain⟨u,D,G⟩:=r.get L;have l:ps[i]?=some y:=by
   rw[<- S.pre,List.getElem?_take_of_lt (by left)];exact o
  have j:ps.Nodup:=by rw[<- S.pre];exact S.nd.sublist (List.take_sublist _ _)
  refine⟨u,G,?_⟩;rcases S.par y (aas l)with k|k
  ·exact .inl ⟨k,so j l D k⟩
  ·obtain⟨c,e⟩:=wU (n:=s.heap.objs.size+1) k;refine .inr ⟨.inl k,c,e,?_⟩;have q:=x.cell y c e;rw[su j l D (by show scope.names.lookup y≠_;rw[k];decide)]at q;exact q
 ·exact e0.cD.fresh (Nat.le_of_lt (x.above y c (abf h)))
 ·unfold start;show _=N.length;rw[c8,b4,fc];left
def K6{CX:Cd}{k:Nat}{name:Str}{params:Arguments}{body:aV}{B kV g z c ct L:Value}{C G:Option Addr}
  {D1:Array (Option Value)} {sp:Sp} (M:K.lookup f=some ⟨L,G,.func (PySem.W.fnOf name qual params body scope B kV g z C c ct),D1⟩) (D:PySem.W.codeIn K c qual=true) (S:gV N ps scope)
  (len:∀vs H Q E,sp vs H Q E->vs.length=ps.length)
  (F:∀(A:aN) (outer:List Env) (s:Shared) (H:Hp) (vs:ah) (Q:VK) (E:XK),hV k (A.deeper (envOfC qual scope s.heap.objs.size f c))->sp vs H Q E ->
   ∃t,iA (jH CX P w K mg base N qual scope f c A outer s H E) body t/\t { nx:=λ_ H'=>Q .bP H',rt:=Q } (start N vs) H) :
  iB P w K mg base CX (k+1) f (PySem.W.fnOf name qual params body scope B kV g z C c ct) ps sp:=by
 refine⟨len,λA outer s H args us vs Q E l e0 X r m=>?_⟩;have hl:=len _ _ _ _ m;have KX:K.In s.heap:=e0.mod.XE.keeps λb o e=>(e0.bs b o e).1;have j:s.heap.NoLimit:=e0.mod.nolimit.keeps λb o e=>(e0.bs b o e).1;have SR:∀y∈ps.zip us,scope.names.lookup y.1=some .local\/(scope.names.lookup y.1=some .cell/\((cellsFrom (s.heap.objs.size+1) scope.names []).lookup y.1).isSome=true):=λ⟨n,v⟩ O=>by
  rcases S.par n (List.of_mem_zip O).1 with q|q
  ·exact .inl q
  ·exact .inr ⟨q,PySem.W.cellsFrom_some _ _ _ (.inl q)⟩
 refine codeAny_call_function l.depth (KX _ _ M) rfl S.co S.gen rfl (PySem.W.codeRec_of KX D) (X _ _ _ _ ?_);refine wpAny_newFunctionEnv_cells S.kind SR λZ U p x=>?_;subst U;refine⟨j.keeps x.toInCall.keep,codeAny_func ?_⟩;obtain⟨t,R,T⟩:=F A outer s H vs Q E (l.deeper _) m;have I:Inv (jH CX P w K mg base N qual scope f c A outer s H E) [] (start N vs) H p:=BA S l.hd e0 hl r x;refine aav (R [] p (start N vs) H _ I T) (λY h d=>?_) λe h d=>d;have fin:∀{a:St} {H':Hp} {v:V} {u:Value},Inv (jH CX P w K mg base N qual scope f c A outer s H E) [] a H' h->RelV v u->Q v H'->CE outer P w H s Q u h :=
  λ{a H' v u} J i q=>⟨v,H',J.os,J.bare,J.base,J.cD,i,q⟩
 cases Y with
 |ret u =>
  obtain⟨v,a,H',J,i,q⟩:=d;exact fin J i q
 |next =>
  obtain⟨a,H',J,q⟩:=d;exact fin (v:=V.bP) (u:=Value.none) J rfl q
 |brk =>
  obtain⟨_,_,_,q⟩:=d;exact False.elim q
 |cont =>
  obtain⟨_,_,_,q⟩:=d;exact False.elim q
end L2
namespace L2
open PySem PySem.Spec PyProof.Rows
section
variable {X:Cx}{x:Str}{p pos:Pos}{e:Expr}{es:ao}{t:TA}{id T:String}{r:ah->Hp->VK->Prop}
def Pt(r:ah->Hp->VK->Prop)(t:TA):TE:=λa H Q=>t a H λb c=>r b c Q
def eI(l:fY X (.builtin id) r)(k:Gl X x)(j:X.mg x=none)(i:bootBuiltins x=some (.builtin id))(m:PA X (e::es) t)(hn:x ≠ "__name__":=by decide)(hdb:(x==("__debug__" : Str))=false:=by decide)
  (he:starEach (e::es) X.env=(false,eval e X.env)::starEach es X.env:=by rfl) (hpl:(backTo pos (starEach es X.env)).any (·.1)=false:=by rfl):PE X (.Call (.Name x p) (e::es) [] pos) (Pt r t):=by
 intro pins s a H Q I h;refine aaJ (d_ I k j i ?_ hn hdb);exact abw (dH (m pos pins s a H _ I h) λc d ⟨b,o,n,f,g⟩=>l pins d a o b c Q n f g) he hpl
def mn(l:fY X (.type T) r)(k:Gl X x)(j:X.mg x=none)(i:bootBuiltins x=some (.type T))(m:PA X (e::es) t)(hn:x ≠ "__name__":=by decide)(hdb:(x==("__debug__" : Str))=false:=by decide)
  (he:starEach (e::es) X.env=(false,eval e X.env)::starEach es X.env:=by rfl) (hpl:(backTo pos (starEach es X.env)).any (·.1)=false:=by rfl):PE X (.Call (.Name x p) (e::es) [] pos) (Pt r t):=by
 intro pins s a H Q I h;refine aaJ (d_ I k j i ?_ hn hdb);exact aar (dH (m pos pins s a H _ I h) λc d ⟨b,o,n,f,g⟩=>l pins d a o b c Q n f g) he hpl
end
end L2
namespace HT
open PySem PyProof.Rows
noncomputable def lexLt:ae->ae->Bool
 |[],[]=>false
 |[],_::_=>true
 |_::_,[]=>false
 |x::xs,y::ys=>if x=y then lexLt xs ys else decide (x<y)
def d9(x y:Int)(xs a:ae):lexLt (x::xs) (y::a)=if x=y then lexLt xs a else decide (x<y):=rfl
def ki:lexLt [] []=false:=rfl
def pj(y:Int)(a:ae):lexLt [] (y::a)=true:=rfl
def dv(x:Int)(xs:ae):lexLt (x::xs) []=false:=rfl
def wA(A:aN)(s:Shared)(a:Int)(t:Tok)(c:Int)(u:Tok):∃e,SeqAt.EqAt A s (.int a t) (.int c u) e/\(e=true ↔ a=c) :=
 ⟨(a==c),acq a t c u,by simp⟩
def Dx(A:aN)(s:Shared)(a:Int)(t:Tok)(c:Int)(u:Tok)(prog:aK)(w:World)(E:aD)(Q:aD)(h:Q (.bool (decide (a<c))) s):
  wpAny (model prog w) A (richCompare .Lt (.int a t) (.int c u)) Q E s :=
 (PyProof.Rows.lt_int h:wpAny (model prog w) A (compareOp .Lt (.int a t) (.int c u)) Q E s)
section
open PySem.SeqAt
open PySem.AutoSeq1 (wpAny_loadPart')
open PySem.MeetsSeq PySem.MeetsSeq2 PySem.MeetsSeq3
def kg(l b:Addr)(items j:aW)(n M:Nat)(dd J:Option Addr)(L K:Array (Option Value))(ns v:ae)(H:IntsAre items.toList ns)(G:IntsAre j.toList v):
  Meets (Builtin.«tuple.__lt__» ⟨[.ref l,.ref b],[]⟩)
   (λ_ R s=>s.heap.get? l=some { cls:=.type "tuple",dict:=dd,data:=.seq items n,slots:=L }/\s.heap.get? b=some { cls:=.type "tuple",dict:=J,data:=.seq j M,slots:=K } /\
    R (.ok (.ret (.bool (lexLt ns v)))) s) :=
 .of_wp λprog w A R s h=>by
  obtain⟨z,g,d,p,r⟩:=s;obtain⟨hl,O,h⟩:=h;have T:=abK;have S:items.size=ns.length:=by rw[<- H.length];simp
  have Q:j.size=v.length:=by rw[<- G.length];simp
  wp_walk using wpAny_loadPart' hl,wpAny_loadPart' O,wpAny_forIn_list _ (λrest b C=>b.1=none/\C=⟨z,g,d,p,r⟩/\∃(vs ws:az) (i k:ae),rest=vs.zip ws /\
   IntsAre vs i/\IntsAre ws k/\i.length+j.size=k.length+items.size/\R (.ok (.ret (.bool (lexLt i k)))) ⟨z,g,d,p,r⟩) _
  case turn =>
   rintro ⟨y,x⟩ rest b C ⟨D,rfl,vs,ws,i,k,f,E,B,hlen,hR⟩;cases E with
   |nil=>rw[List.zip_nil_left]at f;cases f
   |cons a t o =>
    cases B with
    |nil=>rw[pl]at f;cases f
    |cons c u m =>
     rw[jA]at f;injection f with X8 EO
     injection X8 with hy hx
     subst hy hx;rw[d9]at hR;simp only[cz]at hlen;obtain⟨e,N,I⟩:=wA A.in1 ⟨z,g,d,p,r⟩ a t c u;refine aaa (N prog w _ _ ?_);cases e with
     |true =>
      rw[cc (I.mp rfl)]at hR
      wp_walk
      exact⟨rfl,rfl,_,_,_,_,EO,o,m,by left,hR⟩
     |false =>
      rw[cb (λq=>absurd (I.mpr q) dX)]at hR;have P:=Dx A.in1 ⟨z,g,d,p,r⟩ a t c u prog w
      wp_walk using P
      exact⟨_,rfl,by simpa using hR⟩
  case fin =>
   rintro ⟨b1,b2⟩ C ⟨D,rfl,vs,ws,i,k,f,E,B,hlen,hR⟩;simp only at D;subst D;have F:lexLt i k=decide (items.size<j.size):=by
    cases E with
    |nil =>
     cases B with
     |nil =>
      simp only[gI]at hlen;rw[ki];exact(aa9 (by left)).symm
     |cons c u hw =>
      simp only[gI,cz]at hlen;rw[pj];exact(aaN (by left)).symm
    |cons a t F =>
     cases B with
     |nil =>
      simp only[gI,cz]at hlen;rw[dv];exact(aa9 (by left)).symm
     |cons c u hw =>
      rw[jA]at f;cases f
   rw[F]at hR
   wp_walk
   exact⟨_,rfl,by simpa [Builtin.Tuple.tupleCompareSizes]using hR⟩
  case h =>
   exact⟨rfl,rfl,items.toList,j.toList,ns,v,rfl,H,G,by left,h⟩
end
variable {Q:Value->Shared->Prop}{items:aW}{sl:Addr}{vl vu:Value}
section
variable {prog:aK}{w:World}{A:aN}{E:aD}{s:Shared}
def yn{l b:Addr}{e:aW}{ns a:ae}(hl:IsTup s.heap l items)(t:IsTup s.heap b e)(r:IntsAre items.toList ns)(q:IntsAre e.toList a)
  (p:A.units<cLine) (h:Q (.bool (lexLt ns a)) s):wpAny (model prog w) A (compareOp .Lt (.ref l) (.ref b)) Q E s:=by
 obtain⟨⟨v,u,data,sl⟩,g,j,n,i⟩:=id hl;obtain⟨⟨y,k,data2,m⟩,f,d,o,c⟩:=id t;simp only at j i d c;subst j i d c;exact richCompare_meets_room (op:=.Lt) ⟨_,g,rfl⟩ ⟨_,f,rfl⟩ acd PySem.F.entry_tuple_lt (PySem.F.args_tuple_lt_2 _ _) (kg l b items e n o u k sl m ns a r q)
  ⟨g,f,show Value.bool (lexLt ns a)≠Value.notImplemented/\Q (.bool (lexLt ns a)) s from⟨(λx=>nomatch x),h⟩⟩ p
def JX{t b:Addr}{vs ws:az}(p:IsTup s.heap t vs.toArray)(q:IsTup s.heap b ws.toArray)(k:vs≠[])
  (u:ws=[]->Q (.ref t) s) (r:ws≠[]->Q (.ref s.heap.objs.size) { s with heap:=s.heap.push { cls:=.type "tuple",data:=.seq (vs++ws).toArray } })
  (hsz:vs.length+ws.length<=sizeLine):wpAny (model prog w) A (binaryOp .Add (.ref t) (.ref b)) Q E s:=by
 obtain⟨⟨g,o,data,sl⟩,f,m,n,l⟩:=id p;obtain⟨⟨v,h,data2,i⟩,d,c,j,a⟩:=id q;simp only at m l c a;subst m l c a;have e:vs.toArray++ws.toArray=(vs++ws).toArray:=by simp
 by_cases hw:ws=[]
 ·exact concat_meets ⟨_,f,rfl⟩ ⟨_,d,rfl⟩ noFill_tuple_add seq_tuple_add ab7 ab4 (abY _ _)
   (tuple_addW1 t b vs.toArray ws.toArray n j o h sl i (by simpa using k) (by simp[hw])) ⟨f,d,u hw⟩
 ·refine concat_meets ⟨_,f,rfl⟩ ⟨_,d,rfl⟩ noFill_tuple_add seq_tuple_add ab7 ab4 (abY _ _)
   (tuple_addW2 t b vs.toArray ws.toArray n j o h sl i (by simpa using k) (by simpa using hw) (by rw[cn,cn];exact hsz)) ⟨f,d,?_⟩
  rw[e];exact r hw
noncomputable def eF(n d:Nat):Option Int->Nat
 |none=>d
 |some v=>if v<0 then(v+(n:Int)).toNat else min v.toNat n
def jq(n d:Nat):eF n d none=d:=rfl
def HM(n d k:Nat):eF n d (some (k:Int))=min k n:=by
 show(if (k:Int)<0 then((k:Int)+(n:Int)).toNat else min (k:Int).toNat n)=min k n;rw[cb (by left),dV]
def Mp(n d:Nat)(b:d<=n)(o:Option Int):eF n d o<=n:=by
 cases o with
 |none=>exact b
 |some v =>
  show(if v<0 then(v+(n:Int)).toNat else min v.toNat n)<=n;by_cases a:v<0
  ·rw[cc a];left
  ·rw[cb a];exact Nat.min_le_right _ _
def AA(v:Int)(n d:Nat):(if v<0 then max (v+(n:Int)) 0 else min v (n:Int))=((eF n d (some v):Nat):Int):=by
 show(if v<0 then max (v+(n:Int)) 0 else min v (n:Int))=(((if v<0 then(v+(n:Int)).toNat else min v.toNat n):Nat):Int)
 by_cases a:v<0
 ·simp only[cc a];left
 ·simp only[cb a];left
def yZ(lo a:Option Int)(n:Nat):Builtin.Slice.sliceAdjust lo a 1 (n:Int)=(((eF n 0 lo:Nat):Int),((eF n n a:Nat):Int)):=by
 have b:¬ ((1:Int)<0):=by left
 unfold Builtin.Slice.sliceAdjust;simp only[b,if_false];refine acA ?_ ?_
 ·cases lo with
  |none=>rfl
  |some v=>exact AA v n 0
 ·cases a with
  |none=>rfl
  |some v=>exact AA v n n
def yb(i j:Nat):Builtin.Slice.slicePlaces (i:Int) (j:Int) 1=j - i:=by
 unfold Builtin.Slice.slicePlaces;have a:(1:Int)>0:=by left
 simp only[a,if_true,Int.ediv_one];split<;>left
def oT{v:Value}{o:Option Int}{Q:Option Int->Shared->Prop}(p:IsPart v o)(h:Q o s):wpAny (model prog w) A (Builtin.Slice.slicePartIndex v) Q E s:=by
 cases p with
 |none=>exact slicePart_none h
 |int i t=>exact slicePart_int h
def me{lo a:Option Int}{n:Nat}{Q:Int×Int×Nat->Shared->Prop}(hs:s.heap.IsSliceOf sl vl vu .none)(e:IsPart vl lo)(d:IsPart vu a)
  (h:Q (((eF n 0 lo:Nat):Int),1,eF n n a - eF n 0 lo) s):wpAny (model prog w) A (Builtin.Slice.sliceApplied (.ref sl) (pure (n:Int))) Q E s:=by
 obtain⟨f,c,g,b⟩:=id hs;unfold Builtin.Slice.sliceApplied Builtin.Slice.sliceFields;refine aaa (aaa (aa1 c b (x:=vl) rfl (aaa (aa1 c b (x:=vu) rfl (aaa (aa1 c b (x:=.none) rfl (aaf ?_)))))));refine aaa (slicePart_none ?_);show wpAny _ _ (if ((1:Int)==0)=true then _ else _) _ _ s;rw[cb (by decide)];refine aaa (oT e (aaa (oT d (aaa (aaf ?_)))));show wpAny _ _ (match Builtin.Slice.sliceAdjust lo a 1 (n:Int)with | (lo,a)=>pure (lo,(1:Int),Builtin.Slice.slicePlaces lo a 1)) _ _ s;rw[yZ lo a n];show wpAny _ _ (pure (((eF n 0 lo:Nat):Int),(1:Int),Builtin.Slice.slicePlaces ((eF n 0 lo:Nat):Int) ((eF n n a:Nat):Int) 1)) _ _ s;rw[yb];exact aaf h
def DP(xs:aW)(i k:Nat):((List.range k).filterMap λ(m:Nat)=>xs[((i:Int)+(m:Int)*1).toNat]?).toArray=((xs.toList.drop i).take k).toArray:=by
 have e:(λ(m:Nat)=>xs[((i:Int)+(m:Int)*1).toNat]?)=λm=>xs[i+m]?:=by
  funext m;have:((i:Int)+(m:Int)*1).toNat=i+m:=by left
  rw[this]
 rw[e];have:=pick_run xs i k;rw[List.filterMap_map]at this;have a:((λx=>xs[x]?)∘λx=>i+x)=λm=>xs[i+m]?:=rfl;rw[a]at this;rw[this]
def lJ{t:Addr}{lo a:Option Int}(c:IsTup s.heap t items)(hs:s.heap.IsSliceOf sl vl vu .none)(g:IsPart vl lo)(f:IsPart vu a)
  (hw:¬ (eF items.size 0 lo=0/\eF items.size items.size a=items.size))
  (h:Q (.ref s.heap.objs.size) { s with heap:=s.heap.push { cls:=.type "tuple",data:=.seq ((items.toList.drop (eF items.size 0 lo)).take (eF items.size items.size a - eF items.size 0 lo)).toArray } })
  (hsz:items.size<=sizeLine):wpAny (model prog w) A (getItem (.ref t) (.ref sl)) Q E s:=by
 have b:sizeOk (.seq ((items.toList.drop (eF items.size 0 lo)).take (eF items.size items.size a - eF items.size 0 lo)).toArray):=by
  show((items.toList.drop (eF items.size 0 lo)).take (eF items.size items.size a - eF items.size 0 lo)).toArray.size<=sizeLine;rw[cn,hF,hW,gA];left
 have o:eF items.size items.size a<=items.size:=Mp _ _ (aaj _) a;obtain⟨i,k,j,p⟩:=id hs;have e:s.TypeIs (.ref sl) "slice":=⟨i,k,j⟩
 unfold getItem
 try with_reducible refine aaF ?_
 first|refine aaa (aaf ?_)|skip
 refine aaa (wpAny_sequenceKey c.typeIs (by decide) ?_);refine aaa (aaL (name:=Str.ofString "__getitem__") c.typeIs PyProof.Rows.slot_tuple_getitem
  (aaM PyProof.Rows.slot_tuple_getitem c.typeIs entry_tuple_getitem ?_ (args_tuple_getitem _ _)))
 show wpAny _ _ (Builtin.Tuple.tupleItemsOf (.ref t) >>= _) _ _ s;refine aaa (tupleItemsOf_ c ?_);refine aaa (wpAny_typeOf e ?_);rw[cc (by decide)];refine aaa (me hs g f ?_);have d:¬ ((((eF items.size 0 lo:Nat):Int)==0&&(1:Int)==1&&(eF items.size items.size a - eF items.size 0 lo)==items.size)=true):=by
  intro q;rw[cM,cM]at q;have n:((eF items.size 0 lo:Nat):Int)=0:=eq_of_beq q.1.1;have l:eF items.size items.size a - eF items.size 0 lo=items.size:=eq_of_beq q.2;exact hw ⟨by left,by left⟩
 show wpAny _ _ (if (((eF items.size 0 lo:Nat):Int)==0&&(1:Int)==1&&(eF items.size items.size a - eF items.size 0 lo)==items.size)=true then _ else _) _ _ s;rw[cb d,DP]
 first
  |exact aaa (m:=Builtin.Tuple.tupleExact _) (aaz (aaf ⟨_,rfl,aaf h⟩) b)
  |exact aaa (m:=Builtin.Tuple.tupleExact _) (aaz (aaa (aaf (aaf ⟨_,rfl,aaf h⟩))) b)
  |exact aaa (aaa (m:=Builtin.Tuple.tupleExact _) (aaz (aaf (aaf ⟨_,rfl,aaf h⟩)) b))
  |exact aaa (aaa (m:=Builtin.Tuple.tupleExact _) (aaz (aaf ⟨_,rfl,aaf h⟩) b))
end
end HT
namespace L2
open PySem PySem.Spec PyProof.Rows
abbrev TO:=St->Hp->(Option Int->Hp->Prop)->Prop
def PO(X:Cx)(e:Option Expr)(t:TO):Prop :=
 ∀(pins:av) (s:Shared) (a:St) (H:Hp) (Q:Option Int->Hp->Prop),Inv X pins a H s->t a H Q ->
  wpAny (model X.prog X.w) X.A (evalPart e X.env) (λu c=>∃o b,Inv X pins a b c/\IsPart u o/\Q o b) X.xe s
def Hq:TO:=λ_ H Q=>Q none H
def QJ(t:TE):TO:=λa H Q=>t a H λx b=>∃i,x=.int i/\Q (some i) b
def intsAre_of{ns:ae}:∀{a:az},Vals (ns.map V.int) a->IntsAre a ns:=by
 induction ns with
 |nil=>intro a r;rw[pE]at r;cases r;exact .nil
 |cons n ns d =>
  intro a r;rw[dx]at r;cases r with
  |cons c b =>
   obtain⟨t,e⟩:=c;subst e;exact .cons n t (d b)
section
variable {X:Cx}{e:Expr}{te:TE}{lo hi:Option Expr}{tl th:TO}{pos p2:Pos}
def sZ:PO X none Hq:=by
 intro pins s a H Q I h;rw[evalPart_none];exact aaf ⟨none,H,I,.none,h⟩
def sY(h:PE X e te):PO X (some e) (QJ te):=by
 intro pins s a H Q I hw;rw[evalPart_some];refine dH (h pins s a H _ I hw) λu j d=>?_;obtain⟨x,g,f,b,c⟩:=d;obtain⟨i,rfl,q⟩:=c;obtain⟨t,rfl⟩:=b;exact⟨some i,g,f,.int i t,q⟩
def ZZ(X:Cx)(r:V->Option Int->Option Int->Hp->VK->Prop):Prop :=
 ∀(pins:av) (s:Shared) (a:St) (H:Hp) (x:V) (v c b:Value) (lo hi:Option Int) (d:Addr) (Q:VK),Inv X pins a H s->RelV x v->s.heap.IsSliceOf d c b .none->IsPart c lo->IsPart b hi->r x lo hi H Q ->
  ∃T id,typeLookup (.type T) "__getitem__" = pure (some (.builtin id))/\s.TypeIs v T/\wpAny (model X.prog X.w) X.A (getItem v (.ref d)) (EP X pins a Q) X.xe s
def tSl(r:V->Option Int->Option Int->Hp->VK->Prop)(te:TE)(tl th:TO):TE:=λa H Q=>te a H λx d=>tl a d λl c=>th a c λu b=>r x l u b Q
def o4{r:V->Option Int->Option Int->Hp->VK->Prop}(C:ZZ X r)(he:PE X e te)(hl:PO X lo tl)(z:PO X hi th):PE X (.Subscript e (.Slice lo hi none p2) pos) (tSl r te tl th):=by
 intro pins s c H Q I h;refine Subscript_ (dH (he pins s c H _ I h) λv k g=>?_);obtain⟨x,M,K,m,p⟩:=g;refine wpAny_Slice (dH (hl pins k c M _ K p) λf j ⟨l,L,J,y,o⟩=>dH (z pins j c L _ J o) λd a g=>?_);obtain⟨u,i,G,t,n⟩:=g;rw[evalPart_none];refine aaf ?_;have F:Inv X pins c i { a with heap:=a.heap.push { cls:=.type "slice",data:=.fields #[f,d,.none] } }:=G.kept (t':=a.toks) λb N q=>aag _ q;obtain⟨T,id,E,B,D⟩:=C pins { a with heap:=a.heap.push { cls:=.type "slice",data:=.fields #[f,d,.none] } } c i x v f d l u a.heap.objs.size Q F m (Heap.IsSliceOf.new ..) y t n;show wpAny (model X.prog X.w) X.A (subscriptTail e (.Slice lo hi none p2) v (.ref a.heap.objs.size)) (EP X pins c Q) X.xe { a with heap:=a.heap.push { cls:=.type "slice",data:=.fields #[f,d,.none] } };exact tail_any (ops:=[.ref a.heap.objs.size,v]) B E D (by with_unfolding_all rfl)
def mG(xs:ah)(lo hi:Option Int):ah:=(xs.drop (HT.eF xs.length 0 lo)).take (HT.eF xs.length xs.length hi - HT.eF xs.length 0 lo)
def m4(xs:ah)(lo hi:Option Int):(mG xs lo hi).length<=xs.length:=by
 unfold mG;rw[hF,hW];left
def W_(K:ak):V->Option Int->Option Int->Hp->VK->Prop:=λx lo hi H Q=>∃a b,x=.ref a/\bc K H a b /\
 ¬ (HT.eF b.length 0 lo=0/\HT.eF b.length b.length hi=b.length)/\∀p,H p=none->Q (.ref p) (upd H p (.tup (mG b lo hi)))
def Ma:ZZ X (W_ X.K):=by
 intro pins s n H x v t p lo hi u Q I g l j i h;obtain⟨a,c,rfl,k,hw,q⟩:=h;cases g;obtain⟨m,r,f,d⟩:=I.tuple k;have hlen:m.toArray.size=c.length:=by rw[cn];exact r.length.symm
 refine⟨"tuple",_,PyProof.Rows.slot_tuple_getitem.lookup,f.typeIs,?_⟩;refine HT.lJ f l j i (by rw[hlen];exact hw) ?_ (by rw[hlen];exact d);rw[hlen];refine⟨.ref s.heap.objs.size,_,I.laid (t':=s.toks) (o:=.tup (mG c lo hi)) (λb w q=>aag _ q) (aaj _) ?_,rfl,q _ (I.cD.fresh (aaj _))⟩;exact⟨aaG (m4 c lo hi) d,_,(r.drop (HT.eF c.length 0 lo)).take (HT.eF c.length c.length hi - HT.eF c.length 0 lo),IsTup.new _ _⟩
def Ro(K:ak):R2:=λx y H Q=>∃a b d c,x=.ref a/\y=.ref b/\bc K H a d/\bc K H b c/\d≠[]/\d.length+c.length<=sizeLine /\
 (c=[]->Q (.ref a) H)/\(c≠[]->∀p,H p=none->Q (.ref p) (upd H p (.tup (d++c))))
def Vals.tE{xs:ah}{a:az}(r:Vals xs a):a=[] ↔ xs=[]:=by
 cases r with
 |nil=>simp
 |cons _ _=>simp
def Ih:kW X (binaryOp .Add) (Ro X.K):=by
 intro pins s A H x y v u Q I k j h;obtain⟨a,b,i,g,rfl,rfl,t,r,p,f,m,l⟩:=h;cases k;cases j;obtain⟨D,d,n,_⟩:=I.tuple t;obtain⟨C,c,p2,_⟩:=I.tuple r;refine HT.JX n p2 (λz=>p (d.tE.mp z)) (λz=>⟨.ref a,H,I,rfl,m (c.tE.mp z)⟩) (λz=>?_) (by rw[<- d.length,<- c.length];exact f);refine⟨.ref s.heap.objs.size,_,I.laid (t':=s.toks) (o:=.tup (i++g)) (λb B q=>aag _ q) (aaj _) ?_,rfl,l (λw=>z (c.tE.mpr w)) _ (I.cD.fresh (aaj _))⟩;exact⟨by rw[c8];exact f,_,d.append c,IsTup.new _ _⟩
end
end L2
namespace L2
open PySem PySem.Spec PyProof.Rows
noncomputable def vT(n:Nat)(i:Int):Option Nat:=if 0<=i then(if i<n then some i.toNat else none)else if -(n:Int)<=i then some (i+n).toNat else none
def Ql{a:Type}(xs:List a)(i:Int):Option a:=(vT xs.length i).bind λj=>xs[j]?
def zU{n:Nat}{i:Int}{j:Nat}(h:vT n i=some j):seqIndex? i n=some j/\j<n /\ -(n:Int)<=i/\i<n:=by
 unfold vT at h;by_cases b:0<=i
 ·rw[cc b]at h;by_cases a:i<n
  ·rw[cc a]at h;have e:i.toNat=j:=aaq h;exact⟨by rw[seqIndex_of b a,e],by left,by left,a⟩
  ·rw[cb a]at h;cases h
 ·rw[cb b]at h;by_cases a:-(n:Int)<=i
  ·rw[cc a]at h;have e:(i+n).toNat=j:=aaq h;exact⟨by rw[seqIndex_neg (by left) a,e],by left,a,by left⟩
  ·rw[cb a]at h;cases h
def AO{a:Type}{xs:List a}{i:Int}{v:a}(h:Ql xs i=some v):∃j,seqIndex? i xs.length=some j/\xs[j]?=some v/\j<xs.length /\ -(xs.length:Int)<=i/\i<xs.length:=by
 unfold Ql at h;cases e:vT xs.length i with
 |none=>rw[e]at h;cases h
 |some j =>
  rw[e]at h;obtain⟨f,d,c,b⟩:=zU e;exact⟨j,f,h,d,c,b⟩
def oD(b:Expr):Prop:=∀o i,subscripted b false o i=operate [o,i] (getItem o i)
def Lr(X:Cx)(r:R2):Prop :=
 ∀(value slice:Expr) (pins:av) (s:Shared) (a:St) (H:Hp) (x y:V) (v u:Value) (Q:VK),Inv X pins a H s->RelV x v->RelV y u->r x y H Q ->
  subscripted slice false v u=operate [v,u] (getItem v u)->wpAny (model X.prog X.w) X.A (subscriptTail value slice v u) (EP X pins a Q) X.xe s
def U5(X:Cx)(id:String)(r:V->ah->Hp->VK->Prop):Prop :=
 ∀(pins:av) (s:Shared) (a:St) (H:Hp) (x:V) (xs:ah) (v:Value) (b:az) (Q:VK),Inv X pins a H s->RelV x v->Vals xs b->r x xs H Q ->
  wpAny (model X.prog X.w) X.A (call (.builtin id) (v::b)) (EP X pins a Q) X.xe s
variable {H:Hp}{σ:L2.St}
section
variable {X:Cx}{a b:Expr}{ta tb:TE}{pos:Pos}
def Lr.or{r e:R2}(h:Lr X r)(h':Lr X e):Lr X (λx y H Q=>r x y H Q\/e x y H Q):=by
 intro value slice pins s σ H x y v u Q I d c q f;rcases q with q|q
 ·exact h value slice pins s σ H x y v u Q I d c q f
 ·exact h' value slice pins s σ H x y v u Q I d c q f
def Kz{r:R2}(f:Lr X r)(i:PE X a ta)(g:PE X b tb)(hs:oD b):PE X (.Subscript a b pos) (Ho r ta tb):=by
 intro pins s σ H Q I h;exact Subscript_ (Pe i g I h λv u c x y k j e d q=>f a b pins c σ k x y v u Q j e d q (hs _ _))
def Xe(K:ak):R2:=λx y H Q=>∃p c i v,x=.ref p/\y=.int i/\dq K H p c/\Ql c i=some v/\Q v H
def Xd(K:ak):R2:=λx y H Q=>∃p c i v,x=.ref p/\y=.int i/\bc K H p c/\Ql c i=some v/\Q v H
theorem IF:Lr X (Xe X.K):=by
 intro value slice pins s σ H x y v u Q I n m h f;obtain⟨p,G,i,z,rfl,rfl,A,B,q⟩:=h;cases n;obtain⟨t,rfl⟩:=m;obtain⟨F,r,d,J⟩:=I.list A;obtain⟨j,c,E,M,D,C⟩:=AO B;obtain⟨w,k,o⟩:=r.get E;have hl:=r.length;have L:=tL;have fin:EP X pins σ Q w s:=⟨z,H,I,o,q⟩
 by_cases g:0<=i
 ·have e:i.toNat=j:=by
   rw[seqIndex_of g C]at c;exact aaq c
  exact item_listR d.isList g (by left) (by rw[e];simpa using k) fin f
 ·have e:(i+(F.toArray.size:Int)).toNat=j:=by
   rw[seqIndex_neg (by left) D]at c;rw[cn,<- hl];exact aaq c
  exact ab8 (x:=w) d.isList.typeIs slot_list_getitem.lookup
   (wpAny_getItem_list_neg (Q:=λr l=>r=w/\EP X pins σ Q r l) d.isList (by left) (by rw[cn]<;>omega) (by left) (by rw[e];simpa using k) ⟨rfl,fin⟩) f
def Nl:Lr X (Xd X.K):=by
 intro value slice pins s σ H x y v u Q I f e h k;obtain⟨p,B,i,z,rfl,rfl,l,m,q⟩:=h;cases f;obtain⟨t,rfl⟩:=e;obtain⟨J,r,c,C⟩:=I.tuple l;obtain⟨j,o,n,G,F,E⟩:=AO m;obtain⟨w,A,g⟩:=r.get n;have hl:=r.length;have D:=tL;have fin:EP X pins σ Q w s:=⟨z,H,I,g,q⟩
 exact ab8 (x:=w) c.typeIs slot_tuple_getitem.lookup
  (getItem_tuple (j:=j) (Q:=λr d=>r=w/\EP X pins σ Q r d) c (by left) (by left) (by rw[cn,<- hl];exact o) (by simpa using A) ⟨rfl,fin⟩) k
def yk(c:az)(n j:Nat)(u:Value):Obj.mapSeq (·.setIfInBounds j u) { cls:=.type "list",data:=.seq c.toArray n }={ cls:=.type "list",data:=.seq (c.set j u).toArray n }:=by
 simp[Obj.mapSeq]
theorem Inv.lst{pins:av}{σ:St}{H:Hp}{s:Shared}{p:Addr}{xs:ah}(I:Inv X pins σ H s)(h:H p=some (.lst xs)):
  ∃(c:az) (n:Nat),Vals xs c/\s.heap.get? p=some { cls:=.type "list",data:=.seq c.toArray n }/\xs.length<=sizeLine:=by
 obtain⟨z,c,n,r,e⟩:=I.cD p _ h;exact⟨c,n,r,e,z⟩
def Inv.M8{pins:av}{s:Shared}{p:Addr}{xs c:ah}{d its':az}{n n':Nat}{f:Obj->Obj}(I:Inv X pins σ H s)(h:H p=some (.lst xs))
  (g:s.heap.get? p=some { cls:=.type "list",data:=.seq d.toArray n }) (hf:f { cls:=.type "list",data:=.seq d.toArray n }={ cls:=.type "list",data:=.seq its'.toArray n' }) (r:Vals c its') (hz:c.length<=sizeLine) (t:Nat) :
  Inv X pins σ (upd H p (.lst c)) { s with heap:=s.heap.update p f,toks:=t }:=by
 have e:(s.heap.update p f).get? p=some { cls:=.type "list",data:=.seq its'.toArray n' }:=by
  rw[Heap.get?_update_self f g (by rw[hf]<;>rfl),hf]
 refine I.write (x:=p) (by rw[h];trivial) (λb u i q=>(aa2 _ _ (ab0 i)).trans q) ⟨_,e⟩ ?_;exact⟨hz,its',n',r,e⟩
def Rm:V->V->V->Hp->(Hp->Prop)->Prop:=λo i v H Q=>∃p c k j,o=.ref p/\i=.int k/\H p=some (.lst c)/\vT c.length k=some j/\Q (upd H p (.lst (c.set j v)))
def set_list:U4 X Rm:=by
 intro pins s σ H o i v E F u Q I A B z h;obtain⟨p,y,k,j,rfl,rfl,f,D,q⟩:=h;cases A;obtain⟨t,rfl⟩:=B;obtain⟨w,n,r,d,C⟩:=I.lst f;obtain⟨c,J,l,g⟩:=zU D;have hl:=r.length;have G:=tL;have x:Inv X pins σ (upd H p (.lst (y.set j v))) { s with heap:=s.heap.update p (Obj.mapSeq (·.setIfInBounds j u)) } :=
  I.M8 f d (yk w n j u) (r.set z j) (by rw[ji];exact C) s.toks
 by_cases m:0<=k
 ·have e:k.toNat=j:=by
   rw[seqIndex_of m g]at c;exact aaq c
  exact PySem.W.ki_setAt d m (by left) (by rw[cn,<- hl];exact g) (by rw[e];exact⟨_,x,q⟩)
 ·have e:(k+(w.toArray.size:Int)).toNat=j:=by
   rw[seqIndex_neg (by left) l]at c;rw[cn,<- hl];exact aaq c
  exact PySem.W.ki_setBack d (by left) (by rw[cn,<- hl];exact l) (by left) (by rw[e];exact⟨_,x,q⟩)
def sL(lo c:Option Int)(n:Nat):(sliceBounds lo c none n).1=((HT.eF n 0 lo:Nat):Int)/\(sliceBounds lo c none n).2.1=((HT.eF n n c:Nat):Int)/\(sliceBounds lo c none n).2.2=1:=by
 refine⟨?_,?_,rfl⟩
 ·cases lo with
  |none=>simp[sliceBounds,HT.eF]
  |some i =>
   simp only[sliceBounds,HT.eF,Option.getD_none,show(1:Int)>0 by decide,if_true];by_cases h:i<0
   ·simp only[h,if_true]<;>left
   ·simp only[h,if_false]<;>left
 ·cases c with
  |none=>simp[sliceBounds,HT.eF]
  |some i =>
   simp only[sliceBounds,HT.eF,Option.getD_none,show(1:Int)>0 by decide,if_true];by_cases h:i<0
   ·simp only[h,if_true]<;>left
   ·simp only[h,if_false]<;>left
def qF(c:az)(lo d:Option Int):slicePick c.toArray lo d none=((c.drop (HT.eF c.length 0 lo)).take (HT.eF c.length c.length d - HT.eF c.length 0 lo)).toArray:=by
 obtain⟨g,f,e⟩:=sL lo d c.toArray.size;unfold slicePick;rw[g,f,e];simp only[sliceRange_one,pick_run,cn]<;>rfl
def Xa(K:ak):V->Option Int->Option Int->Hp->VK->Prop:=λx d e H Q=>∃a c,x=.ref a/\dq K H a c/\∀p,H p=none->Q (.ref p) (upd H p (.lst (mG c d e)))
def zm:ZZ X (Xa X.K):=by
 intro pins s σ H x v p n d e t Q I g m j i h;obtain⟨a,c,rfl,l,q⟩:=h;cases g;obtain⟨w,r,f,k⟩:=I.list l;have hlen:=r.length;refine⟨"list",_,slot_list_getitem.lookup,f.isList.typeIs,?_⟩;refine wpAny_getItem_list_slice f.isList m j i .none (by simp) ?_ (by rw[cn]<;>omega);rw[qF,<- hlen];refine⟨.ref s.heap.objs.size,_,I.laid (t':=s.toks) (o:=.lst (mG c d e)) (λb u q=>aag _ q) (aaj _) ?_,rfl,q _ (I.cD.fresh (aaj _))⟩;exact⟨aaG (m4 c d e) k,_,0,(r.drop (HT.eF c.length 0 d)).take (HT.eF c.length c.length e - HT.eF c.length 0 d),aao _ rfl⟩
noncomputable def jC:V->Bool
 |.bP=>true
 |.bl _=>true
 |.int _=>true
 |.str _=>true
 |_=>false
noncomputable def Jp:V->V->Bool
 |.bP,.bP=>true
 |.bl a,.bl b=>a==b
 |.bl a,.int b=>(if a then 1 else 0)==b
 |.int a,.bl b=>a==(if b then 1 else 0)
 |.int a,.int b=>a==b
 |.str a,.str b=>a==b
 |_,_=>false
def OT{A:aN}{s:Shared}{y x:V}{u v:Value}(e:RelV y u)(c:RelV x v)(g:jC y=true)(f:jC x=true):SeqAt.EqAt A s u v (Jp y x):=by
 cases y with
 |bP =>
  cases e;cases x with
  |bP=>cases c;exact ach _
  |bl b=>cases c;exact SeqAt.EqAt.none_bool b
  |int b=>obtain⟨t,rfl⟩:=c;exact SeqAt.EqAt.none_int b t
  |str b=>obtain⟨t,rfl⟩:=c;exact SeqAt.EqAt.none_str b t
  |_=>exact absurd (show false=true from f) aae
 |bl a =>
  cases e;cases x with
  |bP=>cases c;exact SeqAt.EqAt.bool_none a
  |bl b=>cases c;exact abD a b
  |int b=>obtain⟨t,rfl⟩:=c;exact SeqAt.EqAt.bool_int a b t
  |str b=>obtain⟨t,rfl⟩:=c;exact SeqAt.EqAt.bool_str a b t
  |_=>exact absurd (show false=true from f) aae
 |int a =>
  obtain⟨d,rfl⟩:=e;cases x with
  |bP=>cases c;exact SeqAt.EqAt.int_none a d
  |bl b=>cases c;exact SeqAt.EqAt.int_bool a d b
  |int b=>obtain⟨t,rfl⟩:=c;exact acq a d b t
  |str b=>obtain⟨t,rfl⟩:=c;exact aco a d b t
  |_=>exact absurd (show false=true from f) aae
 |str a =>
  obtain⟨d,rfl⟩:=e;cases x with
  |bP=>cases c;exact SeqAt.EqAt.str_none a d
  |bl b=>cases c;exact SeqAt.EqAt.str_bool a d b
  |int b=>obtain⟨t,rfl⟩:=c;exact acp a d b t
  |str b=>obtain⟨t,rfl⟩:=c;exact SeqAt.EqAt.str_str a d b t
  |_=>exact absurd (show false=true from f) aae
 |_=>exact absurd (show false=true from g) aae
def Jq(x:V)(u:Value):Bool:=match u with
 |.none=>Jp .bP x
 |.bool b=>Jp (.bl b) x
 |.int i _=>Jp (.int i) x
 |.str z _=>Jp (.str z) x
 |_=>false
def Fy{x y:V}{u:Value}(r:RelV y u)(f:jC y=true):Jq x u=Jp y x:=by
 cases y with
 |bP=>cases r;rfl
 |bl b=>cases r;rfl
 |int i=>obtain⟨t,rfl⟩:=r;rfl
 |str z=>obtain⟨t,rfl⟩:=r;rfl
 |_=>exact absurd (show false=true from f) aae
theorem uJ{x:V}:∀{xs:ah} {c:az},Vals xs c->xs.all jC=true->c.any (Jq x)=xs.any λy=>Jp y x
 |_,_,.nil,_=>rfl
 |y::xs,u::c,.cons r t,f=>by
  rw[gc,cM]at f;rw[mm,mm,Fy r f.1,uJ t f.2]
theorem o9{A:aN}{s:Shared}{x:V}{v:Value}(e:RelV x v)(g:jC x=true):∀{xs:ah} {d:az},Vals xs d->xs.all jC=true->∀u∈d,SeqAt.EqAt A s u v (Jq x u)
 |_,_,.nil,_=>λu c=>by cases c
 |y::xs,u::d,.cons r t,f=>λh c=>by
  rw[gc,cM]at f;rcases List.mem_cons.mp c with rfl|c
  ·rw[Fy r f.1];exact OT r e f.1 g
  ·exact o9 e g t f.2 h c
def VE(x:V)(xs:ah):Bool:=xs.any λy=>Jp y x
def rIn(K:ak)(neg:Bool):R2:=λx y H Q=>∃p c,y=.ref p/\(dq K H p c\/bc K H p c)/\jC x=true/\c.all jC=true/\Q (.bl (if neg then !VE x c else VE x c)) H
def Bk:kW X (compareOp .In) (rIn X.K false):=by
 intro pins s σ H x y v u Q I f i h;obtain⟨p,k,rfl,c,g,fs,q⟩:=h;cases i;rcases c with c|c
 ·obtain⟨d,r,e,j⟩:=I.list c;refine SeqAt.in_listAt (Jq x) e.isList (λw hw=>o9 f g r fs w (by simpa using hw)) ⟨.bl _,H,I,rfl,?_⟩;rw[show d.toArray.any (Jq x)=d.any (Jq x) by simp,uJ r fs];exact q
 ·obtain⟨d,r,e,j⟩:=I.tuple c;refine SeqAt.in_tupleAt (Jq x) e (λw hw=>o9 f g r fs w (by simpa using hw)) ⟨.bl _,H,I,rfl,?_⟩;rw[show d.toArray.any (Jq x)=d.any (Jq x) by simp,uJ r fs];exact q
def uv:fY X (.builtin "len") (λg H Q=>∃p c,g=[.ref p]/\(dq X.K H p c\/bc X.K H p c)/\Q (.int c.length) H):=by
 intro pins s σ H g l Q I r h;obtain⟨p,c,rfl,d,q⟩:=h;obtain⟨u,rfl,i⟩:=vals1 r;cases i;have m:=tL;rcases d with d|d
 ·obtain⟨k,e,f,j⟩:=I.list d;have hlen:=e.length;exact Calls.call_len_list f.isList (by simp only[cn]<;>omega) ⟨.int c.length,H,I.tok _,⟨s.toks+1,by rw[cn,hlen]⟩,q⟩
 ·obtain⟨k,e,f,j⟩:=I.tuple d;have hlen:=e.length;exact len_tuple f (by simp only[cn]<;>omega) ⟨.int c.length,H,I.tok _,⟨s.toks+1,by rw[cn,hlen]⟩,q⟩
def uu:fY X (.type "list") (λx H Q=>∃p d,x=[.ref p]/\(dq X.K H p d\/bc X.K H p d)/\∀l,H l=none->Q (.ref l) (upd H l (.lst d))):=by
 intro pins s σ H x A Q I r h;obtain⟨p,d,rfl,k,q⟩:=h;obtain⟨u,rfl,z⟩:=vals1 r;cases z;have fin:∀(c:az),Vals d c->d.length<=sizeLine->∀(h':Heap) (g:Nat),(∀b y,s.heap.get? b=some y->h'.get? b=some y) ->
   h'.get? s.heap.objs.size=some { cls:=.type "list",dict:=none,data:=.seq c.toArray g,slots:=#[] }->EP X pins σ Q (.ref s.heap.objs.size) { s with heap:=h' }:=λc f j h' g i e =>
  ⟨.ref s.heap.objs.size,_,I.laid (t':=s.toks) i (aaj _) (show c_ _ h' _ (.lst d) from⟨j,c,g,f,e⟩),rfl,q _ (I.cD.fresh (aaj _))⟩
 rcases k with k|k
 ·obtain⟨c,f,m,j⟩:=I.list k;have hlen:=f.length;obtain⟨o,t,w,n,v⟩:=m.isList;exact call_list_seq p (.inl rfl) t w v (λh' g i e=>fin c f j h' g i e) (by simp only[cn]<;>omega)
 ·obtain⟨c,f,m,j⟩:=I.tuple k;have hlen:=f.length;obtain⟨o,t,w,n,v⟩:=m;exact call_list_seq p (.inr rfl) t w v (λh' g i e=>fin c f j h' g i e) (by simp only[cn]<;>omega)
def qQ:fY X (.type "tuple") (λk H Q=>∃p c,k=[.ref p]/\((dq X.K H p c/\∀l,H l=none->Q (.ref l) (upd H l (.tup c)))\/(bc X.K H p c/\Q (.ref p) H))):=by
 intro pins s σ H k x Q I r h;obtain⟨p,c,rfl,h⟩:=h;obtain⟨u,rfl,t⟩:=vals1 r;cases t;rcases h with ⟨i,q⟩|⟨i,q⟩
 ·obtain⟨j,f,g,m⟩:=I.list i;have hlen:=f.length;refine call_tuple_list g.isList (λd v=>?_) (by simp only[cn]<;>omega);have n:Inv X pins σ H { s with heap:=d }:=I.kept (t':=s.toks) v;have w:Inv X pins σ (upd H d.objs.size (.tup c)) { s with heap:=d.push { cls:=.type "tuple",data:=.seq j.toArray } } :=
   n.laid (t':=s.toks) (λb o e=>aag _ e) (aaj _) (show c_ _ _ _ (.tup c) from⟨m,j,f,IsTup.new _ _⟩)
  exact⟨.ref d.objs.size,_,w,rfl,q _ (n.cD.fresh (aaj _))⟩
 ·obtain⟨j,f,g,m⟩:=I.tuple i;exact call_tuple_same g ⟨.ref p,H,I,rfl,q⟩
def tyV(K:ak)(T:String)(x:V)(H:Hp):Prop:=match x with
 |.ref p=>T = "list" /\ ∃c,dq K H p c
 |_=>False
def LQ{pins:av}{s:Shared}{T:String}{x:V}{v:Value}(I:Inv X pins σ H s)(r:RelV x v)(d:tyV X.K T x H):
  s.TypeIs v T/\∀a,v=.ref a->∃g,s.heap.get? a=some g/\g.dict=none:=by
 cases x with
 |ref p =>
  cases r;obtain⟨rfl,j,h⟩:=d;obtain⟨k,_,f,_⟩:=I.list h;refine⟨f.isList.typeIs,λa e=>?_⟩;cases e;obtain⟨o,n,e,c,i,_⟩:=f;exact⟨o,e,i⟩
 |_=>exact False.elim d
def tBM(K:ak)(T:String)(r:V->ah->Hp->VK->Prop)(to:TE)(t:TA):TE:=λσ H Q=>to σ H λx c=>tyV K T x c/\t σ c λd e=>r x d e Q
variable {o e:Expr}{es:ao}{to:TE}{t:TA}{name:Str}{apos cpos:Pos}{T id:String}{r:V->ah->Hp->VK->Prop}
def DZ(q:PlainAttrs T)(slot:Slot T name id)(C:typeOf (.builtin id)=pure (.type "method_descriptor"))(w:U5 X id r)(u:PE X o to)(y:PA X (e::es) t)
  (J:attributeBase o name X.env (eval o X.env)=eval o X.env:=by rfl)
  (hfew:((backTo cpos (starEach (e::es) X.env)).all (λx=>!x.1)&&(backToKw cpos (keywordEach [] X.env)).all (λx=>x.1.isSome)
   && decide ((e::es).length+([]:List Keyword).length+(if ([]:List Keyword).isEmpty then 0 else 1)<30))=true:=by rfl)
  (hline:(apos.endLine==cpos.line)=true:=by rfl) (hs:starEach (e::es) X.env=(false,eval e X.env)::starEach es X.env:=by rfl) (D:(backTo cpos (starEach es X.env)).any (·.1)=false:=by rfl) :
  PE X (.Call (.Attribute o name apos) (e::es) [] cpos) (tBM X.K T r to t):=by
 intro pins s σ H Q I h;refine wpAny_Call_method_late J hfew hline rfl (dH (u pins s σ H _ I h) λv l B=>?_);obtain⟨x,G,f,c,j,p⟩:=B;obtain⟨A,z⟩:=LQ f c j;refine⟨T,id,q,slot,C,A,z,?_⟩;have d:=y cpos pins l σ G _ f p;rw[hs]at d ⊢;refine Calls.callWith_builtin (by show(false||(backTo cpos (starEach es X.env)).any (·.1))=false;rw[D]<;>rfl) (aci ?_);exact dH d λi k ⟨g,F,E,m,n⟩=>w pins k σ F x g v i Q E c m n
/- xs.append(e),list.index on a module's tuple .. are U5 facts of 06m -/
end
end L2
namespace L2
open PySem PySem.Spec PyProof.Rows
def MtM(X:Cx)(id:String)(r:V->ah->Hp->VK->Prop):Prop :=
 ∀(pins:av) (s:Shared) (a:St) (H:Hp) (x:V) (xs:ah) (v:Value) (b:az) (Q:VK),Inv X pins a H s->RelV x v->Vals xs b->r x xs H Q ->
  wpAny (model X.prog X.w) X.A (call (.builtin id) (v::b)) (EP X pins a Q) X.xe s
def Vals.one:∀{x:V} {a:az},Vals [x] a->∃u,a=[u]/\RelV x u
 |_,_,.cons r .nil=>⟨_,rfl,r⟩
theorem Vals.rep{xs:ah}{a:az}(h:Vals xs a):∀k:Nat,Vals (List.replicate k xs).flatten (List.replicate k a).flatten
 |0=>.nil
 |k+1=>by
  rw[gb,gb,hS,hS];exact Vals.append h (Vals.rep h k)
theorem foldl_rep(b:az):∀(k:Nat) (a:az),
  List.foldl (λx1 x2=>x1++x2) a.toArray (List.replicate k b.toArray)=(a++(List.replicate k b).flatten).toArray
 |0,a=>by simp
 |k+1,a=>by
  have e:a.toArray++b.toArray=(a++b).toArray:=by simp
  have c:(a++b)++(List.replicate k b).flatten=a++(List.replicate (k+1) b).flatten:=by
   rw[gb,hS,mu]
  rw[<- c,<- foldl_rep b k (a++b),<- e,gb,g5]
variable {aR:az}{t':Nat}
section
variable {X:Cx}{pins:av}{σ:St}{H:Hp}{s:Shared}{l b:Addr}{xs ys zs:ah}
def Inv.mx{its':az}{n:Nat}{f:aW->aW}(I:Inv X pins σ H s)(g:H l=some (.lst xs))
  (e:s.heap.get? l=some { cls:=.type "list",data:=.seq aR.toArray n }) (hf:f aR.toArray=its'.toArray) (a:Vals ys its') (hz:ys.length<=sizeLine) :
  Inv X pins σ (upd H l (.lst ys)) { s with heap:=s.heap.update l (Obj.mapSeq f),toks:=t' }:=by
 have q:=PySem.IsL.update e f;rw[hf]at q;refine I.write (x:=l) (by rw[g];exact trivial) (λh u d c=>(aa2 s.heap (Obj.mapSeq f) (ab0 d)).trans c) ⟨_,q⟩ ?_;exact⟨hz,its',_,a,q⟩
def Inv.R7(I:Inv X pins σ H s)(a:Vals ys aR)(hz:ys.length<=sizeLine):
  Inv X pins σ (upd H s.heap.objs.size (.lst ys)) { s with heap:=s.heap.push { cls:=.type "list",data:=.seq aR.toArray },toks:=t' } :=
 I.laid (λ_ _ q=>aag _ q) (aaj _) ⟨hz,aR,0,a,aao _ rfl⟩
theorem Inv.fresh(I:Inv X pins σ H s):H s.heap.objs.size=none:=I.cD.fresh (aaj _)
def Inv.Br(I:Inv X pins σ H s)(a:H l=some (.lst xs)):xs.length<=sizeLine/\∃(aR:az) (n:Nat),Vals xs aR/\xs.length=aR.length/\s.heap.get? l=some { cls:=.type "list",data:=.seq aR.toArray n }:=by
 obtain⟨z,aR,n,r,e⟩:=I.cD l _ a;exact⟨z,aR,n,r,r.length,e⟩
def vL{n:Nat}(h:n<=sizeLine):Builtin.List.listTooLong n=false:=by
 unfold Builtin.List.listTooLong;exact aa9 (by left)
end
section
variable {X:Cx}
def HS:V->ah->Hp->VK->Prop:=λx b H Q=>∃l a y,x=.ref l/\b=[y]/\H l=some (.lst a)/\a.length<sizeLine/\Q .bP (upd H l (.lst (a++[y])))
theorem Bp:MtM X "list.append" HS:=by
 intro pins s f H x i v j Q I b c h;obtain⟨l,g,y,rfl,rfl,a,k,q⟩:=h;cases b;obtain⟨u,rfl,d⟩:=c.one;obtain⟨z,aR,n,r,hl,e⟩:=I.Br a;refine abj F.slot_list_append ⟨_,e,rfl⟩ F.entry_list_append (F.args_list_append_2 _ _) (PySem.list_append l aR.toArray n u (by rw[cn];left)) ⟨e,?_⟩;refine⟨.bP,_,I.mx (its':=aR++[u]) a e (by simp) (r.append (.cons d .nil)) ?_,rfl,q⟩;rw[c8,hL];left
def HR:V->ah->Hp->VK->Prop:=λx d H Q=>∃l b c a,x=.ref l/\d=[.ref b]/\H l=some (.lst c)/\H b=some (.lst a)/\c.length+a.length<=sizeLine/\Q .bP (upd H l (.lst (c++a)))
theorem Bn:MtM X "list.extend" HR:=by
 intro pins s t H x B v C Q I f g h;obtain⟨l,b,A,w,rfl,rfl,d,m,D,q⟩:=h;cases f;obtain⟨u,rfl,i⟩:=g.one;cases i;obtain⟨z,aR,n,r,hl,e⟩:=I.Br d;obtain⟨y,a,k,j,E,o⟩:=I.Br m;have c:aR.toArray.size+a.toArray.size<=sizeLine:=by rw[cn,cn];left
 have p:¬ (!aR.toArray.isEmpty&&Builtin.List.listTooLong (aR.toArray.size+a.toArray.size))=true:=by
  rw[vL c,ll];exact aae
 refine abj F.slot_list_extend ⟨_,e,rfl⟩ F.entry_list_extend (F.args_list_extend_2 _ _)
  (AutoSeq1.list_extend_list_list_0 l aR.toArray n b a.toArray k p (by rw[cn];left) (by left)) ⟨e,o,?_⟩
 refine⟨.bP,_,I.mx (its':=aR++a) d e (by simp) (r.append j) ?_,rfl,q⟩;rw[c8];left
def Xg:R2:=λx y H Q=>∃l b c a,x=.ref l/\y=.ref b/\H l=some (.lst c)/\H b=some (.lst a)/\c.length+a.length<=sizeLine/\∀p,H p=none->Q (.ref p) (upd H p (.lst (c++a)))
def D7:kW X (binaryOp .Add) Xg:=by
 intro pins s m H x y v u Q I d c h;obtain⟨l,b,t,o,rfl,rfl,g,i,A,q⟩:=h;cases d;cases c;obtain⟨z,aR,n,r,hl,e⟩:=I.Br g;obtain⟨p,a,w,f,B,k⟩:=I.Br i;refine PySem.P.add_list e k ?_ (by rw[cn,cn];left);have j:aR.toArray++a.toArray=(aR++a).toArray:=by simp
 rw[j];exact⟨.ref _,_,I.R7 (t':=s.toks) (r.append f) (by rw[c8];left),rfl,q _ I.fresh⟩
def Xb:R2:=λx y H Q=>∃l k a,x=.ref l/\y=.int k/\H l=some (.lst a) /\ -(2 ^ 63)<=k/\k<2 ^ 63/\a.length*k.toNat<=sizeLine /\
 ∀p,H p=none->Q (.ref p) (upd H p (.lst (List.replicate k.toNat a).flatten))
def len_rep{a:Type}(xs:List a)(k:Nat):(List.replicate k xs).flatten.length=k*xs.length:=by
 induction k with
 |zero=>simp
 |succ k b=>rw[gb,hS,c8,b,pF,la]
theorem MM:kW X (binaryOp .Mult) Xb:=by
 intro pins s C H x y v u Q I f d h;obtain⟨l,k,D,rfl,rfl,i,o,j,b,q⟩:=h;cases f;obtain⟨t,rfl⟩:=d;obtain⟨z,aR,n,r,hl,e⟩:=I.Br i;have hlen:aR.toArray.size*k.toNat<=sizeLine:=by rw[cn,<- hl];exact b
 have g:¬ aR.toArray.size*k.toNat>(2 ^ 63 - 1) / 8:=by
  have:(sizeLine:Nat)<=(2 ^ 63 - 1) / 8:=by decide
  left
 have w:¬ (!Builtin.List.listFitsIndex k)=true:=by
  rw[fitsIndex_both o j];exact aae
 have B:¬ Builtin.List.listTooLong (aR.toArray.size*k.toNat)=true:=by
  rw[vL hlen];exact aae
 have A:List.foldl (λx1 x2=>x1++x2) #[] (List.replicate (if aR.toArray.isEmpty=true then 0 else k.toNat) aR.toArray)=(List.replicate k.toNat aR).flatten.toArray:=by
  have p:∀m:Nat,List.foldl (λx1 x2=>x1++x2) #[] (List.replicate m aR.toArray)=(List.replicate m aR).flatten.toArray:=λm=>by
   have:=foldl_rep aR m [];rw[fx]at this;exact this
  rw[p];cases aR with
  |nil=>simp
  |cons a E=>rw[cb (by simp)]
 refine wpAny_binaryOp_repeat_ref (T:="list") (U:="int") (by decide) ⟨_,e,rfl⟩ (λc=>typeIs_int c k t) noFill_list_mul F.fills_int_mul acj repeat_list F.slot_int_index.lookup
  (abj acj (typeIs_int s k t) F.entry_int_rmul (F.args_int_rmul_2 _ _) (int___rmul___int_list k t l aR.toArray n)
   ⟨e,rfl,⟨_,e,rfl⟩,abj F.slot_list_mul ⟨_,e,rfl⟩ F.entry_list_mul (F.args_list_mul_2 _ _) (AutoListH.list___mul___list_int_3 l aR.toArray n k t w g B) ⟨e,?_⟩⟩)
 rw[A];exact⟨.ref _,_,I.R7 (t':=s.toks) (r.rep k.toNat) (by rw[len_rep,pG];exact b),rfl,q _ I.fresh⟩
end
end L2
namespace Att
open PySem PySem.W PySem.Calls PyProof.Rows
variable {h:Heap}
def nJ{P:Params}:∀(ns:ae) (vs:az),WellAll P h vs (ns.map WData.int)->IntsAre vs ns:=by
 intro ns;induction ns with
 |nil =>
  intro vs w;rw[pE]at w;cases w;exact .nil
 |cons n ns c =>
  intro vs w;rw[dx]at w;cases w with
  |cons a b =>
   cases a;exact .cons _ _ (c _ b)
def A_{l:OpenLaw}{n:Nat}(hn:l.most=some n){P:Params}{args:List WData}{vals:az}
  (j:l.row.toRowW.claim.pre args=true) (t:WellAll P h vals args) :
  ∃a g b,vals=[Value.ref a]/\args=[WData.list (b.map WData.int)]/\h.get? a=some { cls:=.type "list",data:=.seq g.toArray }/\IntsAre g b/\b.length<=n:=by
 have u:WShape.hasAll [] args [.list .int]=true:=(pre_splitW j).1;have i:l.pre.holds [] { args:=args }=true:=(pre_splitW j).2;obtain⟨d,r,rfl,s,p⟩:=hasAllW_cons u;obtain rfl:=hasAllW_nil p;obtain⟨v,rfl,o⟩:=hasW_list s;obtain⟨b,rfl⟩:=items_int o;have hlen:b.length<=n:=by
  unfold OpenLaw.pre at i;have f:(WTm.not (.lt (.lit (.int (n:Int))) (.len (.arg 0)))).holds [] { args:=[.list (b.map .int)] }=true:=by
   have f:=(holds_andW i).1;rw[hn]at f;exact f
  have e:=condW_of f (w_not (w_lt w_lit (w_len_list (w_arg rfl))));rw[b4]at e;refine Nat.le_of_not_lt λq=>?_;have k:(n:Int)<((b.length:Nat):Int):=by left
  first
   | (rw[lZ k]at e;exact absurd e (by decide))
   | (simp at e;left)
 cases t with
 |cons w1 w2 =>
  cases w2;cases w1 with
  |list m c=>exact⟨_,_,b,rfl,rfl,m,nJ b _ c,hlen⟩
def Bh(l:OpenLaw)(args:List WData):l.row.toRowW.claim.post args (.bool true) args=true :=
 postW_of (r:=l.row.toRowW) (X:=(true==true))
  (show WShape.has [] (.bool true) .bool=true by first|rfl|decide|simp[WShape.has,WShape.arms,WShape.armsAll])
  (show(WTm.eq .res (.lit (.bool true))).value [] { args:=args,res:=some (.bool true),after:=args }=some (.bool (true==true)) from w_eq_bool (w_res rfl) w_lit) rfl
def w8{l:OpenLaw}{n:Nat}{q:aK}{loose:aq}{m:(aY)->Heap->Prop}{k:World->Heap->Prop}{d:DefRec}
  (hn:l.most=some n) (H:d.params.defaults=[])
  (call:∀(w:World) (s₀ b:Shared) (mg mb:aY) (fa:Addr) (o:Obj) (i g c:Value) (a:Addr) (vs:az) (ns:ae),
   Ground q loose [] m w s₀ mg mb b.heap->k w b.heap ->
   b.heap.get? fa=some o->o.data=.func (docDef d.name d.params d.body d.scope i g c)->b.heap.CodeRec g d.name->mg d.name=some (.ref fa) ->
   b.heap.get? a=some { cls:=.type "list",data:=.seq vs.toArray }->IntsAre vs ns->ns.length<=n->b.gens = #[] ->
   codeAny (model l.prog w) callerA (.call (.ref fa) ⟨[.ref a],[]⟩) (λr e=>r=.ok (.ret (.bool true))/\OldK b.heap e.heap/\e.os=b.os/\AllBare e.gens) b) :
  WalkO q loose m k l.row.toRowW d [] (λf vs=>PySem.call f vs):=by
 intro w s₀ b mg mb G Y fa o i g c D kV u z p j hmg y args vals as J E s F x;obtain rfl:D=.none:=Dflts.none j H;obtain rfl:kV=.none:=Dflts.noKw j;obtain⟨a,vs,ns,rfl,rfl,I,hints,hlen⟩:=A_ hn J F;refine enter_call (acg (call w s₀ b mg mb fa o i g c a vs ns G Y u (fd_plain z) p hmg I hints hlen y) λr e t=>?_);obtain⟨rfl,C,B,A⟩:=t;exact⟨.inl ⟨.bool true,.bool true,[],rfl,λ_=>rfl,.bool true,Bh l _,λ_=>⟨List.Pairwise.nil,λ_ v=>(nomatch v)⟩⟩,C,B,A⟩
end Att
namespace L2
open PySem PySem.Spec PyProof.Rows
theorem l9:∀{vs:az} {ns:ae},IntsAre vs ns->Vals (ns.map V.int) vs
 |_,_,.nil=>.nil
 |_,_,.cons n t h=>.cons ⟨t,rfl⟩ (l9 h)
def Ka(H:Hp):Prop:=∀b,H b=none\/∃o a,H b=some (.iM o (.lst a))
def Ew{P:aK}{w:World}{K:ak}{mg mb:aY}{CX:Cd}{k:Nat}{fa a:Addr}{G:FuncData}{x:Str}{sp:Sp}{c:Shared}{vs:az}{ns:ae}
  (KX:K.In c.heap) (L:c.heap.Ns mainGlobals mg) (f:c.heap.Ns builtinsNs mb) (y:∀x:Str,x ≠ "__name__" -> mb x=bootBuiltins x) (YD:c.heap.NoLimit) (W:c.gens = #[])
  (l:c.heap.get? a=some { cls:=.type "list",data:=.seq vs.toArray }) (C:IntsAre vs ns) (hl:ns.length<=sizeLine) (U:hV k callerA)
  (F:∀base:Heap,K.In base->base.Ns mainGlobals mg->iB P w K mg base CX k fa G [x] sp) (Tf:∀(s:Shared) (u:Value),BindsTo s G ⟨[u],[]⟩ [(x,u)])
  (O:∀H:Hp,Ka H->dq K H a (ns.map V.int)->sp [.ref a] H (λv _=>v=.bl true) λ_ _ _=>False)
  (YX:∀H e g,CX [] H c (λ_ _ _=>False) e g->False) :
  codeAny (model P w) callerA (.call (.ref fa) ⟨[.ref a],[]⟩) (λr g=>r=.ok (.ret (.bool true))/\OldK c.heap g.heap/\g.os=c.os/\AllBare g.gens) c:=by
 have B:=l9 C;have XA:=C.length;have core:∀H:Hp,Ka H->dq K H a (ns.map V.int)->j6 H c.heap->(∀b,H b≠none->b=a)->(H a≠none->K.lookup a=none) ->
   codeAny (model P w) callerA (.call (.ref fa) ⟨[.ref a],[]⟩) (λr g=>r=.ok (.ret (.bool true))/\OldK c.heap g.heap/\g.os=c.os/\AllBare g.gens) c:=by
  intro H D X J E Z;have M:∀{b:Addr} {o:Obj},c.heap.get? b=some o->H b=none->(tW c.heap H).get? b=some o:=λe n=>EY e n;have RN:∀{b:Addr} {o:Obj} {es:Array DictEntry} {ep:Nat},c.heap.get? b=some o->o.data=.dict es ep->H b=none:=λ{b o es ep} e d=>by
   cases q:H b with
   |none=>rfl
   |some u =>
    have A:b=a:=E b (by rw[q];simp);subst A;rw[l]at e;cases e;have d':Data.seq vs.toArray _=Data.dict es ep:=d;cases d'
  have p:∀{b:Addr} {m:aY},c.heap.Ns b m->(tW c.heap H).Ns b m:=λ{b m} ⟨o,es,ep,e,d,r⟩=>⟨o,es,ep,M e (RN e d),d,r⟩
  have j:K.In (tW c.heap H):=λb o e=>M (KX b o e) (by
   cases q:H b with
   |none=>rfl
   |some u =>
    have A:b=a:=E b (by rw[q];simp);subst A;rw[Z (by rw[q];simp)]at e;cases e)
  have Y:Mod K mg (tW c.heap H):=⟨j,p L,⟨mb,p f,y⟩,let ⟨mc,h1,h2⟩:=YD;⟨mc,p h1,h2⟩⟩
  have e0:Kb P w K mg (tW c.heap H) callerA [] c H:=⟨rfl,Y,λb o e=>Il e,Nat.le_of_eq (BI _ _),trivial,λb f=>absurd (show b∈([]:bj) from f) (by simp),J,.of_eq W⟩
  refine acg ((F _ j (p L)).run callerA [] c H ⟨[.ref a],[]⟩ [.ref a] [.ref a] _ _ U e0 (Tf c (.ref a)) (.cons rfl .nil) (O H D X)) λr g h=>?_;cases r with
  |error e=>exact(YX H e g h).elim
  |ok fl =>
   cases fl with
   |next=>exact False.elim h
   |brk=>exact False.elim h
   |cont=>exact False.elim h
   |ret u =>
    obtain⟨v,H',S,bare,un,Yu,Q,q⟩:=h;have R:v=.bl true:=q;subst R;obtain rfl:u=Value.bool true:=Q;refine⟨rfl,OldK.of_keep λb o e=>?_,S,bare⟩;cases q:H b with
    |none=>exact un.keep b o e q (by intro z;exact absurd (show b∈([]:bj) from z) (by simp)) (by simp)
    |some u =>
     rcases D b with z|⟨T,xs,z⟩
     ·rw[q]at z;cases z
     ·have N:=un.mC b T _ z;obtain⟨I,_⟩:=J b _ z;obtain⟨e2,_⟩:=Yu b _ N;rw[e]at I;cases I;exact e2
 cases t:K.lookup a with
 |some o =>
  have e:=KX a o t;rw[l]at e;cases e;refine core (λ_=>none) (λ_=>.inl rfl) (.inr ⟨_,vs.toArray,_,t,rfl,rfl,rfl,by rw[cn,XA];exact hl,by simpa using B⟩) (λb u z=>by have i:(none:Option HO)=some u:=z;cases i) (λb z=>absurd rfl z) λz=>absurd rfl z
 |none =>
  refine core (λb=>if b=a then some (.iM { cls:=.type "list",data:=.seq vs.toArray } (.lst (ns.map V.int)))else none) (λb=>?_) (.inl (.inr ⟨{ cls:=.type "list",data:=.seq vs.toArray },aa4 rfl⟩)) (λb u z=>?_) (λb z=>?_) λ_=>t
  ·by_cases f:b=a
   ·exact .inr ⟨_,_,aa4 f⟩
   ·exact .inl (acB f)
  ·by_cases f:b=a
   ·have i:=(aa4 f).symm.trans z;cases i;subst f;exact⟨l,by rw[b4];exact hl,vs,_,B,l⟩
   ·have i:=(acB f).symm.trans z;cases i
  ·by_cases f:b=a
   ·exact f
   ·exact absurd (acB f) z
end L2
namespace L2
open PySem PySem.Spec PyProof.Rows
def Hd{l:PySem.W.OpenLaw}{n k:Nat}{q:aK}{loose:aq}{J:(aY)->Heap->Prop}{p:World->Heap->Prop}{d:DefRec}{K:Params->ak}{CX:World->Cd}{sp:World->Sp}{x:Str}
  (hn:l.most=some n) (M:n<=sizeLine) (L:d.params.defaults=[]) (t:hV k callerA)
  (A:∀(w:World) (h:Heap),p w h->(K w.params).In h)
  (F:∀(w:World) (mg:aY) (fa:Addr) (h:Heap),(K w.params).In h->h.Ns mainGlobals mg->mg d.name=some (.ref fa) ->
   ∃i:FuncData,(∀(s:Shared) (u:Value),BindsTo s i ⟨[u],[]⟩ [(x,u)]) /\
    ∀base:Heap,(K w.params).In base->base.Ns mainGlobals mg->iB l.prog w (K w.params) mg base (CX w) k fa i [x] (sp w))
  (r:∀(w:World) (H:Hp) (a:Addr) (ns:ae),ns.length<=n->Ka H->dq (K w.params) H a (ns.map V.int)->sp w [.ref a] H (λv _=>v=.bl true) λ_ _ _=>False)
  (I:∀(w:World) (H:Hp) (s:Shared) (e:Value) (s':Shared),CX w [] H s (λ_ _ _=>False) e s'->False) :
  PySem.W.WalkO q loose J p l.row.toRowW d [] (λf j=>PySem.call f j):=by
 refine Att.w8 hn L λw m c mg mb fa o P S E a j ns G Y Q R O hmg N hints hlen y=>?_;have KX:=A w _ Y;obtain⟨i,z,D⟩:=F w mg fa _ KX G.T.g hmg;exact Ew KX G.T.g G.T.b G.T.builtins G.T.nolimit y N hints (aaG hlen M) t D z (λH C B=>r w H a ns hlen C B) λH e s'=>I w H c e s'
end L2
namespace L2
open PySem PySem.Spec PyProof.Rows
noncomputable def eM(s:Stmt):Arguments:=match s with
 |.FunctionDef _ a _ _ _ _ _ _ _ _=>a
 |_=>{ posonlyargs:=[],args:=[],vararg:=none,kwonlyargs:=[],kw_defaults:=[],kwarg:=none,defaults:=[] }
noncomputable def bM(s:Stmt):aV:=match s with
 |.FunctionDef _ _ b _ _ _ _ _ _ _=>b
 |_=>[]
noncomputable def aO(s:Stmt):Scope:=match s with
 |.FunctionDef _ _ _ _ _ _ a _ _ _=>a
 |_=>{ kind:=.function,names:=[],isGenerator:=false,isCoroutine:=false }
abbrev Ce:Cd:=λ_ _ _ _ _ _=>False
abbrev E0:XK:=λ_ _ _=>False
def RC{X:Cx}:Passes Ce X E0:=λ_ _ _ _ _ _ _ h=>h.elim
structure GC(K:ak)(x qual:Str)(st:Stmt)(f:Addr)(fd:FuncData):Prop where
 ex:∃(oc:Value) (od:Option Addr) (kV doc pm:Value) (an:Option Addr) (f_ ct:Value) (D1:Array (Option Value)),
  fd=PySem.W.fnOf x qual (eM st) (bM st) (aO st) .none kV doc pm an f_ ct/\K.lookup f=some ⟨oc,od,.func fd,D1⟩/\PySem.W.codeIn K f_ qual=true
 kp:PySem.W.keepIn K (.ref f)=true
variable {f:Addr}{ps:aq}{qual:Str}{st:Stmt}
section
variable {P:aK}{w:World}{K:ak}{mg:aY}{base:Heap}
theorem GC.ok{x:Str}{b:FuncData}{N:aq}{k:Nat}{sp:Sp}(F:GC K x qual st f b)(S:gV N ps (aO st))(len:∀vs H Q E,sp vs H Q E->vs.length=ps.length)
  (e:∀(a:Value) (A:aN) (outer:List Env) (s:Shared) (H:Hp) (vs:ah) (Q:VK) (E:XK),hV k (A.deeper (envOfC qual (aO st) s.heap.objs.size f a))->sp vs H Q E ->
   ∃t,iA (jH Ce P w K mg base N qual (aO st) f a A outer s H E).zJ (bM st) t/\t { nx:=λ_ l=>Q .bP l,rt:=Q } (start N vs) H):iB P w K mg base Ce (k+1) f b ps sp:=by
 obtain⟨o,n,kV,j,m,r,a,p,u,rfl,g,c⟩:=F.ex;refine K6 g c S len λA outer s H vs Q E i d=>?_;obtain⟨t,h,q⟩:=e a A outer s H vs Q E i d;exact⟨t,h.zJ,q⟩
theorem GC.binds{x:Str}{g:FuncData}(F:GC K x qual st f g)
  (h:∀(kV a c:Value) (e:Option Addr) (d ct:Value) (b:az),b.length=ps.length->bindArgs (PySem.W.fnOf x qual (eM st) (bM st) (aO st) .none kV a c e d ct) ⟨b,[]⟩=pure (ps.zip b)):Binds K g ps []:=by
 obtain⟨k,j,kV,a,c,e,d,ct,m,rfl,l,i⟩:=F.ex;exact .all (h kV a c e d ct)
def Oh{x:Str}{h:Value}{g e:Option Addr}{i:Array (Option Value)}{kV a d b ct:Value}(l:K.lookup f=some ⟨h,g,.func (PySem.W.fnOf x qual (eM st) (bM st) (aO st) .none kV a d e b ct),i⟩)
  (c:PySem.W.codeIn K b qual=true) (k:PySem.W.keepIn K (.ref f)=true):GC K x qual st f (PySem.W.fnOf x qual (eM st) (bM st) (aO st) .none kV a d e b ct):=⟨⟨h,g,kV,a,d,e,b,ct,i,rfl,l,c⟩,k⟩
end
def EK{A:aN}{k:Nat}(a:hV k A):A.units+1<cLine:=aaK (Nat.add_le_add_left (by decide:1<=64) _) a.units
def EC{A B:Prop}(h:B):if false=true then A else B:=by
 rw[cb dX];exact h
def Nq{A B:Prop}(h:A):if true=true then A else B:=by
 rw[cc rfl];exact h
def aM(H H':Hp):Prop:=∀b o,H b=some o->H' b=some o
def aM.refl(H:Hp):aM H H:=λ_ _ h=>h
variable {H H':Hp}
def aM.trans{H1 H2:Hp}(a:aM H H1)(b:aM H1 H2):aM H H2:=λc o h=>b c o (a c o h)
def aM.free(e:aM H H'){l:Addr}(h:H' l=Option.none):H l=Option.none:=by
 cases q:H l with
 |none=>rfl
 |some o =>
  rw[e l o q]at h;cases h
def aM.seq{K:ak}{a:Addr}{xs:ah}(e:aM H H')(h:dq K H a xs):dq K H' a xs:=by
 rcases h with (h|⟨o,h⟩)|h
 ·exact .inl (.inl (e _ _ h))
 ·exact .inl (.inr ⟨o,e _ _ h⟩)
 ·exact .inr h
end L2
set_option autoImplicit false
set_option linter.all false
set_option Elab.async false
set_option maxRecDepth 100000
set_option maxHeartbeats 4000000
section
namespace DI
open PySem (Str Expr Stmt Scope NameKind)
inductive Fl where|ow|fz|al|sc
 deriving DecidableEq
inductive D where
 |bP|bl (b:Bool)|int (i:Int)|str (s:Str)
 |tup (ds:List D)
 |lst (f:Fl) (ds:List D)
 |cX (f:Fl) (ks:aL) (vs:List D)
abbrev aJ:=Option D
abbrev aa:=List D
mutual
noncomputable def aE(g:Fl->Fl):D->D
 |.tup a=>.tup (aw g a)
 |.lst f a=>.lst (g f) (aw g a)
 |.cX f e c=>.cX (g f) e (aw g c)
 |.bP=>.bP
 |.bl b=>.bl b
 |.int i=>.int i
 |.str s=>.str s
noncomputable def aw(g:Fl->Fl):aa->aa
 |[]=>[]
 |d::a=>aE g d::aw g a
end
theorem aG(g:Fl->Fl):∀a:aa,aw g a=a.map (aE g)
 |[]=>rfl
 |d::a=>by rw[aw,aG g a];rfl
noncomputable def bg:Fl->Fl|.ow=>.al|f=>f
noncomputable def eX:Fl->Fl|.fz=>.al|f=>f
noncomputable def aI:Fl->Fl|.sc=>.sc|_=>.fz
noncomputable def qM:Fl->Bool|.sc=>true|_=>false
mutual
noncomputable def bh(p:Fl->Bool):D->Bool
 |.tup a=>aU p a
 |.lst f a=>p f||aU p a
 |.cX f c b=>p f||aU p b
 |_=>false
noncomputable def aU(p:Fl->Bool):aa->Bool
 |[]=>false
 |d::a=>bh p d||aU p a
end
noncomputable def bK:Fl->Bool|.al=>true|_=>false
noncomputable def cO:Fl->Bool|.ow=>true|_=>false
noncomputable def anyF:Fl->Bool:=λ_=>true
mutual
noncomputable def i9:D->D->Bool
 |.bP,.bP=>true
 |.bl a,.bl b=>a==b
 |.bl a,.int b=>(if a then 1 else 0)==b
 |.int a,.bl b=>a==(if b then 1 else 0)
 |.int a,.int b=>a==b
 |.str a,.str b=>a==b
 |.tup a,.tup b=>ff a b
 |.lst _ a,.lst _ b=>ff a b
 |_,_=>false
noncomputable def ff:aa->aa->Bool
 |[],[]=>true
 |a::as,b::bs=>i9 a b&&ff as bs
 |_,_=>false
end
noncomputable def eJ:Nat->D->Bool
 |_,.bP=>true
 |_,.bl _=>true
 |_,.int _=>true
 |_,.str _=>true
 |n+1,.tup ds=>ds.all (eJ n)
 |n+1,.lst _ ds=>ds.all (eJ n)
 |_,_=>false
abbrev O(a:Type):=Option (Except Nat a)
abbrev au:=aa->O D
noncomputable def ok{b:Type}(a:b):O b:=some (.ok a)
noncomputable def bd{d b:Type}(x:O d)(f:d->O b):O b:=match x with
 |some (.ok a)=>f a
 |some (.error c)=>some (.error c)
 |none=>none
@[simp]theorem Vz{b:Type}{a:b}:((none:O b)=ok a)=False:=by simp[ok]
@[simp]theorem Xp{c:Type}{a b:c}:(ok a=ok b)=(a=b):=by simp[ok]
@[simp]theorem Zn{b:Type}{a:b}{c:Nat}:((some (.error c):O b)=ok a)=False:=by simp[ok]
@[simp]theorem KS{c:Type}{p:Prop}[Decidable p]{a b:c}:((if p then ok a else none)=ok b)=(p/\a=b):=by
 by_cases h:p<;>simp[h]
@[simp]theorem X4{c:Type}{p:Prop}[Decidable p]{a b:c}:((if p then none else ok a)=ok b)=(¬ p/\a=b):=by
 by_cases h:p<;>simp[h]
def m6{b c:Type}(a:b)(f:b->O c):bd (ok a) f=f a:=rfl
def nk{b:Type}{a:b}{P:Prop}(h:(none:Option b)=some a):P:=nomatch h
inductive Bd{α β:Type}(x:O α)(f:α->O β)(b:β):Prop where|mk (a:α) (h1:x=ok a) (h2:f a=ok b)
def aC{e d:Type}{x:O e}{f:e->O d}{b:d}(h:bd x f=ok b):Bd x f b:=by
 unfold bd at h
 match x,h with
 |some (.ok a),h=>exact⟨a,rfl,h⟩
 |some (.error c),h=>cases h
 |none,h=>cases h
inductive G3 where|add|sub|mul|fdiv|mod|pow|shr|band
 deriving DecidableEq
inductive Cf where|eq|ne|lt|le|gt|ge|vW
 deriving DecidableEq
inductive Ty where|int|bool|str|list|tuple
 deriving DecidableEq
inductive Bf where|len|abs|tT|list1|tuple1|ku|all1|iI
 deriving DecidableEq
inductive Tg where|nm(i:Nat)|tp(is:aP)
 deriving DecidableEq
inductive IK where|jr|seq|cL(p:Nat)
 deriving DecidableEq
inductive GK where|i(z:Int)
 deriving DecidableEq
inductive CE where
 |bP|bl (b:Bool)|int (i:Int)|str (s:Str)|glo (x:Str) (i:Int)
 |v (i:Nat)
 |bin (op:G3) (a b:CE)
 |neg (a:CE)|not (a:CE)|and (es:List CE)|or (es:List CE)
 |cmp (op:Cf) (a b:CE)
 |vV (a:CE) (t:Ty)
 |call (f:Nat) (es:List CE)
 |bf (f:Bf) (es:List CE)
 |ix (a b:CE)
 |mx (a:CE)
 |tup (es:List CE)|lst (es:List CE)
 |cL (p:Nat) (es:List CE)
 |comp (n:Nat) (t:Tg) (caps:aP) (ik:IK) (es bQ:List CE) (elt:CE)
abbrev aA:=List CE
inductive CI where|jr(a:CE)|seq(a:CE)|xu(p:Nat)(es:aA)
inductive CS where
 |asg (t:Tg) (e:CE)|par (i j:Nat) (a b:CE)|ret (e:CE)|rs (c:Nat)|ex (e:CE)
 |mut (p i:Nat) (es:aA)|app (i:Nat) (e:CE)|setI (i:Nat) (k e:CE)
 |ifs (c:CE) (a b:List CS)
 |Ke (c:CE) (b:List CS)
 |fr (t:Tg) (it:CI) (b:List CS)
abbrev af:=List CS
abbrev aX:=List (aJ)
abbrev aT:=Nat->au
noncomputable def big:Nat:=2 ^ 9000
def jv(i j:Int):Bool:=decide (i.natAbs<2 ^ 64)||decide (j.natAbs<2 ^ 64)||(decide (i.natAbs<big)&&decide (j.natAbs<big))
def rY(j:Int):Bool:=decide (j≠0)&&decide (j.natAbs<big)
noncomputable def zx(i j:Int):Bool:=decide (0<=j)&&decide (j<=1000000)&&decide (i.natAbs<2 ^ 64)
noncomputable def du:Nat:=1000000
def mz{b:Type}{c:Prop}[inst:Decidable c]{v d:b}(h:(if c then ok v else none)=ok d):c/\v=d:=by
 cases inst with
 |isTrue a=>exact⟨a,Except.ok.inj (aaq h)⟩
 |isFalse a=>cases h
def dD:G3->D->D->O D
 |.add,.int i,.int j=>ok (.int (i+j))
 |.add,.lst f a,.lst g b=>if qM f=false/\qM g=false/\a.length+b.length<=du then ok (.lst .ow (aw bg (a++b)))else none
 |.add,.tup a,.tup b=>if a.length+b.length<=du then ok (.tup (aw bg (a++b)))else none
 |.sub,.int i,.int j=>ok (.int (i - j))
 |.mul,.int i,.int j=>if jv i j then ok (.int (i*j))else none
 |.mul,.lst f a,.int k=>if qM f=false/\a.length*k.toNat<=du/\k<=du /\ -du<=k then ok (.lst .ow (aw bg (List.replicate k.toNat a).flatten))else none
 |.fdiv,.int i,.int j=>if rY j then ok (.int (i.fdiv j))else none
 |.mod,.int i,.int j=>if j≠0 then ok (.int (i.fmod j))else none
 |.pow,.int i,.int j=>if zx i j then ok (.int (i ^ j.toNat))else none
 |.shr,.int i,.int j=>if 0<=j then ok (.int (i / 2 ^ j.toNat))else none
 |.band,.int i,.int j=>if j=1 then ok (.int (i % 2))else none
 |_,_,_=>none
def inD(x:D):aa->Bool
 |[]=>false
 |y::ys=>i9 y x||inD x ys
noncomputable def eL:D->Bool
 |.bP=>true|.bl _=>true|.int _=>true|.str _=>true|_=>false
noncomputable def Nn:D->Option (aa)
 |.tup a=>some a
 |.lst _ a=>some a
 |_=>none
def cY:Cf->D->D->O D
 |.eq,a,b=>if eJ 40 a&&eJ 40 b then ok (.bl (i9 a b))else none
 |.ne,a,b=>if eJ 40 a&&eJ 40 b then ok (.bl (!i9 a b))else none
 |.lt,.int i,.int j=>ok (.bl (decide (i<j)))
 |.le,.int i,.int j=>ok (.bl (decide (i<=j)))
 |.gt,.int i,.int j=>ok (.bl (decide (j<i)))
 |.ge,.int i,.int j=>ok (.bl (decide (j<=i)))
 |.vW,a,b=>match Nn b with
  |some c=>if eL a&&c.all eL then ok (.bl (inD a c))else none
  |none=>none
 |_,_,_=>none
noncomputable def eE:Ty->D->Bool
 |.int,.int _=>true|.int,.bl _=>true
 |.bool,.bl _=>true
 |.str,.str _=>true
 |.list,.lst _ _=>true
 |.tuple,.tup _=>true
 |_,_=>false
noncomputable def vT(n:Nat)(i:Int):Option Nat:=if 0<=i then(if i<n then some i.toNat else none)else if -(n:Int)<=i then some (i+n).toNat else none
def uH(ds:aa)(i:Int):O D:=match(vT ds.length i).bind λj=>ds[j]? with
 |some d=>ok (aE bg d)
 |none=>none
def nV:D->D->O D
 |.tup ds,.int i=>uH ds i
 |.lst _ ds,.int i=>uH ds i
 |_,_=>none
noncomputable def intsOf:aa->Option (ae)
 |[]=>some []
 |.int i::ds=>(intsOf ds).map (i :: ·)
 |_::_=>none
noncomputable def jI:aa->Option (List Bool)
 |[]=>some []
 |.bl i::ds=>(jI ds).map (i :: ·)
 |_::_=>none
theorem dJ:∀{ds:aa} {ns:ae},intsOf ds=some ns->ds=ns.map D.int
 |[],ns,h=>by simp[intsOf]at h;subst h;rfl
 |d::ds,ns,h=>by
  cases d<;>simp[intsOf]at h;obtain⟨b,a,rfl⟩:=h;rw[dJ a];rfl
theorem wY:∀{ds:aa} {bs:List Bool},jI ds=some bs->ds=bs.map D.bl
 |[],bs,h=>by simp[jI]at h;subst h;rfl
 |d::ds,bs,h=>by
  cases d<;>simp[jI]at h;obtain⟨b,a,rfl⟩:=h;rw[wY a];rfl
theorem bC:∀a:ae,intsOf (a.map D.int)=some a
 |[]=>rfl
 |n::a=>by simp[intsOf,bC a]
theorem mH:∀bs:List Bool,jI (bs.map D.bl)=some bs
 |[]=>rfl
 |b::bs=>by simp[jI,mH bs]
noncomputable def sortI(ns:ae):ae:=ns.mergeSort (λa b=>decide (a<=b))
def vm(ds:aa):O D:=match intsOf ds with
 |some a=>if a.length<64 then ok (.lst .ow ((sortI a).map D.int))else none
 |none=>none
def uT:Bf->au
 |.len,xs=>match xs with
  |[.tup ds]=>ok (.int ds.length)
  |[.lst _ ds]=>ok (.int ds.length)
  |_=>none
 |.abs,xs=>match xs with
  |[.int i]=>ok (.int (if i<0 then -i else i))
  |_=>none
 |.tT,xs=>match xs with
  |[.bl b]=>ok (.int (if b then 1 else 0))
  |_=>none
 |.list1,xs=>match xs with
  |[.lst _ ds]=>ok (.lst .ow (aw bg ds))
  |[.tup ds]=>ok (.lst .ow (aw bg ds))
  |_=>none
 |.tuple1,xs=>match xs with
  |[.lst _ ds]=>ok (.tup (aw bg ds))
  |_=>none
 |.ku,xs=>match xs with
  |[.lst _ ds]=>(match intsOf ds with
   |some a=>ok (.int a.sum)
   |none=>none)
  |_=>none
 |.all1,xs=>match xs with
  |[.lst _ ds]=>(match jI ds with
   |some bs=>ok (.bl (bs.all id))
   |none=>none)
  |_=>none
 |.iI,xs=>match xs with
  |[.tup ds]=>vm ds
  |_=>none
noncomputable def eY(ns:ae):ae:=ns.foldl (λ(m:ae) (k:Int)=>if m.any (· == k)then m else m++[k]) []
def zQ:D->O D
 |.tup b=>(match intsOf b with
  |some a=>if a.length<4000 then ok (.int (eY a).length)else none
  |none=>none)
 |_=>none
noncomputable def jc:D->O Bool
 |.bl b=>ok b
 |_=>none
noncomputable def intD:D->O Int
 |.int i=>ok i
 |_=>none
noncomputable def yg:Option (aJ)->Option (aa)
 |some (some (.lst .ow ds))=>some ds
 |_=>none
def zI{o:Option (aJ)}{ds:aa}(h:yg o=some ds):o=some (some (.lst .ow ds)):=by
 unfold yg at h;split at h<;>cases h;rfl
def IM{d:D}{i:Int}(h:intD d=ok i):d=.int i:=by
 cases d<;>simp[intD]at h;rw[h]
noncomputable def Iq:D->O D
 |.int i=>ok (.int (-i))
 |_=>none
noncomputable def ic:aP->aa->aX->O aX
 |[],[],ρ=>ok ρ
 |i::is,d::ds,ρ=>if i<ρ.length then ic is ds (ρ.set i (some d))else none
 |_,_,_=>none
def bU:Tg->D->aX->O aX
 |.nm i,d,ρ=>if i<ρ.length then ok (ρ.set i (some d))else none
 |.tp is,.tup ds,ρ=>if aU cO ds then none else ic is ds ρ
 |_,_,_=>none
def mf:D->O (aa)
 |.lst _ a=>ok (aw aI a)
 |_=>none
def eK(Φ:aT):IK->aa->O (aa)
 |.cL p,xs=>bd (Φ p xs) mf
 |.jr,[.int n]=>if n<=du /\ -du<=n then ok ((List.range n.toNat).map λ(k:Nat)=>D.int (k:Int))else none
 |.seq,[.tup ds]=>ok (aw aI ds)
 |.seq,[.lst _ ds]=>ok (aw aI ds)
 |_,_=>none
noncomputable def i_(bind:D->O aX)(test:aX->O Bool)(el:aX->O D):aa->O (aa)
 |[]=>ok []
 |x::xs=>bd (bind x) λa=>bd (test a) λb=>if b then bd (el a) λy=>bd (i_ bind test el xs) λc=>ok (y::c)else i_ bind test el xs
def bx(n:Nat)(caps:aP)(ρ:aX):aX:=List.replicate n none++caps.map λi=>(ρ[i]?.getD none).map (aE aI)
def zl(o:Option (aJ)):O D:=match o with
 |some (some d)=>ok (aE bg d)
 |_=>none
def C9{o:Option (aJ)}{d:D}(h:zl o=ok d):∃a,o=some (some a)/\d=aE bg a:=by
 cases o with
 |none=>cases h
 |some z=>cases z with
  |none=>cases h
  |some z=>cases h;exact⟨z,rfl,rfl⟩
mutual
noncomputable def bo(Φ:aT):CE->aX->O D
 |.bP,_=>ok .bP
 |.bl b,_=>ok (.bl b)
 |.int i,_=>ok (.int i)
 |.str s,_=>ok (.str s)
 |.glo _ i,_=>ok (.int i)
 |.v i,ρ=>zl ρ[i]?
 |.bin op a b,ρ=>bd (bo Φ a ρ) λx=>bd (bo Φ b ρ) λy=>dD op x y
 |.neg a,ρ=>bd (bo Φ a ρ) Iq
 |.not a,ρ=>bd (bd (bo Φ a ρ) jc) λb=>ok (.bl (!b))
 |.and es,ρ=>rV Φ es ρ
 |.or es,ρ=>BV Φ es ρ
 |.cmp op a b,ρ=>bd (bo Φ a ρ) λx=>bd (bo Φ b ρ) λy=>cY op x y
 |.vV a t,ρ=>bd (bo Φ a ρ) λx=>ok (.bl (eE t x))
 |.call f es,ρ=>bd (bJ Φ es ρ) λg=>bd (Φ f (aw aI g)) λr=>ok (aE eX r)
 |.bf f es,ρ=>bd (bJ Φ es ρ) λg=>uT f g
 |.ix a b,ρ=>bd (bo Φ a ρ) λx=>bd (bo Φ b ρ) λy=>nV x y
 |.mx a,ρ=>bd (bo Φ a ρ) λx=>zQ x
 |.cL p es,ρ=>bd (bJ Φ es ρ) λg=>Φ p g
 |.tup es,ρ=>bd (bJ Φ es ρ) λg=>ok (.tup g)
 |.lst es,ρ=>bd (bJ Φ es ρ) λg=>ok (.lst .ow g)
 |.comp n t caps ik es bQ elt,ρ=>bd (bJ Φ es ρ) λg=>bd (eK Φ ik g) λitems =>
   bd (i_ (λd=>bU t d (bx n caps ρ)) (λh=>i8 Φ bQ h) (λh=>bo Φ elt h) items) λj=>if j.length<=du then ok (.lst .ow (aw eX j))else none
noncomputable def bJ(Φ:aT):aA->aX->O (aa)
 |[],_=>ok []
 |e::es,ρ=>bd (bo Φ e ρ) λx=>bd (bJ Φ es ρ) λg=>ok (x::g)
noncomputable def i8(Φ:aT):aA->aX->O Bool
 |[],_=>ok true
 |e::es,ρ=>bd (bd (bo Φ e ρ) jc) λb=>if b then i8 Φ es ρ else ok false
noncomputable def rV(Φ:aT):aA->aX->O D
 |[],_=>none
 |e::es,ρ=>bd (bd (bo Φ e ρ) jc) λc=>match es with
  |[]=>ok (.bl c)
  |_::_=>if c then rV Φ es ρ else ok (.bl false)
noncomputable def BV(Φ:aT):aA->aX->O D
 |[],_=>none
 |e::es,ρ=>bd (bd (bo Φ e ρ) jc) λc=>match es with
  |[]=>ok (.bl c)
  |_::_=>if c then ok (.bl true)else BV Φ es ρ
end
def nM(Φ:aT)(e:CE)(ρ:aX):O Bool:=bd (bo Φ e ρ) jc
inductive Fo where|nx|rt(d:D)
noncomputable def dz{c d:Type}(n:Nat)(step:c->O (c ⊕ d))(a:c):O d:=match n with
 |0=>none
 |n+1=>bd (step a) λr=>match r with
  |.inl e=>dz n step e
  |.inr b=>ok b
open Classical in
noncomputable def gm{b c:Type}(step:b->O (b ⊕ c))(a:b):O c :=
 if h:∃n,dz n step a≠none then dz (Classical.choose h) step a else none
theorem jz{d f:Type}(step:d->O (d ⊕ f)):∀(n m:Nat) (a:d),n<=m->dz n step a≠none->dz m step a=dz n step a
 |0,_,_,_,h=>absurd rfl h
 |n+1,0,_,hl,_=>by left
 |n+1,m+1,a,hl,h=>by
  unfold dz at h ⊢
  match e:step a with
  |none=>rw[e]at h;exact absurd rfl h
  |some (.error c)=>rfl
  |some (.ok (.inr b))=>rfl
  |some (.ok (.inl a')) =>
   rw[e]at h;exact jz step n m a' (by left) h
def l8{b d:Type}{step:b->O (b ⊕ d)}{a:b}{n:Nat}{r:Except Nat d}(h:dz n step a=some r):gm step a=some r:=by
 have c:∃n,dz n step a≠none:=⟨n,by rw[h];simp⟩
 unfold gm;rw[dif_pos c];have e:=Classical.choose_spec c;rcases Nat.le_total n (Classical.choose c)with hl|hl
 ·rw[jz step _ _ a hl (by rw[h];simp),h]
 ·rw[<- jz step _ _ a hl e,h]
def mq{b c:Type}{step:b->O (b ⊕ c)}{a:b}{r:Except Nat c}(h:gm step a=some r):∃n,dz n step a=some r:=by
 unfold gm at h;split at h
 ·exact⟨_,h⟩
 ·cases h
def oJ{c f:Type}{step:c->O (c ⊕ f)}{a e:c}(h:step a=ok (.inl e)):gm step a=gm step e:=by
 match d:gm step e with
 |some r =>
  obtain⟨n,b⟩:=mq d;refine l8 (n:=n+1) ?_;unfold dz;rw[h];exact b
 |none =>
  match g:gm step a with
  |none=>rfl
  |some r =>
   obtain⟨n,b⟩:=mq g
   match n,b with
   |n+1,b =>
    unfold dz at b;rw[h]at b;rw[l8 (n:=n) b]at d;cases d
def iF{c d:Type}{step:c->O (c ⊕ d)}{a:c}{b:d}(h:step a=ok (.inr b)):gm step a=ok b :=
 l8 (n:=1) (by unfold dz;rw[h];rfl)
mutual
noncomputable def iE:CE->aP
 |.v i=>[i]
 |.bin _ a b=>iE a++iE b
 |.neg a=>iE a
 |.not a=>iE a
 |.and c=>dN c
 |.or c=>dN c
 |.cmp _ a b=>iE a++iE b
 |.vV a _=>iE a
 |.call _ c=>dN c
 |.bf _ c=>dN c
 |.ix a b=>iE a++iE b
 |.mx a=>iE a
 |.tup c=>dN c
 |.lst c=>dN c
 |.cL _ c=>dN c
 |.comp _ _ d _ c _ _=>d++dN c
 |_=>[]
noncomputable def dN:aA->aP
 |[]=>[]
 |e::c=>iE e++dN c
end
def iM(is:aP)(ρ:aX):aX:=ρ.mapIdx λi d=>if i∈is then d.map (aE aI)else d
def keep(e:CE)(d:D)(ρ:aX):D×aX:=if bh bK d then(aE aI d,iM (iE e) ρ)else(d,ρ)
def jD(Φ:aT)(e:CE)(ρ:aX):O (D×aX):=match e with
 |.v i=>match ρ[i]? with
  |some (some d)=>if bh cO d then ok (d,ρ.set i none)else ok (d,ρ)
  |_=>none
 |_=>bd (bo Φ e ρ) λd=>ok (keep e d ρ)
def bX(Φ:aT)(it:CI)(ρ:aX):O (aa×aX):=match it with
 |.xu p e=>bd (bJ Φ e ρ) λc=>bd (Φ p c) λd=>bd (mf d) λitems=>ok (items,if aU bK c then iM (dN e) ρ else ρ)
 |.jr a=>bd (bo Φ a ρ) λx=>match x with
  |.int n=>if n<=du /\ -du<=n then ok ((List.range n.toNat).map λ(k:Nat)=>D.int (k:Int),ρ)else none
  |_=>none
 |.seq a=>bd (bo Φ a ρ) λx=>match x with
  |.tup b=>ok (aw aI b,if bh bK x then iM (iE a) ρ else ρ)
  |.lst f b=>ok (aw aI b,if bh bK x then iM (iE a) ρ else ρ)
  |_=>none
def pq(es:aA)(xs:aa)(ρ:aX):aa×aX:=if aU bK xs then(aw aI xs,iM (dN es) ρ)else(xs,ρ)
noncomputable def yi(Φ:aT)(p i:Nat)(r:aa×aX):O (Fo×aX):=match r.2[i]? with
 |some (some d)=>bd (Φ p (d::r.1)) λa=>ok (.nx,r.2.set i (some a))
 |_=>none
noncomputable def dC(bind:D->aX->O aX)(body:aX->O (Fo×aX)):aa->aX->O (Fo×aX)
 |[],ρ=>ok (.nx,ρ)
 |d::ds,ρ=>bd (bind d ρ) λa=>bd (body a) λr=>match r with
  | (.nx,ρ2)=>dC bind body ds ρ2
  | (.rt d,ρ2)=>ok (.rt d,ρ2)
mutual
noncomputable def ib(Φ:aT):CS->aX->O (Fo×aX)
 |.asg t e,f=>bd (jD Φ e f) λr=>bd (bU t r.1 r.2) λg=>ok (.nx,g)
 |.par i j a b,f=>bd (bo Φ a f) λx=>bd (bo Φ b f) λy=>if bh anyF x=false/\bh anyF y=false/\i<f.length/\j<f.length then ok (.nx,(f.set i (some x)).set j (some y))else none
 |.ret e,f=>bd (jD Φ e f) λr=>ok (.rt r.1,r.2)
 |.rs c,_=>some (.error c)
 |.ex e,f=>bd (bo Φ e f) λ_=>ok (.nx,f)
 |.mut p i es,f=>bd (bJ Φ es f) λl=>yi Φ p i (pq es l f)
 |.app i e,f=>bd (jD Φ e f) λr=>match yg r.2[i]? with
  |some h=>if h.length<du then ok (.nx,r.2.set i (some (.lst .ow (h++[r.1]))))else none
  |none=>none
 |.setI i k e,f=>bd (jD Φ e f) λr=>bd (bd (bo Φ k r.2) intD) λz=>match yg r.2[i]? with
  |some h=>match vT h.length z with
   |some j=>ok (.nx,r.2.set i (some (.lst .ow (h.set j r.1))))
   |none=>none
  |none=>none
 |.ifs c a b,f=>bd (nM Φ c f) λk=>if k then bE Φ a f else bE Φ b f
 |.Ke c b,f=>gm (λf=>bd (nM Φ c f) λk=>if k then bd (bE Φ b f) λr=>match r with
   | (.nx,g)=>ok (.inl g)
   | (.rt d,g)=>ok (.inr (.rt d,g))
  else ok (.inr (.nx,f))) f
 |.fr t it b,f=>bd (bX Φ it f) λr=>dC (λd f=>bU t d f) (λf=>bE Φ b f) r.1 r.2
noncomputable def bE(Φ:aT):af->aX->O (Fo×aX)
 |[],f=>ok (.nx,f)
 |s::ss,f=>bd (ib Φ s f) λr=>match r with
  | (.nx,g)=>bE Φ ss g
  |r=>ok r
end
noncomputable def sQ(Φ:aT)(n:Nat)(b:af)(ds:aa):O D:=bd (bE Φ b (ds.map some++List.replicate (n - ds.length) none)) λr=>match r.1 with
 |.nx=>ok .bP
 |.rt d=>ok d
noncomputable def CA:au
 |[.lst _ a,.lst _ b]=>ok (.lst .ow (List.zipWith (λx y=>.tup [x,y]) a b))
 |_=>none
end DI
end
section
namespace DI
open PySem PySem.Spec PyProof.Rows L2
abbrev bu:=aP
abbrev St:=L2.St
abbrev m9:=Addr->ah->Prop
inductive Nd where|l(xs:ah)|d(cs:aL)(as:bj)(xs:ah)(ep:Nat)
abbrev jk:=bu->Addr->Nd->Fl->Prop
structure fO(T:m9)(as:bj)(cs:aL):Prop where
 len:as.length=cs.length
 tup:∀(j:Nat) (a:Addr) (c:ae),as[j]?=some a->cs[j]?=some c->T a (c.map V.int)
variable {T T':m9}{as ch fp:bj}
def fO.imp{cs:aL}(h:fO T as cs)(d:∀p b,T p b->T' p b):fO T' as cs:=⟨h.len,λj a c f e=>d _ _ (h.tup j a c f e)⟩
mutual
inductive Rep(T:m9)(N:jk):bu->V->D->Prop where
 |bP {q:bu}:Rep T N q .bP .bP
 |bl {q:bu} (b:Bool):Rep T N q (.bl b) (.bl b)
 |int {q:bu} (i:Int):Rep T N q (.int i) (.int i)
 |str {q:bu} (s:Str):Rep T N q (.str s) (.str s)
 |tup {q:bu} {p:Addr} {xs:ah} {ds:aa} (h:T p xs) (r:aF T N q 0 xs ds):Rep T N q (.ref p) (.tup ds)
 |lst {q:bu} {p:Addr} {xs:ah} {f:Fl} {ds:aa} (h:N q p (.l xs) f) (r:aF T N q 0 xs ds):Rep T N q (.ref p) (.lst f ds)
 |cX {q:bu} {p:Addr} {cs:aL} {as:bj} {xs:ah} {ep:Nat} {f:Fl} {ds:aa} (h:N q p (.d cs as xs ep) f) (k:fO T as cs) (r:aF T N q 0 xs ds):Rep T N q (.ref p) (.cX f cs ds)
inductive aF(T:m9)(N:jk):bu->Nat->ah->aa->Prop where
 |nil {q:bu} {n:Nat}:aF T N q n [] []
 |cons {q:bu} {n:Nat} {v:V} {d:D} {vs:ah} {ds:aa} (h:Rep T N (n::q) v d) (t:aF T N q (n+1) vs ds):aF T N q n (v::vs) (d::ds)
end
variable {N N':jk}{ds ds' items:aa}
def Rep.LG{q:bu}{v:V}(h:Rep T N q v (.tup ds)):∃p c,v=.ref p/\T p c/\aF T N q 0 c ds:=by
 cases h with
 |tup a b=>exact⟨_,_,rfl,a,b⟩
variable {f:Fl}
def Rep.qA{q:bu}{v:V}(h:Rep T N q v (.lst f ds)):∃p c,v=.ref p/\N q p (.l c) f/\aF T N q 0 c ds:=by
 cases h with
 |lst a b=>exact⟨_,_,rfl,a,b⟩
mutual
theorem tX:∀d:D,bh (λ_=>false) d=false
 |.bP=>rfl
 |.bl _=>rfl
 |.int _=>rfl
 |.str _=>rfl
 |.tup ds=>iq ds
 |.lst _ ds=>iq ds
 |.cX _ _ ds=>iq ds
theorem iq:∀ds:aa,aU (λ_=>false) ds=false
 |[]=>rfl
 |d::ds=>by show(bh _ d||aU _ ds)=false;rw[tX d,iq ds];rfl
end
def D3{a b:Bool}(h:(a||b)=false):a=false/\b=false:=by cases a<;>cases b<;>first|exact⟨rfl,rfl⟩|cases h
variable {k' q':bu}{vs xs xs':ah}
section
variable {T T':m9}{N N':jk}{g:Fl->Fl}{P:Fl->Bool}{C:bu->bu->Prop}{I:Nat->Nat->Prop}
mutual
theorem Rep.gen(j:∀p xs,T p xs->T' p xs)(a:I 0 0)(m:∀n n',I n n'->I (n+1) (n'+1))(o:∀k k' n n',C k k'->I n n'->C (n::k) (n'::k'))(l:∀k k' p xs f,C k k'->P f=false->N k p xs f->N' k' p xs (g f)):
  ∀{k:bu} {v:V} {d:D},Rep T N k v d->∀{k':bu},C k k'->bh P d=false->Rep T' N' k' v (aE g d)
 |_,_,_,.bP,_,_,_=>.bP
 |_,_,_,.bl b,_,_,_=>.bl b
 |_,_,_,.int i,_,_,_=>.int i
 |_,_,_,.str s,_,_,_=>.str s
 |_,_,_,.tup h r,_,c,e=>.tup (j _ _ h) (aF.gen j a m o l r c a e)
 |_,_,_,.lst h r,_,c,e=>.lst (l _ _ _ _ _ c (D3 e).1 h) (aF.gen j a m o l r c a (D3 e).2)
 |_,_,_,.cX h k r,_,c,e=>.cX (l _ _ _ _ _ c (D3 e).1 h) (k.imp j) (aF.gen j a m o l r c a (D3 e).2)
theorem aF.gen(j:∀p xs,T p xs->T' p xs)(a:I 0 0)(m:∀n n',I n n'->I (n+1) (n'+1))(o:∀k k' n n',C k k'->I n n'->C (n::k) (n'::k'))(l:∀k k' p xs f,C k k'->P f=false->N k p xs f->N' k' p xs (g f)):
  ∀{k:bu} {n:Nat} {vs:ah} {ds:aa},aF T N k n vs ds->∀{k':bu} {n':Nat},C k k'->I n n'->aU P ds=false->aF T' N' k' n' vs (aw g ds)
 |_,_,_,_,.nil,_,_,_,_,_=>.nil
 |_,_,_,_,.cons h t,_,_,c,i,e=>.cons (Rep.gen j a m o l h (o _ _ _ _ c i) (D3 e).1) (aF.gen j a m o l t c (m _ _ i) (D3 e).2)
end
def Rep.map{q:bu}(j:∀p xs,T p xs->T' p xs)(l:∀c p xs f,N (c++q) p xs f->N' (c++q') p xs (g f)){k:bu}{v:V}{d:D}(h:Rep T N k v d)(c:bu)(e:k=c++q):Rep T' N' (c++q') v (aE g d) :=
 Rep.gen (P:=λ_=>false) (C:=λk k'=>∃c,k=c++q/\k'=c++q') (I:=λn i=>n=i) j rfl (λ_ _ e=>by rw[e]) (λ_ _ n _ ⟨c,b,a⟩ e=>⟨n::c,by rw[b];rfl,by rw[a,<- e];rfl⟩) (λ_ _ p xs f ⟨c,b,a⟩ _ h=>by subst b;subst a;exact l c p xs f h) h ⟨c,e,rfl⟩ (tX d)
def aF.map{q:bu}(i:∀p xs,T p xs->T' p xs)(j:∀c p xs f,N (c++q) p xs f->N' (c++q') p xs (g f)){k:bu}{n:Nat}(h:aF T N k n vs ds)(c:bu)(e:k=c++q):aF T' N' (c++q') n vs (aw g ds) :=
 aF.gen (P:=λ_=>false) (C:=λk k'=>∃c,k=c++q/\k'=c++q') (I:=λn d=>n=d) i rfl (λ_ _ e=>by rw[e]) (λ_ _ n _ ⟨c,b,a⟩ e=>⟨n::c,by rw[b];rfl,by rw[a,<- e];rfl⟩) (λ_ _ p xs f ⟨c,b,a⟩ _ h=>by subst b;subst a;exact j c p xs f h) h ⟨c,e,rfl⟩ rfl (iq ds)
def Rep.jd(a:∀p xs,T p xs->T' p xs)(b:∀k k' p xs f,N k p xs f->N' k' p xs (g f)){k:bu}{v:V}{d:D}(h:Rep T N k v d)(k':bu):Rep T' N' k' v (aE g d) :=
 Rep.gen (P:=λ_=>false) (C:=λ_ _=>True) (I:=λ_ _=>True) a trivial (λ_ _ e=>e) (λ_ _ _ _ e _=>e) (λk k' p xs f _ _ h=>b k k' p xs f h) h trivial (tX d)
def aF.jd(a:∀p xs,T p xs->T' p xs)(b:∀k k' p xs f,N k p xs f->N' k' p xs (g f)){k:bu}{n:Nat}(h:aF T N k n vs ds)(k':bu)(n':Nat):aF T' N' k' n' vs (aw g ds) :=
 aF.gen (P:=λ_=>false) (C:=λ_ _=>True) (I:=λ_ _=>True) a trivial (λ_ _ e=>e) (λ_ _ _ _ e _=>e) (λk k' p xs f _ _ h=>b k k' p xs f h) h trivial trivial (iq ds)
end
mutual
theorem fB:∀d:D,aE id d=d
 |.bP=>rfl
 |.bl _=>rfl
 |.int _=>rfl
 |.str _=>rfl
 |.tup ds=>by rw[aE,fL ds]
 |.lst f ds=>by rw[aE,fL ds];rfl
 |.cX f a vs=>by rw[aE,fL vs];rfl
theorem fL:∀ds:aa,aw id ds=ds
 |[]=>rfl
 |d::ds=>by rw[aw,fB d,fL ds]
end
section
variable {T T':m9}{N N':jk}
def Rep.imp{q:bu}(a:∀p xs,T p xs->T' p xs)(b:∀c p xs f,N (c++q) p xs f->N' (c++q') p xs f){v:V}{d:D}(h:Rep T N q v d):Rep T' N' q' v d:=by
 have:=Rep.map (g:=id) a b h [] rfl;rw[fB]at this;exact this
def aF.imp{q:bu}{n:Nat}(a:∀p xs,T p xs->T' p xs)(b:∀c p xs f,N (c++q) p xs f->N' (c++q') p xs f)(h:aF T N q n vs ds):aF T' N' q' n vs ds:=by
 have:=aF.map (g:=id) a b h [] rfl;rw[fL]at this;exact this
theorem aF.length:∀{k:bu} {n:Nat} {vs:ah} {ds:aa},aF T N k n vs ds->vs.length=ds.length
 |_,_,_,_,.nil=>rfl
 |_,_,_,_,.cons _ t=>by simp[aF.length t]
theorem aF.get:∀{k:bu} {n j:Nat} {vs:ah} {ds:aa} {d:D},aF T N k n vs ds->ds[j]?=some d->∃v,vs[j]?=some v/\Rep T N ((n+j)::k) v d
 |_,_,_,_,_,_,.nil,e=>by simp at e
 |_,_,0,_,_,_,.cons h t,e=>by simp at e;subst e;exact⟨_,rfl,h⟩
 |_,n,j+1,_,_,_,.cons h t,e=>by
  obtain⟨v,b,a⟩:=aF.get (j:=j) t (by simpa using e);refine⟨v,by simpa using b,?_⟩;have:n+1+j=n+(j+1):=by left
  rw[<- this];exact a
theorem aF.qN:∀{k:bu} {n j:Nat} {vs:ah} {ds:aa} {v:V},aF T N k n vs ds->vs[j]?=some v->∃d,ds[j]?=some d/\Rep T N ((n+j)::k) v d
 |_,_,_,_,_,_,.nil,e=>by simp at e
 |_,_,0,_,_,_,.cons h t,e=>by simp at e;subst e;exact⟨_,rfl,h⟩
 |_,n,j+1,_,_,_,.cons h t,e=>by
  obtain⟨v,b,a⟩:=aF.qN (j:=j) t (by simpa using e);refine⟨v,by simpa using b,?_⟩;have:n+1+j=n+(j+1):=by left
  rw[<- this];exact a
theorem aF.ox{k:bu}(a:∀k k' p xs f,N k p xs f->N k' p xs f):∀{n m l:Nat} {vs ws:ah} {ds es:aa},aF T N k n vs ds->aF T N k m ws es->aF T N k l (vs++ws) (ds++es)
 |_,_,_,_,_,_,_,.nil,t=>by
  have:=aF.jd (T':=T) (N':=N) (g:=id) (λ_ _ h=>h) a t;rw[fL]at this;exact this _ _
 |_,_,_,_,_,_,_,.cons h t,u=>.cons (by
  have:=Rep.jd (T':=T) (N':=N) (g:=id) (λ_ _ h=>h) a h;rw[fB]at this;exact this _) (aF.ox a t u)
end
def KL(K:ak)(a:Addr)(xs:ah):Prop :=
 ∃(o:Obj) (b:aW) (n:Nat),K.lookup a=some o/\o.cls=.type "list" /\ o.dict=none/\o.data=.seq b n/\b.size<=sizeLine/\Vals xs b.toList
def DO(p:Addr)(cs:aL)(as:bj)(xs:ah)(ep:Nat)(h:Heap):Prop :=
 ∃(zs:List (ae×Addr×Value)) (o:Obj) (es:Array DictEntry),zs.map (·.1)=cs/\zs.map (·.2.1)=as/\Vals xs (zs.map (·.2.2))/\h.get? p=some o/\o.ExactDict/\o.data=.dict es ep /\
  es.toList=zs.map (λz=>⟨reduceHash (Builtin.Tuple.tupleHashOf (z.1.map hashInt)),.ref z.2.1,z.2.2⟩)/\cs.Nodup/\cs.length<=sizeLine/\(p==sysModules)=false
abbrev fS(H:Hp)(p:Addr)(n:Nd):Prop:=match n with
 |.l xs=>H p=some (.lst xs)
 |.d b as xs a=>H p=some (.ext (DO p b as xs a))
variable {H H' H1 H2:Hp}
def fS.ne{p:Addr}{n:Nd}(h:fS H p n):H p≠none:=by
 cases n with
 |l xs=>intro z;rw[show H p=some (.lst xs) from h]at z;cases z
 |d b as xs a=>intro z;rw[show H p=some (.ext (DO p b as xs a)) from h]at z;cases z
def fS.at{p:Addr}{n:Nd}(e:∀o,H p=some o->H' p=some o)(h:fS H p n):fS H' p n:=by
 cases n with
 |l xs=>exact e _ h
 |d b as xs a=>exact e _ h
def fS.same{p:Addr}{n:Nd}(e:aM H H')(h:fS H p n):fS H' p n:=h.at (e p)
theorem fS.some{H:Hp}{p:Addr}{n:Nd}(h:fS H p n):∃o,H p=some o/\(∀xs,o≠.tup xs)/\(∀a u,o≠.iM a u):=by
 cases n with
 |l xs=>exact⟨_,h,λ_ z=>(nomatch z),λ_ _ z=>(nomatch z)⟩
 |d c as xs b=>exact⟨_,h,λ_ z=>(nomatch z),λ_ _ z=>(nomatch z)⟩
def nd(K:ak)(R A:aj)(a:Addr->Option bu)(H:Hp):jk:=λq p n f=>match f with
 |.ow=>fS H p n/\a p=some q
 |.fz=>fS H p n/\R p
 |.al=>fS H p n/\A p
 |.sc=>match n with
  |.l xs=>(∃o,H p=some (.iM o (.lst xs)))\/KL K p xs
  |.d _ _ _ _=>False
variable {A F G R R' R1:Addr->Prop}{K:ak}{τ τ' τt:Addr->Option bu}
def nd.Kr{q:bu}{p:Addr}{n:Nd}(h:nd K R A τ H q p n .sc):∃xs,n=.l xs/\((∃o,H p=some (.iM o (.lst xs)))\/KL K p xs):=by
 cases n with
 |l xs=>exact⟨xs,rfl,h⟩
 |d _ _ _ _=>exact h.elim
def nd.sq{q:bu}{p:Addr}(h:nd K R A τ H q p (.l xs) f):dq K H p xs:=by
 cases f with
 |ow=>exact dq.of h.1
 |fz=>exact dq.of h.1
 |al=>exact dq.of h.1
 |sc=>exact h.elim (λh=>.inl (.inr h)) .inr
theorem nd.lst{K:ak}{R A:aj}{τ:Addr->Option bu}{H:Hp}{q:bu}{p:Addr}{xs:ah}{f:Fl}(h:nd K R A τ H q p (.l xs) f)(hf:qM f=false):H p=some (.lst xs):=by
 cases f with
 |ow=>exact h.1
 |fz=>exact h.1
 |al=>exact h.1
 |sc=>cases hf
variable {ep k1 k2 n1 t':Nat}
def nd.dat{q:bu}{p:Addr}{cs:aL}(h:nd K R A τ H q p (.d cs as xs ep) f):H p=some (.ext (DO p cs as xs ep)):=by
 cases f with
 |ow=>exact h.1
 |fz=>exact h.1
 |al=>exact h.1
 |sc=>exact h.elim
def Rd.same{a:Addr}{u:HO}(e:aM H H')(h:Rd H a u):Rd H' a u:=h.elim (λh=>.inl (e _ _ h)) λ⟨o,h⟩=>.inr ⟨o,e _ _ h⟩
theorem bc.same{K:ak}{H H':Hp}{a:Addr}{xs:ah}(e:aM H H')(h:bc K H a xs):bc K H' a xs:=h.elim (λh=>.inl (Rd.same e h)) .inr
theorem nd.same{K:ak}{R A:aj}{τ:Addr->Option bu}{H H':Hp}{q:bu}{p:Addr}{n:Nd}{f:Fl}(e:aM H H')(h:nd K R A τ H q p n f):nd K R A τ H' q p n f:=by
 cases f with
 |ow=>exact⟨h.1.same e,h.2⟩
 |fz=>exact⟨h.1.same e,h.2⟩
 |al=>exact⟨h.1.same e,h.2⟩
 |sc=>cases n with
  |l xs=>exact h.elim (λ⟨o,h⟩=>.inl ⟨o,e _ _ h⟩) .inr
  |d _ _ _ _=>exact h.elim
def aM.ne(e:aM H H'){a:Addr}(h:H a≠none):H' a≠none:=by
 cases q:H a with
 |none=>exact absurd q h
 |some o=>rw[e a o q];simp
structure SI(X:Cx)(F R:aj)(τ:Addr->Option bu)(ρ:aX)(σ:St)(H:Hp):Prop where
 len:ρ.length=σ.length
 rep:∀(i:Nat) (d:D),ρ[i]?=some (some d)->∃v,σ[i]?=some (some v)/\Rep (bc X.K H) (nd X.K R (λ_=>False) τ H) [i] v d
 rt:∀p,R p->τ p=none
 rh:∀p,R p->H p≠none
 rf:∀p,R p->F p\/X.H₀ p=none
 th:∀p q,τ p=some q->H p≠none
 t0:∀p q,τ p=some q->X.H₀ p=none
 same:aM X.H₀ H
variable {X:Cx}{ρ:aX}{σ:L2.St}
def SI.go(S:SI X F R τ ρ σ H)(e:aM H H'):SI X F R τ ρ σ H' :=
 ⟨S.len,λi d h=>let ⟨v,h1,h2⟩:=S.rep i d h;⟨v,h1,h2.imp (λ_ _ h=>bc.same e h) λ_ _ _ _ h=>nd.same e h⟩,S.rt,λp h=>aM.ne e (S.rh p h),S.rf,λp q h=>aM.ne e (S.th p q h),S.t0,S.same.trans e⟩
def kN(G:aj)(τ:Addr->Option bu)(fv:aP)(p:Addr):Prop:=G p/\∀c i,τ p=some (c++[i])->i∈fv
variable {caps fv fv':aP}
def kN.mono{p:Addr}(h:kN G τ fv p)(hs:∀i∈fv,i∈fv'):kN G τ fv' p:=⟨h.1,λc i e=>hs i (h.2 c i e)⟩
def gP(X:Cx)(F:aj)(p:Addr):Prop:=F p\/X.H₀ p=none
inductive b_(K:ak)(G R:aj)(τ:Addr->Option bu)(fv:aP)(H H':Hp)(v:V)(d:D):Prop where
 |mk (τt:Addr->Option bu) (h1:∀p q,τt p=some q->H p=none) (h2:Rep (bc K H') (nd K R (kN G τ fv) τt H') [] v d)
inductive cI(K:ak)(G R:aj)(τ:Addr->Option bu)(fv:aP)(H H':Hp)(vs:ah)(ds:aa):Prop where
 |mk (τt:Addr->Option bu) (h1:∀p q,τt p=some q->H p=none) (h2:aF (bc K H') (nd K R (kN G τ fv) τt H') [] 0 vs ds)
section
variable {K:ak}{G R:aj}{τ:Addr->Option bu}{fv fv':aP}{H H1 H2:Hp}{v:V}{d:D}{vs:ah}{ds:aa}
def b_.go(h:b_ K G R τ fv H H1 v d)(e:aM H1 H2):b_ K G R τ fv H H2 v d :=
 let ⟨τt,h1,h2⟩:=h;⟨τt,h1,h2.imp (λ_ _ h=>bc.same e h) λ_ _ _ _ h=>nd.same e h⟩
def nd.mono{a:Addr->Prop}{τ:Addr->Option bu}{q:bu}{p:Addr}{xs:Nd}(h:nd K R A τ H q p xs f)(hR:R p->R' p)(c:A p->a p)(b:τ p=some q->τ' p=some q'):nd K R' a τ' H q' p xs f:=by
 cases f with
 |ow=>exact⟨h.1,b h.2⟩
 |fz=>exact⟨h.1,hR h.2⟩
 |al=>exact⟨h.1,c h.2⟩
 |sc=>exact h
theorem b_.mono(h:b_ K G R τ fv H H1 v d)(hs:∀i∈fv,i∈fv'):b_ K G R τ fv' H H1 v d :=
 let ⟨τt,h1,h2⟩:=h;⟨τt,h1,h2.imp (λ_ _ h=>h) λ_ _ _ _ h=>h.mono id (λh=>h.mono hs) id⟩
theorem cI.mono(h:cI K G R τ fv H H1 vs ds)(hs:∀i∈fv,i∈fv'):cI K G R τ fv' H H1 vs ds :=
 let ⟨τt,h1,h2⟩:=h;⟨τt,h1,h2.imp (λ_ _ h=>h) λ_ _ _ _ h=>h.mono id (λh=>h.mono hs) id⟩
def b_.old{a:Hp}(h:b_ K G R τ fv H H1 v d)(e:aM a H):b_ K G R τ fv a H1 v d :=
 let ⟨τt,h1,h2⟩:=h;⟨τt,λp q z=>e.free (h1 p q z),h2⟩
theorem b_.int{i:Int}:b_ K G R τ fv H H1 (.int i) (.int i):=⟨λ_=>none,λ_ _ h=>by simp at h,.int i⟩
theorem b_.bl{b:Bool}:b_ K G R τ fv H H1 (.bl b) (.bl b):=⟨λ_=>none,λ_ _ h=>by simp at h,.bl b⟩
theorem b_.str{s:Str}:b_ K G R τ fv H H1 (.str s) (.str s):=⟨λ_=>none,λ_ _ h=>by simp at h,.str s⟩
theorem b_.bP:b_ K G R τ fv H H1 .bP .bP:=⟨λ_=>none,λ_ _ h=>by simp at h,.bP⟩
def b_.isInt{i:Int}(h:b_ K G R τ fv H H1 v (.int i)):v=.int i:=by obtain⟨_,_,h⟩:=h;cases h;rfl
def b_.Bz{i:Bool}(h:b_ K G R τ fv H H1 v (.bl i)):v=.bl i:=by obtain⟨_,_,h⟩:=h;cases h;rfl
noncomputable def sM:bu->bu
 |[]=>[]
 |[n]=>[n+1]
 |a::b::r=>a::sM (b::r)
def vo(c:bu)(n:Nat):sM (c++[n])=c++[n+1]:=by
 induction c with
 |nil=>rfl
 |cons a c e =>
  cases c with
  |nil=>rfl
  |cons b c=>show a::sM (b::c++[n])=_;rw[e];rfl
theorem aF.shift{T:m9}{N N':jk}(a:∀c n p xs f,N (c++[n]) p xs f->N' (c++[n+1]) p xs f):∀{n:Nat} {vs:ah} {ds:aa},aF T N [] n vs ds->aF T N' [] (n+1) vs ds
 |_,_,_,.nil=>.nil
 |n,_,_,.cons h t=>.cons (h.imp (q:=[n]) (q':=[n+1]) (λ_ _ h=>h) λc p xs f h=>a c n p xs f h) (aF.shift a t)
theorem cI.nil:cI K G R τ fv H H1 [] []:=⟨λ_=>none,λ_ _ h=>by simp at h,.nil⟩
open Classical in
theorem cI.cons(u:aM H H1)(l:aM H1 H2)(h:b_ K G R τ fv H H1 v d)(t:cI K G R τ fv H1 H2 vs ds):cI K G R τ fv H H2 (v::vs) (d::ds):=by
 obtain⟨a,s,o⟩:=h;obtain⟨g,r,m⟩:=t;refine⟨λp=>if H1 p=none then(g p).map sM else(a p).map (· ++ [0]),λp q i=>?_,.cons (o.imp (q':=[0]) (λ_ _ h=>bc.same l h) λc p xs f h=>?_) (aF.shift (λc n p xs f h=>?_) m)⟩
 ·by_cases b:H1 p=none
  ·exact u.free b
  ·simp only[b,if_false]at i;cases j:a p with
   |none=>rw[j]at i;simp at i
   |some k=>exact s p k j
 ·have e:nd K R (kN G τ fv) a H2 (c++[]) p xs f:=nd.same l h;cases f with
  |ow =>
   have b:H1 p≠none:=h.1.ne;refine⟨e.1,?_⟩;simp only[b,if_false];rw[h.2];simp
  |fz=>exact e
  |al=>exact e
  |sc=>exact e
 ·cases f with
  |ow =>
   have b:H1 p=none:=r p _ h.2;refine⟨h.1,?_⟩;simp only[b,if_true];rw[h.2];simp[vo]
  |fz=>exact h
  |al=>exact h
  |sc=>exact h
end
inductive tD(X:Cx)(F:aj)(Φ:aT)(c:CE)(σ:St)(H:Hp)(Q:VK):Prop where
 |mk (R:aj) (τ:Addr->Option bu) (ρ:aX) (d:D) (h1:SI X F R τ ρ σ H) (h2:bo Φ c ρ=ok d) (h3:∀v H',aM H H'->b_ X.K (gP X F) R τ (iE c) H H' v d->Q v H')
inductive sH(X:Cx)(F:aj)(Φ:aT)(cs:aA)(σ:St)(H:Hp)(Q:ah->Hp->Prop):Prop where
 |mk (R:aj) (τ:Addr->Option bu) (ρ:aX) (ds:aa) (h1:SI X F R τ ρ σ H) (h2:bJ Φ cs ρ=ok ds) (h3:∀vs H',aM H H'->cI X.K (gP X F) R τ (dN cs) H H' vs ds->Q vs H')
inductive jh(X:Cx)(F:aj)(Φ:aT)(c:CE)(σ:St)(H:Hp)(Q:Bool->Hp->Prop):Prop where
 |mk (R:aj) (τ:Addr->Option bu) (ρ:aX) (b:Bool) (h1:SI X F R τ ρ σ H) (h2:nM Φ c ρ=ok b) (h3:∀H',aM H H'->Q b H')
def PE.imp{e:Expr}{t t':TE}(h:PE X e t)(a:∀σ H Q,t' σ H Q->t σ H Q):PE X e t':=λpins s σ H Q I hw=>h pins s σ H Q I (a σ H Q hw)
def PT.imp{e:Expr}{t t':TT}(h:PT X e t)(a:∀σ H Q,t' σ H Q->t σ H Q):PT X e t':=λpins s σ H Q I hw=>h pins s σ H Q I (a σ H Q hw)
def PW.imp{e:Expr}{t t':TT}(h:PW X e t)(b:∀σ H Q,t' σ H Q->t σ H Q):PW X e t':=λa pins s σ H Q I hw=>h a pins s σ H Q I (b σ H Q hw)
def PA.imp{es:ao}{t t':TA}(h:PA X es t)(b:∀σ H Q,t' σ H Q->t σ H Q):PA X es t':=λa pins s σ H Q I hw=>h a pins s σ H Q I (b σ H Q hw)
variable {st:Stmt}
def PS.imp{t t':TS}(h:PS X st t)(a:∀D σ H,t' D σ H->t D σ H):PS X st t':=λpins s σ H D I hw=>h pins s σ H D I (a D σ H hw)
def iA.imp{st:aV}{t t':TS}(h:iA X st t)(a:∀D σ H,t' D σ H->t D σ H):iA X st t':=λpins s σ H D I hw=>h pins s σ H D I (a D σ H hw)
theorem pQ:∀(as bs:aa),ff as bs=true ↔ as.length=bs.length/\∀(j:Nat) (a b:D),as[j]?=some a->bs[j]?=some b->i9 a b=true
 |[],[]=>by simp[ff]
 |[],b::bs=>by simp[ff]
 |a::as,[]=>by simp[ff]
 |a::as,b::bs=>by
  rw[ff,cM,pQ as bs];constructor
  ·rintro ⟨h,g,e⟩;refine⟨by simp[g],λj x y d c=>?_⟩;cases j with
   |zero=>simp at d c;subst d c;exact h
   |succ j=>exact e j x y (by simpa using d) (by simpa using c)
  ·rintro ⟨g,e⟩;exact⟨e 0 a b rfl rfl,by simpa using g,λj x y d c=>e (j+1) x y (by simpa using d) (by simpa using c)⟩
def Ut(as bs:aa)(j:Nat):Bool:=match as[j]?,bs[j]? with
 |some a,some b=>i9 a b
 |_,_=>false
def kG(as bs:aa):((List.range (min as.length bs.length)).all (Ut as bs)&&as.length==bs.length)=ff as bs:=by
 rw[Bool.eq_iff_iff,pQ,cM,gv,mY];constructor
 ·rintro ⟨g,e⟩;refine⟨e,λj a b c d=>?_⟩;have i:j<as.length:=by
   by_cases h:j<as.length
   ·exact h
   ·rw[List.getElem?_eq_none (by left)]at c;cases c
  have:=g j (by rw[l4];left);unfold Ut at this;rw[c,d]at this;exact this
 ·rintro ⟨e,g⟩;refine⟨λj i=>?_,e⟩;rw[l4]at i;unfold Ut;have c:as[j]?=some as[j]:=aap (by left);have d:bs[j]?=some bs[j]:=aap (by left);rw[c,d];exact g j _ _ c d
variable {d' d0 d1:D}{v':V}
section
variable {X:Cx}{pins:av}{σ:St}{H:Hp}{s:Shared}{N N':jk}
def lz{n:Nat}(h:eJ n (.tup ds)=true):∃m,n=m+1/\∀d∈ds,eJ m d=true:=by
 cases n with
 |zero=>cases h
 |succ m=>exact⟨m,rfl,List.all_eq_true.mp h⟩
def lA{n:Nat}(h:eJ n (.lst f ds)=true):∃m,n=m+1/\∀d∈ds,eJ m d=true:=by
 cases n with
 |zero=>cases h
 |succ m=>exact⟨m,rfl,List.all_eq_true.mp h⟩
def zR(I:Inv X pins σ H s){p:Addr}{b:ah}(h:dq X.K H p xs)(h':bc X.K H p b):False:=by
 obtain⟨d,_,c,_⟩:=I.list h;obtain⟨a,_,pt,_⟩:=I.tuple h';exact SeqAt.ne_of_list_tuple c.isList pt rfl
def Dc(I:Inv X pins σ H s)(y:∀q p xs f,N q p (.l xs) f->dq X.K H p xs)(B:∀q p xs f,N' q p (.l xs) f->dq X.K H p xs):
  ∀(n:Nat) {k k':bu} {v:V} {d d':D},Rep (bc X.K H) N k v d->Rep (bc X.K H) N' k' v d'->eJ n d=true->eJ n d'=true->i9 d d'=true:=by
 intro n;induction n with
 |zero =>
  intro k k' v d d' h c e g;cases h with
  |bP=>cases c;rfl
  |bl b=>cases c;exact abl b
  |int i=>cases c;exact abl i
  |str t=>cases c;exact abl t
  |tup _ _=>obtain⟨m,u,_⟩:=lz e;left
  |lst _ _=>obtain⟨m,u,_⟩:=lA e;left
  |cX _ _=>cases e
 |succ n J =>
  have sub:∀{q q':bu} {xs:ah} {ds ds':aa},aF (bc X.K H) N q 0 xs ds->aF (bc X.K H) N' q' 0 xs ds'->(∀d∈ds,eJ n d=true)->(∀d∈ds',eJ n d=true)->ff ds ds'=true:=by
   intro q q' xs ds ds' r o e g;rw[pQ];refine⟨by rw[<- r.length,<- o.length],λj a b x w=>?_⟩;obtain⟨O,L,E⟩:=r.get x;obtain⟨M,z,C⟩:=o.get w;rw[L]at z;cases z;exact J E C (e a (aas x)) (g b (aas w))
  intro k k' v d d' h c e g;cases h with
  |bP=>cases c;rfl
  |bl b=>cases c;exact abl b
  |int i=>cases c;exact abl i
  |str t=>cases c;exact abl t
  |tup h r =>
   obtain⟨m,u,e⟩:=lz e;obtain rfl:n=m:=by left
   cases c with
   |tup c o =>
    obtain⟨m,u,g⟩:=lz g;obtain rfl:n=m:=by left
    obtain rfl:=I.l_ h c;exact sub r o e g
   |lst c o=>exact(zR I (B _ _ _ _ c) h).elim
   |cX _ _=>cases g
  |lst h r =>
   obtain⟨m,u,e⟩:=lA e;obtain rfl:n=m:=by left
   cases c with
   |tup c o=>exact(zR I (y _ _ _ _ h) c).elim
   |lst c o =>
    obtain⟨m,u,g⟩:=lA g;obtain rfl:n=m:=by left
    obtain rfl:=I.jx (y _ _ _ _ h) (B _ _ _ _ c);exact sub r o e g
   |cX _ _=>cases g
  |cX _ _=>cases e
structure Alike(A:aN)(s:Shared)(u u':Value)(b:Bool):Prop where
 eq:SeqAt.EqAt A s u u' b
 rc:SeqAt.RcAt A s u u' b
 ne:SeqAt.RcNeAt A s u u' (!b)
def vJ{d:D}(h:eJ 0 d=true):eL d=true:=by
 cases d<;>first|rfl|cases h
def Gr{A:aN}{k:bu}{v:V}{u g:Value}{d:D}(h:Rep T N k v d)(h':Rep T' N' k' v' d')(f:eL d=true)(e:eL d'=true)(r:RelV v u)(c:RelV v' g):Alike A s u g (i9 d d'):=by
 cases h with
 |bP =>
  cases r;cases h' with
  |bP=>cases c;exact⟨ach _,SeqAt.RcAt.none_none,SeqAt.RcNeAt.none_none⟩
  |bl b=>cases c;exact⟨SeqAt.EqAt.none_bool b,SeqAt.RcAt.none_bool b,SeqAt.RcNeAt.none_bool b⟩
  |int b=>obtain⟨t,rfl⟩:=c;exact⟨SeqAt.EqAt.none_int b t,SeqAt.RcAt.none_int b t,SeqAt.RcNeAt.none_int b t⟩
  |str b=>obtain⟨t,rfl⟩:=c;exact⟨SeqAt.EqAt.none_str b t,SeqAt.RcAt.none_str b t,SeqAt.RcNeAt.none_str b t⟩
  |_=>cases e
 |bl a =>
  cases r;cases h' with
  |bP=>cases c;exact⟨SeqAt.EqAt.bool_none a,SeqAt.RcAt.bool_none a,SeqAt.RcNeAt.bool_none a⟩
  |bl b=>cases c;exact⟨abD a b,SeqAt.RcAt.bool_bool a b,SeqAt.RcNeAt.bool_bool a b⟩
  |int b=>obtain⟨t,rfl⟩:=c;exact⟨SeqAt.EqAt.bool_int a b t,SeqAt.RcAt.bool_int a b t,SeqAt.RcNeAt.bool_int a b t⟩
  |str b=>obtain⟨t,rfl⟩:=c;exact⟨SeqAt.EqAt.bool_str a b t,SeqAt.RcAt.bool_str a b t,SeqAt.RcNeAt.bool_str a b t⟩
  |_=>cases e
 |int a =>
  obtain⟨t',rfl⟩:=r;cases h' with
  |bP=>cases c;exact⟨SeqAt.EqAt.int_none a t',SeqAt.RcAt.int_none a t',SeqAt.RcNeAt.int_none a t'⟩
  |bl b=>cases c;exact⟨SeqAt.EqAt.int_bool a t' b,SeqAt.RcAt.int_bool a t' b,SeqAt.RcNeAt.int_bool a t' b⟩
  |int b=>obtain⟨t,rfl⟩:=c;exact⟨acq a t' b t,SeqAt.RcAt.int_int a t' b t,SeqAt.RcNeAt.int_int a t' b t⟩
  |str b=>obtain⟨t,rfl⟩:=c;exact⟨aco a t' b t,SeqAt.RcAt.int_str a t' b t,SeqAt.RcNeAt.int_str a t' b t⟩
  |_=>cases e
 |str a =>
  obtain⟨t',rfl⟩:=r;cases h' with
  |bP=>cases c;exact⟨SeqAt.EqAt.str_none a t',SeqAt.RcAt.str_none a t',SeqAt.RcNeAt.str_none a t'⟩
  |bl b=>cases c;exact⟨SeqAt.EqAt.str_bool a t' b,SeqAt.RcAt.str_bool a t' b,SeqAt.RcNeAt.str_bool a t' b⟩
  |int b=>obtain⟨t,rfl⟩:=c;exact⟨acp a t' b t,SeqAt.RcAt.str_int a t' b t,SeqAt.RcNeAt.str_int a t' b t⟩
  |str b=>obtain⟨t,rfl⟩:=c;exact⟨SeqAt.EqAt.str_str a t' b t,SeqAt.RcAt.str_str a t' b t,SeqAt.RcNeAt.str_str a t' b t⟩
  |_=>cases e
 |_=>cases f
def alike(I:Inv X pins σ H s)(hN:∀q p xs f,N q p (.l xs) f->dq X.K H p xs)(U:∀q p xs f,N' q p (.l xs) f->dq X.K H p xs):
    ∀(n:Nat) (A:aN) {k k':bu} {v v':V} {u W:Value} {d d':D},Rep (bc X.K H) N k v d->Rep (bc X.K H) N' k' v' d'->eJ n d=true->eJ n d'=true->RelV v u->RelV v' W->A.units+n<cLine ->
      Alike A s u W (i9 d d'):=by
  intro n;induction n with
  |zero=>exact λA k k' v v' u W d d' h g L B r i hu=>Gr h g (vJ L) (vJ B) r i
  |succ n ih =>
    intro A k k' v v' u W d d' h g L B r i hu;have c:A.units<cLine:=by left
    have Yg:A.in1.units+n<cLine:=by show A.units+1+n<cLine;left
    have sub:∀{q q':bu} {xs xs':ah} {ds ds':aa} {o its':az},aF (bc X.K H) N q 0 xs ds->aF (bc X.K H) N' q' 0 xs' ds'->(∀d∈ds,eJ n d=true)->(∀d∈ds',eJ n d=true)->Vals xs o->Vals xs' its' ->
        ∀(j:Nat) (h1:j<o.toArray.size) (h2:j<its'.toArray.size),SeqAt.EqAt A.in1 s o.toArray[j] its'.toArray[j] (Ut ds ds' j):=by
      intro q q' xs xs' ds ds' o its' y x O Z C J j h1 h2;have E:ds.length=o.length:=by rw[<- y.length,C.length]
      have M:ds'.length=its'.length:=by rw[<- x.length,J.length]
      simp only[cn]at h1 h2;have ea:ds[j]?=some ds[j]:=aap (by left);have eb:ds'[j]?=some ds'[j]:=aap (by left);obtain⟨w1,g1,p1⟩:=y.get ea;obtain⟨w2,g2,p2⟩:=x.get eb;obtain⟨u1,k1,z1⟩:=C.get g1;obtain⟨u2,k2,z2⟩:=J.get g2;have:=(ih A.in1 p1 p2 (O _ (aba _)) (Z _ (aba _)) z1 z2 Yg).eq;unfold Ut;rw[ea,eb];rw[List.getElem?_eq_getElem h1]at k1;rw[List.getElem?_eq_getElem h2]at k2;cases k1;cases k2;simpa using this
    cases O:eL d with
    |true =>
      cases Z:eL d' with
      |true=>exact Gr h g O Z r i
      |false =>
        cases g with
        |tup g rr =>
          cases i;obtain⟨o,_,pt,_⟩:=I.tuple g;cases h with
          |bP=>cases r;exact⟨SeqAt.EqAt.none_tuple pt c,SeqAt.RcAt.none_tuple pt c,SeqAt.RcNeAt.none_tuple pt c⟩
          |bl a=>cases r;exact⟨SeqAt.EqAt.bool_tuple a pt c,SeqAt.RcAt.bool_tuple a pt c,SeqAt.RcNeAt.bool_tuple a pt c⟩
          |int a=>obtain⟨t',rfl⟩:=r;exact⟨SeqAt.EqAt.int_tuple a t' pt c,SeqAt.RcAt.int_tuple a t' pt c,SeqAt.RcNeAt.int_tuple a t' pt c⟩
          |str a=>obtain⟨t',rfl⟩:=r;exact⟨SeqAt.EqAt.str_tuple a t' pt c,SeqAt.RcAt.str_tuple a t' pt c,SeqAt.RcNeAt.str_tuple a t' pt c⟩
          |_=>cases O
        |lst g rr =>
          cases i;obtain⟨o,_,pt,_⟩:=I.list (U _ _ _ _ g);have pt:=pt.isList;cases h with
          |bP=>cases r;exact⟨SeqAt.EqAt.none_list pt c,SeqAt.RcAt.none_list pt c,SeqAt.RcNeAt.none_list pt c⟩
          |bl a=>cases r;exact⟨SeqAt.EqAt.bool_list a pt c,SeqAt.RcAt.bool_list a pt c,SeqAt.RcNeAt.bool_list a pt c⟩
          |int a=>obtain⟨t',rfl⟩:=r;exact⟨SeqAt.EqAt.int_list a t' pt c,SeqAt.RcAt.int_list a t' pt c,SeqAt.RcNeAt.int_list a t' pt c⟩
          |str a=>obtain⟨t',rfl⟩:=r;exact⟨SeqAt.EqAt.str_list a t' pt c,SeqAt.RcAt.str_list a t' pt c,SeqAt.RcNeAt.str_list a t' pt c⟩
          |_=>cases O
        |_=>first | (cases Z;done) | (cases B;done)
    |false =>
     cases h with
     | @tup _ p xs ds h y =>
      cases r;obtain⟨o,C,pt,_⟩:=I.tuple h;have pt:s.heap.IsTuple p o.toArray:=pt;cases g with
      |cX _ _=>cases B
      |bP=>cases i;exact⟨SeqAt.EqAt.tuple_none pt c,SeqAt.RcAt.tuple_none pt c,SeqAt.RcNeAt.tuple_none pt c⟩
      |bl b=>cases i;exact⟨SeqAt.EqAt.tuple_bool b pt c,SeqAt.RcAt.tuple_bool b pt c,SeqAt.RcNeAt.tuple_bool b pt c⟩
      |int b=>obtain⟨t,rfl⟩:=i;exact⟨SeqAt.EqAt.tuple_int b t pt c,SeqAt.RcAt.tuple_int b t pt c,SeqAt.RcNeAt.tuple_int b t pt c⟩
      |str b=>obtain⟨t,rfl⟩:=i;exact⟨SeqAt.EqAt.tuple_str b t pt c,SeqAt.RcAt.tuple_str b t pt c,SeqAt.RcNeAt.tuple_str b t pt c⟩
      |lst g rr=>cases i;obtain⟨its',_,e,_⟩:=I.list (U _ _ _ _ g);exact⟨SeqAt.EqAt.tuple_list pt e.isList c,SeqAt.RcAt.tuple_list pt e.isList c,SeqAt.RcNeAt.tuple_list pt e.isList c⟩
      | @tup _ z xs' ds' g x =>
        cases i;obtain⟨m,hm,P5⟩:=lz L;obtain rfl:n=m:=by left
        obtain⟨m,hm,tU⟩:=lz B;obtain rfl:n=m:=by left
        obtain⟨its',J,Y,_⟩:=I.tuple g;have Y:s.heap.IsTuple z its'.toArray:=Y;have w:=sub y x P5 tU C J;have E:ds.length=o.toArray.size:=by rw[cn,<- y.length,C.length]
        have M:ds'.length=its'.toArray.size:=by rw[cn,<- x.length,J.length]
        have rc:SeqAt.RcAt A s (.ref p) (.ref z) (i9 (.tup ds) (.tup ds')):=by
          have:=SeqAt.RcAt.tuples pt Y c w;rw[<- E,<- M,kG]at this;exact this
        refine⟨?_,rc,?_⟩
        · by_cases S:p=z
          · subst S
            rw[Dc I hN U (n+1) (Rep.tup h y) (Rep.tup g x) L B];exact ach _
          · exact SeqAt.EqAt.of_refs S rc
        · have:=SeqAt.RcNeAt.tuples pt Y c w
          rw[<- E,<- M,kG]at this;exact this
     | @lst _ p xs f ds h y =>
      cases r;obtain⟨o,C,e,_⟩:=I.list (hN _ _ _ _ h);have e:=e.isList;cases g with
      |cX _ _=>cases B
      |bP=>cases i;exact⟨SeqAt.EqAt.list_none e c,SeqAt.RcAt.list_none e c,SeqAt.RcNeAt.list_none e c⟩
      |bl b=>cases i;exact⟨SeqAt.EqAt.list_bool b e c,SeqAt.RcAt.list_bool b e c,SeqAt.RcNeAt.list_bool b e c⟩
      |int b=>obtain⟨t,rfl⟩:=i;exact⟨SeqAt.EqAt.list_int b t e c,SeqAt.RcAt.list_int b t e c,SeqAt.RcNeAt.list_int b t e c⟩
      |str b=>obtain⟨t,rfl⟩:=i;exact⟨SeqAt.EqAt.list_str b t e c,SeqAt.RcAt.list_str b t e c,SeqAt.RcNeAt.list_str b t e c⟩
      |tup g rr=>cases i;obtain⟨its',_,pt,_⟩:=I.tuple g;exact⟨SeqAt.EqAt.list_tuple e pt c,SeqAt.RcAt.list_tuple e pt c,SeqAt.RcNeAt.list_tuple e pt c⟩
      | @lst _ z xs' f' ds' g x =>
        cases i;obtain⟨m,hm,P5⟩:=lA L;obtain rfl:n=m:=by left
        obtain⟨m,hm,tU⟩:=lA B;obtain rfl:n=m:=by left
        obtain⟨its',J,P,_⟩:=I.list (U _ _ _ _ g);have P:=P.isList;have w:=sub y x P5 tU C J;have E:ds.length=o.toArray.size:=by rw[cn,<- y.length,C.length]
        have M:ds'.length=its'.toArray.size:=by rw[cn,<- x.length,J.length]
        have two:SeqAt.RcAt A s (.ref p) (.ref z) (i9 (.lst f ds) (.lst f' ds'))/\SeqAt.RcNeAt A s (.ref p) (.ref z) (!i9 (.lst f ds) (.lst f' ds')):=by
          show SeqAt.RcAt A s (.ref p) (.ref z) (ff ds ds')/\SeqAt.RcNeAt A s (.ref p) (.ref z) (!ff ds ds');rw[<- kG];by_cases hl:ds.length=ds'.length
          · have e1:(ds.length==ds'.length)=true:=by simp[hl]
            rw[e1,ky,<- hl,Nat.min_self];have Q:o.toArray.size=its'.toArray.size:=by rw[<- E,<- M,hl]
            refine⟨?_,?_⟩
            · have:=SeqAt.RcAt.lists e P Q c w
              rw[<- E]at this;exact this
            · have:=SeqAt.RcNeAt.lists e P Q c w
              rw[<- E]at this;exact this
          · have e1:(ds.length==ds'.length)=false:=by simp[hl]
            rw[e1,ll];have Q:(o.toArray.size != its'.toArray.size)=true:=by rw[<- E,<- M];simp[hl]
            exact⟨SeqAt.RcAt.lists_lengths e P Q c,SeqAt.RcNeAt.lists_lengths e P Q c⟩
        refine⟨?_,two.1,two.2⟩;by_cases S:p=z
        · subst S
          rw[Dc I hN U (n+1) (Rep.lst h y) (Rep.lst g x) L B];exact ach _
        · exact SeqAt.EqAt.of_refs S two.1
     |_=>first | (cases O;done) | (cases L;done)
end
structure Px where
 pe:Nat->Scope->aq->Expr->Option (ao)
 pi:Nat->Scope->aq->Expr->Option (ao)
 pm:Nat->Scope->aq->Stmt->Option (Expr×ao)
structure Sx where
 sc:Scope
 N:aq
 fn:Nat->Option Str
 bl:aq
 cs:List (Str×GK)
 px:Px
noncomputable def RJ:G3->Operator
 |.add=>.Add|.sub=>.Sub|.mul=>.Mult|.fdiv=>.FloorDiv|.mod=>.Mod|.pow=>.Pow|.shr=>.RShift|.band=>.BitAnd
noncomputable def Xn:Cf->CmpOp
 |.eq=>.Eq|.ne=>.NotEq|.lt=>.Lt|.le=>.LtE|.gt=>.Gt|.ge=>.GtE|.vW=>.In
noncomputable def tyName:Ty->String
 |.int=>"int" |.bool=>"bool" |.str=>"str" |.list=>"list" |.tuple=>"tuple"
noncomputable def uz:Bf->String
 |.len=>"len" |.abs=>"abs" |.tT=>"int" |.list1=>"list" |.tuple1=>"tuple" |.ku=>"sum" |.all1=>"all" |.iI=>"sorted"
noncomputable def LH(sc:Scope)(x:Str):Bool:=decide (sc.names.lookup x=some .local)||decide (sc.names.lookup x=some .cell)||decide (sc.names.lookup x=some .free)
noncomputable def iD(sc:Scope)(x:Str):Bool:=decide (sc.names.lookup x=some .globalImplicit)
noncomputable def nH(x:Str):Bool:=!(x==("__debug__" : Str))&&!(x==("__classdict__" : Str))&&decide (x≠("__name__" : Str))
noncomputable def ju:Expr->Bool
 |.Set _ _ _=>false
 |_=>true
noncomputable def vz(sc outer:Scope):Scope :=
 { sc with names:=sc.names.map λ(n,k)=>if (k==.free&&outer.kind==.function&&outer.names.lookup n==some .cell)then(n,.cell)else(n,k) }
noncomputable def cA:Expr->aq
 |.Name x _=>[x]
 |.Tuple a _ _=>a.filterMap λe=>match e with|.Name x _=>some x|_=>none
 |_=>[]
noncomputable def hJ(S:Sx)(caps:aP):aq:=caps.filterMap λi=>S.N[i]?
def Sx.inner(S:Sx)(target:Expr)(caps:aP)(sc:Scope):Sx:=⟨vz sc S.sc,cA target++hJ S caps,S.fn,S.bl,S.cs,S.px⟩
noncomputable def gu:Expr->Bool
 |.Tuple _ _ _=>true
 |_=>false
noncomputable def isNm(e:Expr):Bool:=decide (e.ctorIdx=23)
def nW{e:Expr}(h:isNm e=true):∃x p,e=.Name x p:=Expr.Name.elim (motive_1:=λe=>∃x p,e=.Name x p) e (aad h) λx p=>⟨x,p,rfl⟩
noncomputable def prE:Expr->Bool
 |.Call ..=>true
 |.BinOp ..=>true
 |.Subscript ..=>true
 |.Compare ..=>true
 |.Dict ..=>true
 |_=>false
noncomputable def Rx:Expr->Bool
 |.Call ..=>true
 |.Name ..=>true
 |_=>false
def aH{a b:Bool}(h:(a&&b)=true):a=true/\b=true:=by
 cases a<;>cases b<;>first|exact⟨rfl,rfl⟩|cases h
noncomputable def bz{b:Type}(o:Option b)(f:b->Bool):Bool:=match o with
 |some a=>f a
 |none=>false
def bt{b:Type}{o:Option b}{f:b->Bool}(h:bz o f=true):∃a,o=some a/\f a=true:=by
 cases o with
 |some a=>exact⟨a,rfl,h⟩
 |none=>cases h
def dI{a:Type}{c:Prop}[Decidable c]{f:c->Option a}{x:a}(h:(if h:c then f h else none)=some x):∃k:c,f k=some x:=by
 by_cases k:c
 ·rw[dif_pos k]at h;exact⟨k,h⟩
 ·rw[dif_neg k]at h;cases h
def bT{d c:Type}{o:Option d}{f:d->Option c}{b:c}(h:o.bind f=some b):∃a,o=some a/\f a=some b:=Option.bind_eq_some_iff.mp h
def gT{a:Type}{c:Prop}[Decidable c]{o:Option a}{b:a}(h:(if c then o else none)=some b):c/\o=some b:=by
 by_cases k:c
 ·rw[cc k]at h;exact⟨k,h⟩
 ·rw[cb k]at h;cases h
noncomputable def vC(e:Expr):Option Const:=if h:e.ctorIdx=19 then Expr.Constant.elim (motive_1:=λ_=>Option Const) e h (λc _ _=>some c)else none
def zg{e:Expr}{c:Const}(h:vC e=some c):∃j p,e=.Constant c j p:=by
 obtain⟨k,h⟩:=dI h;exact Expr.Constant.elim (motive_1:=λe=>∀k:e.ctorIdx=19,Expr.Constant.elim (motive_1:=λ_=>Option Const) e k (λc _ _=>some c)=some c->∃j p,e=.Constant c j p) e k (λ_ _ _ _ h=>by cases h;exact⟨_,_,rfl⟩) k h
noncomputable def EF:Const->Bool
 |.none=>true
 |_=>false
def Bw{c:Const}(h:EF c=true):c=.none:=by cases c<;>first|rfl|cases h
noncomputable def KR(b:Bool):Const->Bool
 |.bool c=>decide (b=c)
 |_=>false
def EH{b:Bool}{c:Const}(h:KR b c=true):c=.bool b:=by cases c<;>first | (cases h;done)|rw[of_decide_eq_true h]
noncomputable def EG(b:Int):Const->Bool
 |.int c=>decide (b=c)
 |_=>false
def Bx{b:Int}{c:Const}(h:EG b c=true):c=.int b:=by cases c<;>first | (cases h;done)|rw[of_decide_eq_true h]
noncomputable def EE(b:Str):Const->Bool
 |.str c=>decide (b=c)
 |_=>false
def Bu{b:Str}{c:Const}(h:EE b c=true):c=.str b:=by cases c<;>first | (cases h;done)|rw[of_decide_eq_true h]
noncomputable def LL(e:Expr):Option Str:=if h:e.ctorIdx=23 then Expr.Name.elim (motive_1:=λ_=>Option Str) e h (λx _=>some x)else none
def kr{e:Expr}{x:Str}(h:LL e=some x):∃p,e=.Name x p:=by
 obtain⟨k,h⟩:=dI h;exact Expr.Name.elim (motive_1:=λe=>∀k:e.ctorIdx=23,Expr.Name.elim (motive_1:=λ_=>Option Str) e k (λx _=>some x)=some x->∃p,e=.Name x p) e k (λ_ _ _ h=>by cases h;exact⟨_,rfl⟩) k h
noncomputable def LO(e:Expr):Option (Expr×Operator×Expr):=if h:e.ctorIdx=2 then Expr.BinOp.elim (motive_1:=λ_=>Option (Expr×Operator×Expr)) e h (λl o r _=>some (l,o,r))else none
def zh{e l r:Expr}{o:Operator}(h:LO e=some (l,o,r)):∃p,e=.BinOp l o r p:=by
 obtain⟨k,h⟩:=dI h;exact Expr.BinOp.elim (motive_1:=λe=>∀k:e.ctorIdx=2,Expr.BinOp.elim (motive_1:=λ_=>Option (Expr×Operator×Expr)) e k (λl o r _=>some (l,o,r))=some (l,o,r)->∃p,e=.BinOp l o r p) e k (λ_ _ _ _ _ h=>by cases h;exact⟨_,rfl⟩) k h
noncomputable def Wn(e:Expr):Option (UnaryOp×Expr):=if h:e.ctorIdx=3 then Expr.UnaryOp.elim (motive_1:=λ_=>Option (UnaryOp×Expr)) e h (λo e _=>some (o,e))else none
def CJ{e x:Expr}{o:UnaryOp}(h:Wn e=some (o,x)):∃p,e=.UnaryOp o x p:=by
 obtain⟨k,h⟩:=dI h;exact Expr.UnaryOp.elim (motive_1:=λe=>∀k:e.ctorIdx=3,Expr.UnaryOp.elim (motive_1:=λ_=>Option (UnaryOp×Expr)) e k (λo e _=>some (o,e))=some (o,x)->∃p,e=.UnaryOp o x p) e k (λ_ _ _ _ h=>by cases h;exact⟨_,rfl⟩) k h
noncomputable def vBool(e:Expr):Option (BoolOp×ao):=if h:e.ctorIdx=0 then Expr.BoolOp.elim (motive_1:=λ_=>Option (BoolOp×ao)) e h (λo vs _=>some (o,vs))else none
def uZ{e:Expr}{o:BoolOp}{vs:ao}(h:vBool e=some (o,vs)):∃p,e=.BoolOp o vs p:=by
 obtain⟨k,h⟩:=dI h;exact Expr.BoolOp.elim (motive_1:=λe=>∀k:e.ctorIdx=0,Expr.BoolOp.elim (motive_1:=λ_=>Option (BoolOp×ao)) e k (λo vs _=>some (o,vs))=some (o,vs)->∃p,e=.BoolOp o vs p) e k (λ_ _ _ _ h=>by cases h;exact⟨_,rfl⟩) k h
noncomputable def one{a:Type}:List a->Option a
 |[]=>none
 |x::xs=>match xs with
  |[]=>some x
  |_::_=>none
def bR{a:Type}{l:List a}{x:a}(h:one l=some x):l=[x]:=by
 cases l with
 |nil=>cases h
 |cons y b=>cases b with
  |nil=>cases h;rfl
  |cons _ _=>cases h
def two{a:Type}:List a->Option (a×a)
 |[]=>none
 |x::xs=>(one xs).map λy=>(x,y)
def jl{a:Type}{l:List a}{x y:a}(h:two l=some (x,y)):l=[x,y]:=by
 cases l with
 |nil=>cases h
 |cons z b=>cases b with
  |nil=>cases h
  |cons w c=>cases c with
   |nil=>cases h;rfl
   |cons _ _=>cases h
noncomputable def Wo{a:Type}:List a->Option (a×List a)
 |[]=>none
 |x::xs=>some (x,xs)
def xK{a:Type}{l xs:List a}{x:a}(h:Wo l=some (x,xs)):l=x::xs:=by
 cases l with
 |nil=>cases h
 |cons y b=>cases h;rfl
noncomputable def CL(e:Expr):Option (Expr×List CmpOp×ao):=if h:e.ctorIdx=15 then Expr.Compare.elim (motive_1:=λ_=>Option (Expr×List CmpOp×ao)) e h (λl b a _=>some (l,b,a))else none
def sD{e l:Expr}{a:List CmpOp}{rs:ao}(h:CL e=some (l,a,rs)):∃p,e=.Compare l a rs p:=by
 obtain⟨k,h⟩:=dI h;exact Expr.Compare.elim (motive_1:=λe=>∀k:e.ctorIdx=15,Expr.Compare.elim (motive_1:=λ_=>Option (Expr×List CmpOp×ao)) e k (λl a rs _=>some (l,a,rs))=some (l,a,rs)->∃p,e=.Compare l a rs p) e k (λ_ _ _ _ _ h=>by cases h;exact⟨_,rfl⟩) k h
noncomputable def CM(e:Expr):Option (Expr×ao×List Keyword):=if h:e.ctorIdx=16 then Expr.Call.elim (motive_1:=λ_=>Option (Expr×ao×List Keyword)) e h (λf as a _=>some (f,as,a))else none
def AZ{e f:Expr}{as:ao}{ks:List Keyword}(h:CM e=some (f,as,ks)):∃p,e=.Call f as ks p:=by
 obtain⟨k,h⟩:=dI h;exact Expr.Call.elim (motive_1:=λe=>∀k:e.ctorIdx=16,Expr.Call.elim (motive_1:=λ_=>Option (Expr×ao×List Keyword)) e k (λf as ks _=>some (f,as,ks))=some (f,as,ks)->∃p,e=.Call f as ks p) e k (λ_ _ _ _ _ h=>by cases h;exact⟨_,rfl⟩) k h
def fV(e:Expr):Option (Str×ao):=(CM e).bind λz=>if z.2.2.isEmpty=true then(LL z.1).bind λx=>some (x,z.2.1)else none
def RP{a:Type}{l:List a}(h:l.isEmpty=true):l=[]:=List.isEmpty_iff.mp h
def cw{e:Expr}{x:Str}{as:ao}(h:fV e=some (x,as)):∃p a,e=.Call (.Name x p) as [] a:=by
 obtain⟨⟨f,i,g⟩,b,h⟩:=bT h;obtain⟨d,h⟩:=gT h;obtain⟨y,c,h⟩:=bT h;cases h;obtain⟨a,rfl⟩:=AZ b;obtain⟨p,rfl⟩:=kr c;obtain rfl:=RP d;exact⟨p,a,rfl⟩
noncomputable def xI(e:Expr):Option (Expr×Expr):=if h:e.ctorIdx=21 then Expr.Subscript.elim (motive_1:=λ_=>Option (Expr×Expr)) e h (λa b _=>some (a,b))else none
def k8{e a b:Expr}(h:xI e=some (a,b)):∃p,e=.Subscript a b p:=by
 obtain⟨k,h⟩:=dI h;exact Expr.Subscript.elim (motive_1:=λe=>∀k:e.ctorIdx=21,Expr.Subscript.elim (motive_1:=λ_=>Option (Expr×Expr)) e k (λa b _=>some (a,b))=some (a,b)->∃p,e=.Subscript a b p) e k (λ_ _ _ _ h=>by cases h;exact⟨_,rfl⟩) k h
noncomputable def AY(e:Expr):Option (ao):=if h:e.ctorIdx=25 then Expr.Tuple.elim (motive_1:=λ_=>Option (ao)) e h (λa _ _=>some a)else none
def k7{e:Expr}{es:ao}(h:AY e=some es):∃n p,e=.Tuple es n p:=by
 obtain⟨k,h⟩:=dI h;exact Expr.Tuple.elim (motive_1:=λe=>∀k:e.ctorIdx=25,Expr.Tuple.elim (motive_1:=λ_=>Option (ao)) e k (λes _ _=>some es)=some es->∃n p,e=.Tuple es n p) e k (λ_ _ _ _ h=>by cases h;exact⟨_,_,rfl⟩) k h
noncomputable def QB(e:Expr):Option (ao):=if h:e.ctorIdx=24 then Expr.List.elim (motive_1:=λ_=>Option (ao)) e h (λa _=>some a)else none
def Hf{e:Expr}{es:ao}(h:QB e=some es):∃p,e=.List es p:=by
 obtain⟨k,h⟩:=dI h;exact Expr.List.elim (motive_1:=λe=>∀k:e.ctorIdx=24,Expr.List.elim (motive_1:=λ_=>Option (ao)) e k (λes _=>some es)=some es->∃p,e=.List es p) e k (λ_ _ _ h=>by cases h;exact⟨_,rfl⟩) k h
noncomputable def Kf(e:Expr):Option (Expr×List Comprehension×Scope):=if h:e.ctorIdx=8 then Expr.ListComp.elim (motive_1:=λ_=>Option (Expr×List Comprehension×Scope)) e h (λe b a _=>some (e,b,a))else none
def CK{e x:Expr}{a:List Comprehension}{sc:Scope}(h:Kf e=some (x,a,sc)):∃p,e=.ListComp x a sc p:=by
 obtain⟨k,h⟩:=dI h;exact Expr.ListComp.elim (motive_1:=λe=>∀k:e.ctorIdx=8,Expr.ListComp.elim (motive_1:=λ_=>Option (Expr×List Comprehension×Scope)) e k (λe a sc _=>some (e,a,sc))=some (x,a,sc)->∃p,e=.ListComp x a sc p) e k (λ_ _ _ _ _ h=>by cases h;exact⟨_,rfl⟩) k h
def gN{a:Bool}(h:(!a)=true):a=false:=by cases a<;>first|rfl|cases h
def uq(S:Sx)(n:Nat)(t:Tg)(caps:aP)(target:Expr)(sc:Scope):Bool :=
 decide (sc.kind=.function)&&sc.names.all (λ(x,k)=>decide (k≠.cell)&&(decide (k≠.local)||decide (sc.names.lookup x=some .local))&&(decide (k≠.free)||decide (S.sc.names.lookup x=some .cell)||decide (S.sc.names.lookup x=some .free))) &&
 decide (n=(cA target).length)&&(cA target).all (λx=>decide (sc.names.lookup x=some .local))&&decide (cA target++hJ S caps).Nodup &&
 caps.all (λi=>match S.N[i]? with|some x=>decide (sc.names.lookup x=some .free)|none=>false) &&
 (match t with
  |.nm i=>decide (i=0)&&isNm target
  |.tp is=>bz (AY target) λa=>decide (is=List.range a.length)&&a.all isNm)
mutual
noncomputable def cg(S:Sx):CE->Expr->Bool
 |.cL p es,e0=>prE e0&&bz (S.px.pe p S.sc S.bl e0) λxs=>b7 S es xs
 |.bP,e0=>bz (vC e0) λc=>EF c
 |.bl b,e0=>bz (vC e0) λc=>KR b c
 |.int i,e0=>bz (vC e0) λc=>EG i c
 |.str s,e0=>bz (vC e0) λc=>EE s c
 |.v i,e0=>bz (LL e0) λx=>decide (S.N[i]?=some x)&&LH S.sc x&&nH x
 |.glo x i,e0=>bz (LL e0) λy=>decide (y=x)&&iD S.sc x&&decide ((x,GK.i i)∈S.cs)&&!(x==("__debug__" : Str))
 |.bin op a b,e0=>bz (LO e0) λz=>decide (z.2.1=RJ op)&&cg S a z.1&&cg S b z.2.2
 |.neg a,e0=>bz (Wn e0) λz=>decide (z.1=.USub)&&cg S a z.2
 |.not a,e0=>bz (Wn e0) λz=>decide (z.1=.Not)&&cg S a z.2
 |.and es,e0=>bz (vBool e0) λz=>decide (z.1=.And)&&b7 S es z.2
 |.or es,e0=>bz (vBool e0) λz=>decide (z.1=.Or)&&b7 S es z.2
 |.cmp op a b,e0=>bz (CL e0) λz=>decide (z.2.1=[Xn op])&&cg S a z.1&&bz (one z.2.2) λr=>cg S b r&&ju r
 |.vV a t,e0=>bz (fV e0) λz=>decide (z.1=("isinstance" : Str))&&iD S.sc z.1&&decide (z.1∈S.bl)&&bz (two z.2) λy=>cg S a y.1&&bz (LL y.2) λx=>decide (x=(tyName t:Str))&&iD S.sc x&&decide (x∈S.bl)
 |.call f es,e0=>bz (fV e0) λz=>decide (S.fn f=some z.1)&&iD S.sc z.1&&nH z.1&&bz (Wo z.2) λy=>b7 S es (y.1::y.2)
 |.bf f es,e0=>bz (fV e0) λz=>decide (z.1=(uz f:Str))&&iD S.sc z.1&&decide (z.1∈S.bl)&&bz (Wo z.2) λy=>b7 S es (y.1::y.2)
 |.mx a,e0=>bz (fV e0) λz=>decide (z.1=("len" : Str))&&iD S.sc z.1&&decide (z.1∈S.bl)&&bz (one z.2) λy=>bz (fV y) λw=>decide (w.1=("set" : Str))&&iD S.sc w.1&&decide (w.1∈S.bl)&&bz (one w.2) λu=>cg S a u
 |.ix a b,e0=>bz (xI e0) λz=>cg S a z.1&&cg S b z.2
 |.tup es,e0=>bz (AY e0) λxs=>b7 S es xs&&decide (es.length<=1000)
 |.lst es,e0=>bz (QB e0) λxs=>b7 S es xs&&decide (es.length<=1000)
 |.comp n t caps ik es bQ elt,e0=>bz (Kf e0) λz=>bz (one z.2.1) λg=>decide (g.is_async=0)&&uq S n t caps g.target z.2.2&&ju g.iter&&decide (bQ.length<=1)&&b7 (S.inner g.target caps z.2.2) bQ g.ifs&&cg (S.inner g.target caps z.2.2) elt z.1 &&
     (match ik with
      |.jr=>bz (fV g.iter) λw=>decide (w.1=("range" : Str))&&iD S.sc w.1&&decide (w.1∈S.bl)&&bz (one w.2) λy=>b7 S es [y]
      |.seq=>b7 S es [g.iter]
      |.cL p=>Rx g.iter&&(decide (1100<=p)||gu g.target)&&bz (S.px.pi p S.sc S.bl g.iter) λxs=>b7 S es xs)
noncomputable def b7(S:Sx):aA->ao->Bool
 |[],es=>match es with
  |[]=>true
  |_::_=>false
 |c::cs,es=>match es with
  |[]=>false
  |e::es=>cg S c e&&b7 S cs es
end
def Hv(K:ak)(n:Nat)(m:au):Sp:=λvs H Q _=>∃(F:aj) (ds:aa) (r:D),vs.length=n/\aF (bc K H) (nd K F (λ_=>False) (λ_=>none) H) [] 0 vs ds/\m ds=ok r /\
 ∀v H',aM H H'->(∃τt:Addr->Option bu,(∀p q,τt p=some q->H p=none)/\Rep (bc K H') (nd K (λp=>F p\/H p=none) (λ_=>False) τt H') [] v r)->Q v H'
structure Pp(X:Cx)(k:Nat)(x:Str)(m:au):Prop where
 ex:∃(f:Addr) (fd:FuncData) (ps:aq),iB X.prog X.w X.K X.mg X.base Ce k f fd ps (Hv X.K ps.length m)/\X.mg x=some (.ref f)/\PySem.W.keepIn X.K (.ref f)=true/\Binds X.K fd ps []/\∀ds r,m ds=ok r->ds.length=ps.length
noncomputable def kinds:List String:=["NoneType","bool","int","str","list","tuple","dict"]
def Sg:Ty->String->Bool
 |.int,s=>s == "int" ||s == "bool"
 |t,s=>s==tyName t
theorem aM.upd{H:Hp}{p:Addr}{o:HO}(h:H p=none):aM H (upd H p o):=λb u e=>by
 rw[bp (by rintro rfl;rw[h]at e;cases e)];exact e
def Ej{i j:Int}(h:jv i j=true):IntMulOk i j:=by
 unfold jv at h;simp only[iN,cM,decide_eq_true_eq]at h;rcases h with (h|h)|⟨c,b⟩
 ·exact .of_left (intBits_le h)
 ·exact .of_right (intBits_le h)
 ·have b1:Builtin.Int.intBits i<=9000:=intBits_le c;have b2:Builtin.Int.intBits j<=9000:=intBits_le b;unfold IntMulOk;have a:Builtin.Int.intTooBig ((Builtin.Int.intBits i:Int)+(Builtin.Int.intBits j:Int))=false:=by
   unfold Builtin.Int.intTooBig;have:(bitsLine:Int)=134217728:=by decide
   exact aa9 (by left)
  rw[a];simp
section
variable {K:ak}{R:aj}{τ τt:Addr->Option bu}{fv:aP}{H H':Hp}
def Ii:kW X (binaryOp .Add) (λx y H Q=>∃a b xs c,x=.ref a/\y=.ref b/\bc X.K H a xs/\bc X.K H b c/\xs.length+c.length<=sizeLine/\(xs=[]->Q (.ref b) H)/\(c=[]->Q (.ref a) H)/\∀p,H p=none->Q (.ref p) (upd H p (.tup (xs++c)))):=by
 intro pins s σ H x y v u Q I z w h;obtain⟨a,b,xs,c,rfl,rfl,o,m,P,q0,E,C⟩:=h;cases z;cases w;by_cases i:xs=[]
 ·subst i;obtain⟨Y,B,L,_⟩:=I.tuple o;obtain⟨M,W,J,_⟩:=I.tuple m;cases B;obtain⟨⟨U,S,data,t⟩,j,l,n,k⟩:=id L;obtain⟨⟨Z,q,data2,r⟩,g,e,O,d⟩:=id J;simp only at l k e d;subst l k e d;exact concat_meets ⟨_,j,rfl⟩ ⟨_,g,rfl⟩ noFill_tuple_add seq_tuple_add ab7 ab4 (abY _ _)
   (tuple_addW0 a b [].toArray M.toArray n O S q t r rfl) ⟨j,g,⟨.ref b,H,I,rfl,q0 rfl⟩⟩
 ·exact Ih pins s σ H (.ref a) (.ref b) _ _ Q I rfl rfl ⟨a,b,xs,c,rfl,rfl,o,m,i,P,E,λ_=>C⟩
def nd.pK(k k':bu)(p:Addr)(xs:Nd)(f:Fl)(h:nd K R A (λ_=>none) H k p xs f):nd K R A (λ_=>none) H k' p xs f:=by
 cases f with
 |ow=>exact nomatch h.2
 |fz=>exact h
 |al=>exact h
 |sc=>exact h
def RQ(b:SI X F R τ ρ σ H)(a:∀p q,τt p=some q->H p=none)(k k':bu)(p:Addr)(xs:Nd)(f:Fl)(h:nd K R (kN (gP X F) τ fv) τt H' k p xs f):
  nd K R (kN (gP X F) τ fv) (λ_=>none) H' k' p xs (bg f):=by
 cases f with
 |ow=>exact⟨h.1,.inr (b.same.free (a p _ h.2)),λc i e=>absurd (a p _ h.2) (b.th p _ e)⟩
 |fz=>exact h
 |al=>exact h
 |sc=>exact h
def aF.fX{k:bu}{n:Nat}(h:aF (bc K H') (nd K R (kN (gP X F) τ fv) τt H') k n xs ds)(b:SI X F R τ ρ σ H)(a:∀p q,τt p=some q->H p=none){n':Nat}:
  aF (bc K H') (nd K R (kN (gP X F) τ fv) (λ_=>none) H') k' n' xs (aw bg ds):=aF.jd (λ_ _ h=>h) (RQ b a) h _ _
def Rep.fX{k:bu}{v:V}{d:D}(h:Rep (bc K H') (nd K R (kN (gP X F) τ fv) τt H') k v d)(b:SI X F R τ ρ σ H)(a:∀p q,τt p=some q->H p=none):
  Rep (bc K H') (nd K R (kN (gP X F) τ fv) (λ_=>none) H') k' v (aE bg d):=Rep.jd (λ_ _ h=>h) (RQ b a) h _
theorem aF.rep{A:aj}{xs:ah}{ds:aa}(h:aF (bc K H) (nd K R A (λ_=>none) H) [] 0 xs (aw bg ds)):∀n:Nat,aF (bc K H) (nd K R A (λ_=>none) H) [] 0 (List.replicate n xs).flatten (aw bg (List.replicate n ds).flatten)
 |0=>.nil
 |n+1=>by
  rw[gb,gb,hS,hS,aG,f6,<- aG,<- aG];exact aF.ox nd.pK h (aF.rep h n)
def b_.qK{p:Addr}(d:H p=none)(e:aM H H')(hl:H' p=some (.lst xs))(r:aF (bc K H') (nd K R (kN G τ fv) (λ_=>none) H') [] 0 xs ds):b_ K G R τ fv H H' (.ref p) (.lst .ow ds):=by
 refine⟨λq=>if q=p then some []else none,λq k b=>?_,.lst ⟨hl,by simp⟩ (r.imp (λ_ _ h=>h) λc q xs f h=>?_)⟩
 ·by_cases a:q=p
  ·subst a;exact d
  ·simp[a]at b
 ·cases f with
  |ow=>exact nomatch h.2
  |fz=>exact h
  |al=>exact h
  |sc=>exact h
end
def ID(K:ak):∀t:Ty,∀s∈kinds,PySem.W.kitOne K (.type s) (.type (tyName t))=some (Sg t s):=by
 intro t s a;simp only[kinds,ft,eg,or_false]at a;cases t<;>rcases a with rfl|rfl|rfl|rfl|rfl|rfl|rfl<;>rfl
structure PX(X:Cx)(sc:Scope)(bl:aq)(k:Nat):Prop where
 sc:X.env.scope=sc
 calm:X.calm=true
 room:hV k X.A
 bl:∀x∈bl,X.mg x=none
def PX.gl{sc:Scope}{bl:aq}{k:Nat}(L:PX X sc bl k){x:Str}(h:iD sc x=true):Gl X x:=by
 unfold Gl;show X.env.scope.names.lookup x=some .globalImplicit;rw[L.sc];exact aad h
def qT(X:Cx)(F:aj)(Φ:aT):aA->ao->Prop
 |[],[]=>True
 |c::cs,a::as=>PE X a (tD X F Φ c)/\(∀b,starEach (a::b) X.env=(false,eval a X.env)::starEach b X.env)/\oD a/\qT X F Φ cs as
 |_,_=>False
structure qf(K:ak)(H2:Hp)(vs:ah)(xs:aa)(H':Hp):Prop where
 n0:∃R0:aj,aF (bc K H2) (nd K R0 (λ_=>False) (λ_=>none) H2) [] 0 vs (aw aI xs)/\∀p o,R0 p->H2 p=some o->H' p=some o
 tp:∀a ys,bc K H2 a ys->bc K H' a ys
structure J7(K:ak)(J:It)(H2:Hp)(vs:ah)(xs items:aa):Prop where
 go:∀i H' R',qf K H2 vs xs H'->aF (bc K H') (nd K R' (λ_=>False) (λ_=>none) H') [] 0 vs (aw aI xs)->i<items.length->J.go i H'
 uW:∀i H' R' x j7,qf K H2 vs xs H'->aF (bc K H') (nd K R' (λ_=>False) (λ_=>none) H') [] 0 vs (aw aI xs)->i<items.length->J.uW i H' x j7->aM H' j7/\∃d,items[i]?=some d/\Rep (bc K j7) (nd K R' (λ_=>False) (λ_=>none) j7) [] x d
 stop:∀i H' R',qf K H2 vs xs H'->aF (bc K H') (nd K R' (λ_=>False) (λ_=>none) H') [] 0 vs (aw aI xs)->items.length<=i->J.stop i H'
noncomputable abbrev Cc(a:Scope->aq->Expr->Option (ao))(m:au):Prop:=∀{Φ:aT} {n:Nat},Φ n=m->∀{X:Cx} {sc:Scope} {bl:aq} {k:Nat},PX X sc bl k->∀{e:Expr} {args:ao},a sc bl e=some args->∀{F:aj} {cs:aA},qT X F Φ cs args->PE X e (tD X F Φ (.cL n cs))/\PT X e (jh X F Φ (.cL n cs))
structure qo(px:Px)(Φ:aT):Prop where
 e:∀(X:Cx) (sc:Scope) (bl:aq) (k:Nat),PX X sc bl k->∀(p:Nat) (e:Expr) (args:ao),px.pe p sc bl e=some args->∀(F:aj) (cs:aA),qT X F Φ cs args->PE X e (tD X F Φ (.cL p cs))/\PT X e (jh X F Φ (.cL p cs))
 i:∀(X:Cx) (sc:Scope) (bl:aq) (k:Nat),PX X sc bl k->∀(p:Nat) (e:Expr) (args:ao),px.pi p sc bl e=some args->∀(F:aj) (cs:aA) (tg:Expr),(decide (1100<=p)||gu tg)=true->qT X F Φ cs args ->
  ∀(pins:av) (s:Shared) (σ:St) (H:Hp) (R:aj) (τ:Addr->Option bu) (ρ:aX) (xs:aa) (d:D) (items:aa),Inv X pins σ H s->SI X F R τ ρ σ H->bJ Φ cs ρ=ok xs->Φ p xs=ok d->mf d=ok items->∀Rr:It->Hp->Prop,
   (∀J H2 vs,aM H H2->cI X.K (gP X F) R τ (dN cs) H H2 vs xs->J7 X.K J H2 vs xs items->Rr J H2) ->
   wpAny (model X.prog X.w) X.A (eval e X.env) (λv s1=>wpAny (model X.prog X.w) X.A (pyIter v) (Cv X pins σ tg Rr) X.xe s1) X.xe s
def y_(K:ak):GK->Value->Prop
 |.i i,u=>RelV (.int i) u
structure Lk(X:Cx)(S:Sx)(k:Nat)(Φ:aT):Prop where
 sc:X.env.scope=S.sc
 N:X.N=S.N
 nd:X.N.Nodup
 calm:X.calm=true
 room:hV k X.A
 bl:∀x∈S.bl,X.mg x=none
 fn:∀f x,S.fn f=some x->Pp X k x (Φ f)
 cs:∀x i,(x,i)∈S.cs->∃u,X.mg x=some u/\y_ X.K i u
 pr:qo S.px Φ
variable {S:Sx}{Φ:aT}
def Lk.pX{k:Nat}(L:Lk X S k Φ):PX X S.sc S.bl k:=⟨L.sc,L.calm,L.room,L.bl⟩
variable {Q:VK}{p' p1 p2 pos pos':Pos}
section
variable {X:Cx}{S:Sx}{k:Nat}{F:aj}{Φ:aT}
def Lk.gl(L:Lk X S k Φ){x:Str}(h:iD S.sc x=true):Gl X x:=by
 unfold Gl;show X.env.scope.names.lookup x=some .globalImplicit;rw[L.sc];exact aad h
def Lk.vis(L:Lk X S k Φ){x:Str}(h:LH S.sc x=true):Pl X.env.scope x:=by
 unfold Pl;rw[L.sc];unfold LH at h;rw[iN,iN]at h;rcases h with (h|h)|h
 ·exact .inl (aad h)
 ·exact .inr (.inl (aad h))
 ·exact .inr (.inr (aad h))
def tD.intro{c:CE}{d:D}(a:SI X F R τ ρ σ H)(e:bo Φ c ρ=ok d)(h:∀v H',aM H H'->b_ X.K (gP X F) R τ (iE c) H H' v d->Q v H'):tD X F Φ c σ H Q:=⟨R,τ,ρ,d,a,e,h⟩
def W3(L:Lk X S k Φ){i:Nat}{x:Str}(h:cg S (.v i) (.Name x pos)=true):PE X (.Name x pos) (tD X F Φ (.v i)):=by
 replace h:=aH h;replace h:=And.intro (aH h.1) h.2;obtain⟨⟨r,o⟩,a⟩:=h;unfold nH at a;simp only[cM,i4]at a;refine PE.imp (ml (i:=i) (by rw[L.N];exact aad r) (L.vis o) a.1.1 a.1.2) λσ H Q b=>?_;obtain⟨R,τ,ρ,d,g,s,b⟩:=b;obtain⟨d',n,rfl⟩:=C9 s
 ·obtain⟨v,l,m⟩:=g.rep i d' n;refine⟨v,l,b v H (aM.refl H) ⟨λ_=>none,λ_ _ h=>by simp at h,?_⟩⟩;refine Rep.map (q:=[i]) (q':=[]) (λ_ _ h=>h) (λc p xs f h=>?_) m [] rfl;cases f with
  |ow =>
   refine⟨h.1,.inr (g.t0 p _ h.2),λu j e=>?_⟩;rw[h.2]at e;have t:=aaq e;have:=aaI List.getLast? t;simp at this;show _∈[i];simp[this]
  |fz=>exact h
  |al=>exact h.2.elim
  |sc=>exact h
def jV{op:G3}{x y d:D}(a:op≠.add/\op≠.mul)(h:dD op x y=ok d):∃i j,x=.int i/\y=.int j:=by
 cases x with
 |int i=>cases y with
  |int j=>exact⟨i,j,rfl,rfl⟩
  |_=>cases op<;>first|exact nk h | (simp at a;done)
 |_=>cases op<;>first|exact nk h | (simp at a;done)
def Mh(L:Lk X S k Φ){op:G3}{a b:CE}{l r:Expr}(ha:PE X l (tD X F Φ a))(hb:PE X r (tD X F Φ b)):PE X (.BinOp l (RJ op) r pos) (tD X F Φ (.bin op a b)):=by
 have two:∀{σ:St} {H:Hp} {Q:VK} {r2:R2},(∃R τ ρ d,SI X F R τ ρ σ H/\bo Φ (.bin op a b) ρ=ok d/\(∀v H',aM H H'->b_ X.K (gP X F) R τ (iE (.bin op a b)) H H' v d->Q v H') /\
   ∀x y v u H',dD op x y=ok d->aM H H'->b_ X.K (gP X F) R τ (iE (.bin op a b)) H H' v x->b_ X.K (gP X F) R τ (iE (.bin op a b)) H H' u y->r2 v u H' Q)->Ho r2 (tD X F Φ a) (tD X F Φ b) σ H Q:=by
  rintro σ H Q r2 ⟨R,τ,ρ,d,w,I,s,hr⟩;obtain⟨x,ex,I⟩:=aC I;obtain⟨y,ey,I⟩:=aC I;refine tD.intro w ex λv H1 e1 r1=>tD.intro (w.go e1) ey λu H2 e2 r2=>?_;exact hr x y v u H2 I (e1.trans e2) ((r1.go e2).mono λi hi=>aaw _ hi) ((r2.old e1).mono λi hi=>aam _ hi)
 have Z:∀{C:Int->Int->Prop} {g:Int->Int->Int},kW X (binaryOp (RJ op)) (rI C λi j=>.int (g i j))->(∀x y d,dD op x y=ok d->∃i j,x=.int i/\y=.int j/\C i j/\d=.int (g i j)) ->
   PE X (.BinOp l (RJ op) r pos) (tD X F Φ (.bin op a b)):=by
  intro C g ho hd;refine PE.imp (vH ho ha hb) λσ H Q s=>?_;obtain⟨R,τ,ρ,d,w,I,s⟩:=s;refine two ⟨R,τ,ρ,d,w,I,s,λx y v u H' o e M O=>?_⟩;obtain⟨i,j,rfl,rfl,c,rfl⟩:=hd x y d o;exact⟨i,j,M.isInt,O.isInt,c,s _ H' e .int⟩
 cases op with
 |sub =>
  refine Z (C:=λ_ _=>True) (g:=λi j=>i - j) (MQ λ_ _ _ _ _ _ _ _ q=>sub_int q) λx y d h=>?_;obtain⟨i,j,rfl,rfl⟩:=jV (by simp) h;cases h;exact⟨_,_,rfl,rfl,trivial,rfl⟩
 |mod =>
  refine Z (C:=λ_ j=>j≠0) (g:=λi j=>i.fmod j) Ig λx y d h=>?_;obtain⟨i,j,rfl,rfl⟩:=jV (by simp) h;obtain⟨B,h⟩:=mz h;subst h;exact⟨_,_,rfl,rfl,B,rfl⟩
 |fdiv =>
  refine Z (C:=λ_ j=>rY j=true) (g:=λi j=>i.fdiv j) (MQ λi j _ _ _ _ _ t q=>?_) λx y d h=>?_
  ·unfold rY at t;rw[cM]at t;have B:j≠0:=aad t.1;have h2:j.natAbs<big:=aad t.2;exact floordiv_int B q (.inl (PyProof.noPylong_of_log2 ((Nat.log2_lt (by left)).mpr h2)))
  ·obtain⟨i,j,rfl,rfl⟩:=jV (by simp) h;obtain⟨B,h⟩:=mz h;subst h;exact⟨_,_,rfl,rfl,B,rfl⟩
 |pow =>
  refine Z (C:=λi j=>zx i j=true) (g:=λi j=>i ^ j.toNat) (MQ λi j _ _ _ _ _ t q=>?_) λx y d h=>?_
  ·unfold zx at t;simp only[cM,decide_eq_true_eq]at t;exact pow_int_small t.1.1 t.1.2 t.2 q
  ·obtain⟨i,j,rfl,rfl⟩:=jV (by simp) h;obtain⟨B,h⟩:=mz h;subst h;exact⟨_,_,rfl,rfl,B,rfl⟩
 |shr =>
  refine Z (C:=λ_ j=>0<=j) (g:=λi j=>i / 2 ^ j.toNat) ML λx y d h=>?_;obtain⟨i,j,rfl,rfl⟩:=jV (by simp) h;obtain⟨B,h⟩:=mz h;subst h;exact⟨_,_,rfl,rfl,B,rfl⟩
 |band =>
  refine Z (C:=λ_ j=>j=1) (g:=λi _=>i % 2) (MQ λi j _ _ _ _ _ t q=>by subst t;exact and_int (by rw[bitAnd_m1];exact q)) λx y d h=>?_;obtain⟨i,j,rfl,rfl⟩:=jV (by simp) h;obtain⟨B,h⟩:=mz h;subst h;exact⟨_,_,rfl,rfl,B,rfl⟩
 |mul =>
  have hi:kW X (binaryOp .Mult) (rI (λi j=>jv i j=true) λi j=>.int (i*j)):=MQ λi j _ _ _ _ _ t q=>mul_int q (Ej t);refine PE.imp (vH (hi.or MM) ha hb) λσ H Q s=>?_;obtain⟨R,τ,ρ,d,w,I,s⟩:=s;refine two ⟨R,τ,ρ,d,w,I,s,λx y v u H' o e M O=>?_⟩;cases y with
  |int j =>
   cases x with
   |int i =>
    obtain⟨B,o⟩:=mz o;subst o;exact .inl ⟨i,j,M.isInt,O.isInt,B,s _ H' e .int⟩
   |lst f a =>
    obtain⟨t,o⟩:=mz o
    ·subst o;obtain⟨τt,Y,rp⟩:=M;obtain⟨p,xs,rfl,W,J⟩:=rp.qA;have hz:sizeLine=16777216:=abg;have nL:du=1000000:=rfl;refine .inr ⟨p,j,xs,rfl,O.isInt,W.lst t.1,by left,by left,by rw[J.length];left,λp' P=>?_⟩;have E:aM H' (upd H' p' (.lst (List.replicate j.toNat xs).flatten)):=aM.upd P;refine s _ _ (e.trans E) (b_.qK (e.free P) (e.trans E) (aZ) ?_);exact(aF.rep (J.fX w Y) j.toNat).imp (λ_ _ h=>bc.same E h) λ_ _ _ _ h=>nd.same E h
   |_=>cases o
  |_=>cases x<;>cases o
 |add =>
  refine PE.imp (vH ((MP.or D7).or Ii) ha hb) λσ H Q s=>?_;obtain⟨R,τ,ρ,d,w,I,s⟩:=s;refine two ⟨R,τ,ρ,d,w,I,s,λx y v u H' o e M O=>?_⟩;have hz:sizeLine=16777216:=abg;have nL:du=1000000:=rfl;cases x with
  |int i =>
   cases y with
   |int j =>
    cases o;exact .inl (.inl ⟨i,j,M.isInt,O.isInt,s _ H' e .int⟩)
   |_=>cases o
  |lst f a =>
   cases y with
   |lst g b =>
    obtain⟨t,o⟩:=mz o
    ·subst o;obtain⟨τt,Y,rp⟩:=M;obtain⟨Wj,Qe,W9⟩:=O;obtain⟨p,xs,rfl,W,J⟩:=rp.qA;cases W9 with
     | @lst _ p2 LB _ _ P6 U =>
      refine .inl (.inr ⟨p,p2,xs,LB,rfl,rfl,W.lst t.1,P6.lst t.2.1,by rw[J.length,U.length];left,λp' P=>?_⟩);have E:aM H' (upd H' p' (.lst (xs++LB))):=aM.upd P;refine s _ _ (e.trans E) (b_.qK (e.free P) (e.trans E) (aZ) ?_);rw[aG,f6,<- aG,<- aG];exact(aF.ox nd.pK (n:=0) (m:=0) (J.fX w Y) (U.fX w Qe)).imp (λ_ _ h=>bc.same E h) λ_ _ _ _ h=>nd.same E h
   |_=>cases o
  |tup a =>
   cases y with
   |tup b =>
    obtain⟨t,o⟩:=mz o;subst o;obtain⟨τt,Y,rp⟩:=M;obtain⟨Wj,Qe,W9⟩:=O;cases rp with
    | @tup _ p xs _ W J =>
     cases W9 with
     | @tup _ p2 LB _ P6 U =>
      have hl:=J.length;have BF:=U.length;refine .inr ⟨p,p2,xs,LB,rfl,rfl,W,P6,by rw[hl,BF];left,λz=>?_,λz=>?_,λp' P=>?_⟩
      ·subst z;cases J;exact s _ H' e ⟨λ_=>none,λ_ _ h=>by simp at h,.tup P6 (U.fX w Qe)⟩
      ·subst z;cases U;refine s _ H' e ⟨λ_=>none,λ_ _ h=>by simp at h,.tup W ?_⟩;rw[hH];exact J.fX w Y
      ·have E:aM H' (upd H' p' (.tup (xs++LB))):=aM.upd P;refine s _ _ (e.trans E) ⟨λ_=>none,λ_ _ h=>by simp at h,.tup (bc.of aZ) ?_⟩;rw[aG,f6,<- aG,<- aG];exact(aF.ox nd.pK (n:=0) (m:=0) (J.fX w Y) (U.fX w Qe)).imp (λ_ _ h=>bc.same E h) λ_ _ _ _ h=>nd.same E h
   |_=>cases o
  |_=>cases y<;>cases o
end
section
variable {T T':m9}{N N':jk}{P:Fl->Bool}
def Rep.without(a:∀p xs,T p xs->T' p xs)(b:∀k k' p xs f,P f=false->N k p xs f->N' k' p xs f){k:bu}{v:V}{d:D}(h:Rep T N k v d)(e:bh P d=false)(k':bu):Rep T' N' k' v d:=by
 have:=Rep.gen (g:=id) (P:=P) (N':=N') (C:=λ_ _=>True) (I:=λ_ _=>True) a trivial (λ_ _ e=>e) (λ_ _ _ _ e _=>e) (λk k' p xs f _ e h=>b k k' p xs f e h) h (k':=k') trivial e;rw[fB]at this;exact this
def aF.without(a:∀p xs,T p xs->T' p xs)(b:∀k k' p xs f,P f=false->N k p xs f->N' k' p xs f){k:bu}{n:Nat}(h:aF T N k n vs ds)(e:aU P ds=false)(k':bu)(n':Nat):aF T' N' k' n' vs ds:=by
 have:=aF.gen (g:=id) (P:=P) (N':=N') (C:=λ_ _=>True) (I:=λ_ _=>True) a trivial (λ_ _ e=>e) (λ_ _ _ _ e _=>e) (λk k' p xs f _ e h=>b k k' p xs f e h) h (k':=k') (n':=n') trivial trivial e;rw[fL]at this;exact this
def Rep.kY(i:∀p xs,T p xs->T' p xs)(j:∀k p xs f,P f=false->N k p xs f->N' k p xs f){k:bu}{v:V}{d:D}(h:Rep T N k v d)(e:bh P d=false):Rep T' N' k v d:=by
 have:=Rep.gen (g:=id) (P:=P) (N':=N') (C:=λa b=>a=b) (I:=λa b=>a=b) i rfl (λ_ _ e=>by rw[e]) (λ_ _ _ _ a b=>by rw[a,b]) (λk k' p xs f c e h=>by subst c;exact j k p xs f e h) h rfl e;rw[fB]at this;exact this
def aF.kY(d:∀p xs,T p xs->T' p xs)(i:∀k p xs f,P f=false->N k p xs f->N' k p xs f){k:bu}{n:Nat}(h:aF T N k n vs ds)(e:aU P ds=false):aF T' N' k n vs ds:=by
 have:=aF.gen (g:=id) (P:=P) (N':=N') (C:=λa b=>a=b) (I:=λa b=>a=b) d rfl (λ_ _ e=>by rw[e]) (λ_ _ _ _ a b=>by rw[a,b]) (λk k' p xs f c e h=>by subst c;exact i k p xs f e h) h rfl rfl e;rw[fL]at this;exact this
end
def Rep.mw{k:bu}{v:V}{d:D}(h:Rep (bc K H) (nd K R (λ_=>False) (λ_=>none) H) k v d):Rep (bc K H) (nd K R (λ_=>False) (λ_=>none) H) k' v d:=by
 have:=Rep.jd (g:=id) (λ_ _ h=>h) nd.pK h k';rw[fB]at this;exact this
inductive iV(X:Cx)(R:aj)(τ:Addr->Option bu)(H:Hp)(v:V)(d:D):Prop where
 |mk (τt:Addr->Option bu) (h1:∀p q,τt p=some q->τ p=none/\¬ R p/\X.H₀ p=none/\H p≠none) (h2:Rep (bc X.K H) (nd X.K R (λ_=>False) τt H) [] v d)
section
variable {X:Cx}{F R:aj}{τ:Addr->Option bu}{ρ:aX}{σ:St}{H H':Hp}
noncomputable def A4(i:Nat)(τt τ:Addr->Option bu):Addr->Option bu:=λp=>match τt p with|some q=>some (q++[i])|none=>τ p
def SI.W2{i:Nat}{v:V}{d:D}(a:SI X F R τ ρ σ H)(e:∀p q,τt p=some q->τ p=none/\¬ R p/\X.H₀ p=none/\H p≠none)(o:Rep (bc X.K H) (nd X.K R (λ_=>False) τt H) [] v d)(n:i<ρ.length):SI X F R (A4 i τt τ) (ρ.set i (some d)) (σ.set i (some v)) H:=by
 refine⟨by simp[a.len],λj d' g=>?_,λp m=>?_,a.rh,a.rf,λp q b=>?_,λp q b=>?_,a.same⟩
 ·by_cases l:j=i
  ·subst l;rw[List.getElem?_set_self n]at g;cases g;refine⟨v,abh (by rw[<- a.len];exact n),o.imp (q':=[j]) (λ_ _ h=>h) λc p xs f h=>?_⟩;cases f with
   |ow=>rw[hH]at h;exact⟨h.1,by simp only[A4,h.2]⟩
   |fz=>exact h
   |al=>exact h
   |sc=>exact h
  ·rw[List.getElem?_set_ne (Ne.symm l)]at g;obtain⟨w,hw,r⟩:=a.rep j d' g;refine⟨w,by rw[List.getElem?_set_ne (Ne.symm l)];exact hw,r.imp (λ_ _ h=>h) λc p xs f h=>?_⟩;cases f with
   |ow =>
    refine⟨h.1,?_⟩;cases q:τt p with
    |none=>simp only[A4,q];exact h.2
    |some k=>have:=(e p k q).1;rw[h.2]at this;cases this
   |fz=>exact h
   |al=>exact h
   |sc=>exact h
 ·cases q:τt p with
  |none=>simp only[A4,q];exact a.rt p m
  |some k=>exact absurd m (e p k q).2.1
 ·cases z:τt p with
  |none=>simp only[A4,z]at b;exact a.th p q b
  |some k=>exact(e p k z).2.2.2
 ·cases z:τt p with
  |none=>simp only[A4,z]at b;exact a.t0 p q b
  |some k=>exact(e p k z).2.2.1
theorem SI.set{i:Nat}{v:V}{d:D}(e:SI X F R τ ρ σ H)(r:iV X R τ H v d)(c:i<ρ.length):∃τ',SI X F R τ' (ρ.set i (some d)) (σ.set i (some v)) H:=by
 obtain⟨τt,b,a⟩:=r;exact⟨_,e.W2 b a c⟩
def BM{k:bu}{v:V}{d:D}(h:Rep (bc X.K H) (nd X.K R (λ_=>False) τ H) k v d)(a:bh cO d=false):iV X R τ H v d :=
 ⟨λ_=>none,λ_ _ h=>by simp at h,Rep.without (P:=cO) (λ_ _ h=>h) (λk k' p xs f b h=>by
  cases f with
  |ow=>cases b
  |fz=>exact h
  |al=>exact h.2.elim
  |sc=>exact h) h a _⟩
open Classical in
def SI.move{i:Nat}{d:D}(a:SI X F R τ ρ σ H)(s:ρ[i]?=some (some d)):∃v τ',σ[i]?=some (some v)/\SI X F R τ' (ρ.set i none) σ H/\iV X R τ' H v d:=by
 obtain⟨v,n,l⟩:=a.rep i d s;refine⟨v,λp=>match τ p with|some q=>if q.getLast?=some i then none else some q|none=>none,n,⟨by simp[a.len],λj d' e=>?_,λp o=>?_,a.rh,a.rf,λp q b=>?_,λp q b=>?_,a.same⟩,
  λp=>match τ p with|some q=>if q.getLast?=some i then(if H p=none then none else some q.dropLast)else none|none=>none,λp q b=>?_,l.imp (q:=[i]) (q':=[]) (λ_ _ h=>h) λc p xs f h=>?_⟩
 ·by_cases g:j=i
  ·subst g;rw[List.getElem?_set]at e;simp at e
  ·rw[List.getElem?_set_ne (Ne.symm g)]at e;obtain⟨w,hw,m⟩:=a.rep j d' e;refine⟨w,hw,m.imp (q:=[j]) (q':=[j]) (λ_ _ h=>h) λc p xs f h=>?_⟩;cases f with
   |ow =>
    refine⟨h.1,?_⟩;simp only[h.2];rw[cb (by simp;exact g)]
   |fz=>exact h
   |al=>exact h
   |sc=>exact h
 ·simp only[a.rt p o]
 ·cases z:τ p with
  |none=>simp only[z]at b;cases b
  |some k=>exact a.th p k z
 ·cases z:τ p with
  |none=>simp only[z]at b;cases b
  |some k=>exact a.t0 p k z
 ·cases z:τ p with
  |none=>simp only[z]at b;cases b
  |some k =>
   simp only[z]at b ⊢;by_cases hl:k.getLast?=some i
   ·rw[cc hl];exact⟨rfl,(λhR=>by have:=a.rt p hR;rw[z]at this;cases this),a.t0 p k z,a.th p k z⟩
   ·rw[cb hl]at b;cases b
 ·cases f with
  |ow =>
   refine⟨h.1,?_⟩;have r:H p≠none:=h.1.ne;simp only[h.2];rw[cc (by simp),cb r];simp
  |fz=>exact h
  |al=>exact h.2.elim
  |sc=>exact h
def Aa(is:aP)(ρ:aX)(j:Nat)(d:D)(h:(iM is ρ)[j]?=some (some d)):∃d',ρ[j]?=some (some d')/\d=(if j∈is then aE aI d' else d'):=by
 unfold iM at h;rw[List.getElem?_mapIdx]at h;cases q:ρ[j]? with
 |none=>rw[q]at h;exact nk h
 |some o =>
  rw[q]at h;cases o with
  |none=>simp at h
  |some d' =>
   refine⟨d',rfl,?_⟩;by_cases a:j∈is
   ·simp[a]at h ⊢;exact h.symm
   ·simp[a]at h ⊢;exact h.symm
open Classical in
def Ab(b:SI X F R τ ρ σ H)(es:aM H H'):
  ∃R' τ',(∀p,R p->R' p)/\SI X F R' τ' (iM fv ρ) σ H'/\∀τt:Addr->Option bu,(∀p q,τt p=some q->H p=none)->∀(k k':bu) (p:Addr) (xs:Nd) (f:Fl),nd X.K R (kN (gP X F) τ fv) τt H' k p xs f->nd X.K R' (λ_=>False) (λ_=>none) H' k' p xs (aI f):=by
 have g:=b.go es;have fresh:∀p,H p=none->kN (gP X F) τ fv p:=λp a=>⟨.inr (b.same.free a),λc i e=>absurd a (b.th p _ e)⟩
 refine⟨λp=>R p\/(H' p≠none/\kN (gP X F) τ fv p),λp=>if kN (gP X F) τ fv p then none else τ p,λp h=>.inl h,⟨by simp[iM,b.len],λj d' o=>?_,λp a=>?_,λp a=>?_,λp a=>?_,λp q d=>?_,λp q d=>?_,g.same⟩,λτt s k k' p xs f h=>?_⟩
 ·obtain⟨d0,r,e0⟩:=Aa _ _ _ _ o;obtain⟨w,hw,m⟩:=g.rep j d0 r;refine⟨w,hw,?_⟩;by_cases l:j∈fv
  ·rw[cc l]at e0;subst e0;refine Rep.map (q:=[j]) (q':=[j]) (λ_ _ h=>h) (λc p xs f h=>?_) m [] rfl;cases f with
   |ow =>
    refine⟨h.1,.inr ⟨h.1.ne,.inr (b.t0 p _ h.2),λu t n=>?_⟩⟩;rw[h.2]at n;have:=aaI List.getLast? (aaq n);simp at this;subst this;exact l
   |fz=>exact⟨h.1,.inl h.2⟩
   |al=>exact h.2.elim
   |sc=>exact h
  ·rw[cb l]at e0;subst e0;refine m.imp (q:=[j]) (q':=[j]) (λ_ _ h=>h) λc p xs f h=>?_;cases f with
   |ow =>
    refine⟨h.1,?_⟩;show(if kN (gP X F) τ fv p then none else τ p)=some (c++[j]);rw[cb (λz=>l (z.2 c j h.2))];exact h.2
   |fz=>exact⟨h.1,.inl h.2⟩
   |al=>exact h.2.elim
   |sc=>exact h
 ·rcases a with a|a
  ·simp only[b.rt p a];split<;>rfl
  ·rw[cc a.2]
 ·rcases a with a|a
  ·exact g.rh p a
  ·exact a.1
 ·rcases a with a|a
  ·exact b.rf p a
  ·exact a.2.1
 ·split at d
  ·cases d
  ·exact g.th p q d
 ·split at d
  ·cases d
  ·exact b.t0 p q d
 ·cases f with
  |ow=>exact⟨h.1,.inr ⟨h.1.ne,fresh p (s p _ h.2)⟩⟩
  |fz=>exact⟨h.1,.inl h.2⟩
  |al=>exact⟨h.1,.inr ⟨h.1.ne,h.2⟩⟩
  |sc=>exact h
def ua{v:V}{d:D}(i:SI X F R τ ρ σ H)(es:aM H H')(r:b_ X.K (gP X F) R τ fv H H' v d):
  ∃R' τ',(∀p,R p->R' p)/\SI X F R' τ' (iM fv ρ) σ H'/\Rep (bc X.K H') (nd X.K R' (λ_=>False) (λ_=>none) H') [] v (aE aI d):=by
 obtain⟨τt,g,a⟩:=r;obtain⟨R',τ',e,c,b⟩:=Ab (fv:=fv) i es;exact⟨R',τ',e,c,Rep.jd (λ_ _ h=>h) (b τt g) a _⟩
def wj(g:SI X F R τ ρ σ H)(es:aM H H')(r:cI X.K (gP X F) R τ fv H H' vs ds):
  ∃R' τ',(∀p,R p->R' p)/\SI X F R' τ' (iM fv ρ) σ H'/\aF (bc X.K H') (nd X.K R' (λ_=>False) (λ_=>none) H') [] 0 vs (aw aI ds):=by
 obtain⟨τt,e,a⟩:=r;obtain⟨R',τ',d,c,b⟩:=Ab (fv:=fv) g es;exact⟨R',τ',d,c,aF.jd (λ_ _ h=>h) (b τt e) a _ _⟩
def gL{v:V}{d:D}(h:Rep (bc X.K H) (nd X.K R (λ_=>False) (λ_=>none) H) [] v d):iV X R τ' H v d:=⟨λ_=>none,λ_ _ h=>by simp at h,h⟩
open Classical in
def KO{e:CE}{v:V}{d:D}(c:SI X F R τ ρ σ H)(es:aM H H')(r:b_ X.K (gP X F) R τ (iE e) H H' v d):
  ∃R' τ',(∀p,R p->R' p)/\SI X F R' τ' (keep e d ρ).2 σ H'/\iV X R' τ' H' v (keep e d ρ).1:=by
 unfold keep;by_cases b:bh bK d=true
 ·rw[cc b];obtain⟨R',τ',n,m,l⟩:=ua c es r;exact⟨R',τ',n,m,gL l⟩
 ·obtain⟨τt,o,i⟩:=r;rw[cb b];refine⟨R,τ,λ_ h=>h,c.go es,λp=>if H' p=none then none else τt p,λp q g=>?_,?_⟩
  ·try dsimp only at g
   split at g
   ·cases g
   ·rename_i j;have a:=o p q g;refine⟨?_,λhR=>c.rh p hR a,c.same.free a,j⟩;cases z:τ p with
    |none=>rfl
    |some k=>exact absurd a (c.th p k z)
  ·have s:bh bK d=false:=by simpa using b
   have st:∀{k:bu} {v:V} {d:D},Rep (bc X.K H') (nd X.K R (kN (gP X F) τ (iE e)) τt H') k v d->bh bK d=false->Rep (bc X.K H') (nd X.K R (λ_=>False) (λp=>if H' p=none then none else τt p) H') k v d:=by
    intro k v d h b;exact Rep.kY (P:=bK) (λ_ _ h=>h) (λk p xs f a h=>by
     cases f with
     |ow=>exact⟨h.1,by show(if H' p=none then none else τt p)=_;rw[cb (h.1.ne)];exact h.2⟩
     |fz=>exact h
     |al=>cases a
     |sc=>exact h) h b
   exact st i s
open Classical in
inductive tK(X:Cx)(F:aj)(Φ:aT)(c:CE)(σ:St)(H:Hp)(Q:VK):Prop where
 |mk (R:aj) (τ:Addr->Option bu) (ρ:aX) (r:D×aX) (h1:SI X F R τ ρ σ H) (h2:jD Φ c ρ=ok r) (h3:∀v H' R' τ',aM H H'->(∀p,R p->R' p)->SI X F R' τ' r.2 σ H'->iV X R' τ' H' v r.1->Q v H')
end
theorem kI{env:Env}:∀(names:List (Str×NameKind)) (b:List (Str×Addr)),(∀x,(x,NameKind.free)∈names->∃c,env.cells.lookup x=some c) ->
  ∃d,(forIn names b (λ(y:Str×NameKind) (cs:List (Str×Addr))=>do
    let (name,kind):=y
    let mut cs:=cs
    if kind==.free then cs:=(name,<- cellOf env name)::cs
    pure (ForInStep.yield cs)):Sem (List (Str×Addr)))=pure d /\
   (∀x c,d.lookup x=some c->b.lookup x=some c\/(env.cells.lookup x=some c/\(x,NameKind.free)∈names))/\(∀x,((x,NameKind.free)∈names\/(∃c,b.lookup x=some c))->∃c,d.lookup x=some c)
 |[],b,_=>⟨b,rfl,λx c h=>.inl h,λx h=>h.elim (λh=>nomatch h) id⟩
 | (n,kd)::names,b,h=>by
  by_cases j:kd=.free
  ·subst j;obtain⟨c,m⟩:=h n aak;obtain⟨d,e,l,k⟩:=kI names ((n,c)::b) (λx a=>h x (aai _ a));refine⟨d,?_,λx g a=>?_,λx a=>?_⟩
   ·rw[lb];have e0:cellOf env n=pure c:=by unfold cellOf;rw[m]
    simp only[hY,if_true,e0,pure_bind];exact e
   ·rcases l x g a with z|z
    ·by_cases i:x=n
     ·subst i;simp at z;subst z;exact .inr ⟨m,aak⟩
     ·rw[eG]at z;have:(x==n)=false:=by simpa using i
      rw[this]at z;exact .inl z
    ·exact .inr ⟨z.1,aai _ z.2⟩
   ·refine k x ?_;rcases a with a|⟨g,a⟩
    ·rcases List.mem_cons.mp a with z|z
     ·cases z;exact .inr ⟨c,by simp⟩
     ·exact .inl z
    ·by_cases i:x=n
     ·subst i;exact .inr ⟨c,by simp⟩
     ·refine .inr ⟨g,?_⟩;rw[eG];have:(x==n)=false:=by simpa using i
      rw[this];exact a
  ·obtain⟨d,e,l,k⟩:=kI names b (λx a=>h x (aai _ a));have o:(kd==NameKind.free)=false:=by simpa using j
   refine⟨d,?_,λx g a=>(l x g a).imp id λz=>⟨z.1,aai _ z.2⟩,λx a=>k x ?_⟩
   ·rw[lb];simp only[o,fy,if_false,pure_bind];exact e
   ·rcases a with a|a
    ·rcases List.mem_cons.mp a with z|z
     ·cases z;exact absurd rfl j
     ·exact .inl z
    ·exact .inr a
variable {env:Env}
def yN{sc:Scope}(h:∀x,(x,NameKind.free)∈sc.names->∃c,env.cells.lookup x=some c):
  ∃a,closureFor sc env=pure a/\(∀x c,a.lookup x=some c->env.cells.lookup x=some c)/\(∀x,(x,NameKind.free)∈sc.names->∃c,a.lookup x=some c):=by
 obtain⟨a,e,g,d⟩:=kI (env:=env) sc.names [] h;refine⟨a,?_,λx c b=>(g x c b).elim (λz=>by simp at z) (·.1),λx b=>d x (.inl b)⟩;unfold closureFor;simp only[bind_pure];exact e
variable {P prog:aK}{e1 e2 kc iter o target tg value:Expr}{w:World}
def uh{A:aN}{R:Result->Shared->Prop}{s:Shared}{q:Expr}{p:ao}{scope:Scope}{it t:Value}(I:Nat->Shared->Prop)
  (turn:∀n s,I n s->wpAny (model prog w) A (pyNext it) (λr a=>match r with
   |none=>R (.ok .next) a
   |some v=>wpAny (model prog w) A (letOwnedTupleGo target it v) (λ_ a=>wpAny (model prog w) A (assign target env v) (λ_ d =>
     wpAny (model prog w) A (forIn p true λc r=>if r=true then do let ok <- isTrue c env (eval c env);pure (ForInStep.yield ok)else pure (ForInStep.yield r)) (λok b =>
      if ok=true then wpAny (model prog w) A (eval q env) (λx j =>
       wpAny (model prog w) A (call (.builtin "list.append") [t,x]) (λ_ i=>∃m,m<n/\I m i) (λ_ _=>False) j) (λ_ _=>False) b
      else ∃m,m<n/\I m b) (λ_ _=>False) d) (λ_ _=>False) a) (λ_ _=>False) a) (λ_ _=>False) s)
  (n:Nat) (h:I n s) :
  codeAny (model prog w) A (.compLoop (.ListComp q [⟨target,iter,p,0⟩] scope pos) 0 it t env) R s:=by
 refine codeAny_loop rfl I (λn s z=>?_) n h;show wpAny _ A ((compTurn (.ListComp q [⟨target,iter,p,0⟩] scope pos) 0 it t env).onRaise (λx=>do noteFrame x env;theTreesLotGoes x)) _ _ s;refine wpAny_noted ?_;rw[compTurn_list];refine aaa (acv (aaa (aav (turn n s z) (λr a l=>?_) λ_ _ g=>g.elim)));cases r with
 |none=>exact aaf l
 |some v =>
  refine aaa (aav l (λ_ d e=>?_) λ_ _ g=>g.elim);refine aaa (aav e (λ_ d e=>aaa (aav e (λok b k=>?_) λ_ _ g=>g.elim)) λ_ _ g=>g.elim);cases ok with
  |false=>exact aaf ⟨rfl,k⟩
  |true =>
   exact aaa (aaa (aav k (λx j y=>aaa (aav y (λ_ i u=>aaf (aaf ⟨rfl,u⟩)) λ_ _ g=>g.elim)) λ_ _ g=>g.elim))
noncomputable def fg(X:Cx)(N':aq)(scope:Scope)(cl:List (Str×Addr))(C:Addr)(s₀:Shared)(H₀:Hp)(fp:bj):Cx :=
 { X with N:=N',s₀:=s₀,H₀:=H₀,env:=compEnvC scope cl C X.env,outer:=X.stack,stack:=X.stack,ex:=fp,fn:=λ_=>false,pn:=[],xe:=λ_ _=>False }
theorem gq{env:Env}:∀{names:List (Str×NameKind)} {x:Str} {c:NameKind},(names.map λ(n,k)=>if (k==NameKind.free&&env.scope.kind==.function&&env.kindOf n==some .cell)then(n,NameKind.cell)else(n,k)).lookup x=some c ->
  names.lookup x=some c\/(c=.cell/\names.lookup x=some .free)
 |[],_,_,h=>by simp at h
 | (n,k)::r,x,c,h=>by
  rw[dx]at h;cases a:x==n with
  |true =>
   by_cases b:(k==NameKind.free&&env.scope.kind==.function&&env.kindOf n==some .cell)=true
   ·simp only[b,if_true,eG,a]at h;cases h;simp only[cM,mY]at b;refine .inr ⟨rfl,?_⟩;rw[eG,a,b.1.1]
   ·have d:(k==NameKind.free&&env.scope.kind==.function&&env.kindOf n==some .cell)=false:=by simpa using b
    simp only[d,fy,if_false,eG,a]at h;cases h;exact .inl (by rw[eG,a])
  |false =>
   have:List.lookup x (r.map λ(n,k)=>if (k==NameKind.free&&env.scope.kind==.function&&env.kindOf n==some .cell)then(n,NameKind.cell)else(n,k))=some c:=by
    by_cases b:(k==NameKind.free&&env.scope.kind==.function&&env.kindOf n==some .cell)=true
    ·simp only[b,if_true,eG,a]at h;exact h
    ·have d:(k==NameKind.free&&env.scope.kind==.function&&env.kindOf n==some .cell)=false:=by simpa using b
     simp only[d,fy,if_false,eG,a]at h;exact h
   rw[eG,a];exact gq this
theorem dW{env:Env}:∀{names:List (Str×NameKind)} {x:Str},names.lookup x=some .free ->
  (names.map λ(n,k)=>if (k==NameKind.free&&env.scope.kind==.function&&env.kindOf n==some .cell)then(n,NameKind.cell)else(n,k)).lookup x=some .free \/
  (names.map λ(n,k)=>if (k==NameKind.free&&env.scope.kind==.function&&env.kindOf n==some .cell)then(n,NameKind.cell)else(n,k)).lookup x=some .cell
 |[],_,h=>by simp at h
 | (n,k)::r,x,h=>by
  rw[dx];cases a:x==n with
  |true =>
   rw[eG,a]at h;cases h;by_cases b:(NameKind.free==NameKind.free&&env.scope.kind==.function&&env.kindOf n==some .cell)=true
   ·simp only[b,if_true,eG,a];exact .inr trivial
   ·have c:(NameKind.free==NameKind.free&&env.scope.kind==.function&&env.kindOf n==some .cell)=false:=by simpa using b
    simp only[c,fy,if_false,eG,a];exact .inl trivial
  |false =>
   rw[eG,a]at h;by_cases b:(k==NameKind.free&&env.scope.kind==.function&&env.kindOf n==some .cell)=true
   ·simp only[b,if_true,eG,a];exact dW h
   ·have c:(k==NameKind.free&&env.scope.kind==.function&&env.kindOf n==some .cell)=false:=by simpa using b
    simp only[c,fy,if_false,eG,a];exact dW h
def ez{names:List (Str×NameKind)}{x:Str}{a:NameKind}(h:names.lookup x=some a):(x,a)∈names:=abf h
structure kU(S:Sx)(n:Nat)(t:Tg)(caps:aP)(target:Expr)(sc:Scope):Prop where
 kind:sc.kind=.function
 Ed:∀y∈sc.names,y.2≠.cell
 loc:∀y∈sc.names,y.2=.local->sc.names.lookup y.1=some .local
 free:∀x,(x,NameKind.free)∈sc.names->S.sc.names.lookup x=some .cell\/S.sc.names.lookup x=some .free
 n:n=(cA target).length
 tl:∀x∈cA target,sc.names.lookup x=some .local
 nd:(cA target++hJ S caps).Nodup
 du:∀i∈caps,∃x,S.N[i]?=some x/\sc.names.lookup x=some .free
 tg:(∃x p,t=.nm 0/\target=.Name x p)\/(∃es k p,t=.tp (List.range es.length)/\target=.Tuple es k p/\es.all isNm=true)
def r6{n:Nat}{t:Tg}{sc:Scope}(h:uq S n t caps target sc=true):kU S n t caps target sc:=by
 unfold uq at h;simp only[cM,decide_eq_true_eq,gv,iN]at h;obtain⟨⟨⟨⟨⟨⟨C,b⟩,B⟩,v⟩,u⟩,s⟩,j⟩:=h;refine⟨C,λy a=>(b y a).1.1,λy a q=>?_,λx l=>?_,B,v,u,λi r=>?_,?_⟩
 ·rcases(b y a).1.2 with z|z
  ·exact absurd q z
  ·exact z
 ·rcases(b _ l).2 with (z|z)|z
  ·exact absurd rfl z
  ·exact .inl z
  ·exact .inr z
 ·have:=s i r;split at this
  ·rename_i x e;exact⟨x,e,aad this⟩
  ·cases this
 ·cases t with
  |nm i =>
   obtain⟨d,c⟩:=aH j;obtain rfl:i=0:=aad d;obtain⟨x,p,rfl⟩:=nW c;exact .inl ⟨x,p,rfl,rfl⟩
  |tp is =>
   obtain⟨E,m,g⟩:=bt j;obtain⟨k,p,rfl⟩:=k7 m;obtain⟨d,c⟩:=aH g;obtain rfl:is=_:=aad d;exact .inr ⟨E,k,p,rfl,rfl,c⟩
theorem wV{S:Sx}:∀{caps:aP},(∀i∈caps,∃x,S.N[i]?=some x)->(hJ S caps).length=caps.length/\∀(j i:Nat),caps[j]?=some i->(hJ S caps)[j]?=S.N[i]?
 |[],_=>⟨rfl,λj i h=>by simp at h⟩
 |i::caps,h=>by
  obtain⟨x,b⟩:=h i aak;obtain⟨d,c⟩:=wV (caps:=caps) λj a=>h j (aai _ a);have e:hJ S (i::caps)=x::hJ S caps:=by unfold hJ;rw[ij,b]
  rw[e];refine⟨by simp[d],λj k a=>?_⟩;cases j with
  |zero=>simp at a;subst a;simp[b]
  |succ j=>simp at a ⊢;exact c j k a
variable {base h h' h₁:Heap}
section
variable {X:Cx}{S:Sx}{k:Nat}{Φ:aT}{pins:av}{σ:St}{H2:Hp}{s₂:Shared}
noncomputable def qG(n:Nat)(caps:aP)(σ:St):St:=List.replicate n none++caps.map λi=>σ[i]?.getD none
noncomputable def fP(a:az)(n:Nat):Obj:={ cls:=.type "list",data:=.seq a.toArray n }
def JR{n:Nat}{t:Tg}{sc:Scope}{cl:List (Str×Addr)}(L:Lk X S k Φ)(m:kU S n t caps target sc)(a:Inv X pins σ H2 s₂)
  (j:∀x c,cl.lookup x=some c->X.env.cells.lookup x=some c) (l:∀x,(x,NameKind.free)∈sc.names->∃c,cl.lookup x=some c) (i:∀b∈fp,qq X pins H2 b) (u:∀b∈fp,b<s₂.heap.objs.size) :
  (fg X (cA target++hJ S caps) sc cl (s₂.heap.objs.size+1) s₂ H2 fp).Ok:=by
 have s:=a.kv;refine⟨a.ok.mod,m.kind,a.ok.glob,a.ok.blt,acF _,λx y c r q=>a.ok.inj x y c (j x c r) (j y c q),λx p=>?_,(λ_ _ z=>by cases z),a.ok.hd,a.ok.frames,.inl rfl,λb d=>⟨?_,λx c e=>(i b d).2.2.2.2.1 x c (j x c e)⟩,a.bs,aaG a.ok.Gh a.sz,λb o e d=>?_,λb d z=>?_,a.stack,a.lj⟩
 ·have g:(relabel sc X.env).names.lookup x=some .cell\/(relabel sc X.env).names.lookup x=some .free:=p;rcases g with g|g
  ·rcases gq g with z|z
   ·exact absurd rfl (m.Ed _ (ez z))
   ·exact l x (ez z.2)
  ·rcases gq g with z|z
   ·exact l x (ez z)
   ·cases z.1
 ·exact aan (aaE (u b d))
 ·rcases(i b d).2.2.2.1 with z|z
  ·exact a.ok.vM b o e z
  ·exact absurd (aal (aah e) (aaG a.ok.Gh z)) (aau _)
 ·rcases List.mem_cons.mp (s b z)with w|w
  ·exact(i b d).2.1 w
  ·exact(i b d).2.2.1 w
def EJ{n:Nat}{t:Tg}{sc:Scope}{cl:List (Str×Addr)}{tk:Nat}(L:Lk X S k Φ)(d:kU S n t caps target sc)(a:Inv X pins σ H2 s₂)
  (y:∀x c,cl.lookup x=some c->X.env.cells.lookup x=some c) (Z:∀x,(x,NameKind.free)∈sc.names->∃c,cl.lookup x=some c) (BJ:∀b∈fp,qq X pins H2 b) (NQ:∀b∈fp,b<s₂.heap.objs.size)
  (Cr:h₁.Ns (s₂.heap.objs.size+1) λ_=>none) (old:∀b o,s₂.heap.get? b=some o->h₁.get? b=some o) (gJ:h₁.get? s₂.heap.objs.size=some (fP [] 0)) :
  Inv (fg X (cA target++hJ S caps) sc cl (s₂.heap.objs.size+1) s₂ H2 fp) [(s₂.heap.objs.size,fP [] 0)] (qG n caps σ) H2 { s₂ with heap:=h₁,toks:=tk }:=by
 have nL:∀i∈caps,∃x,S.N[i]?=some x:=λi g=>let ⟨x,e,_⟩:=d.du i g;⟨x,e⟩;obtain⟨Y,W⟩:=wV nL;refine⟨JR L d a y Z BJ NQ,rfl,a.bare,Un.kept old,⟨_,Cr,λi x v e1 e2 e3=>?_⟩,λx c e=>?_,a.cD.fresh (acF _),λx c e=>a.gw x c (y x c e),λp hp=>?_,a.cD.kept old,?_⟩
 ·unfold qG at e2;have g:n<=i:=by
   by_cases g:i<n
   ·rw[List.getElem?_append_left (by simpa using g),List.getElem?_replicate,cc g]at e2;cases e2
   ·left
  have C:(cA target++hJ S caps)[i]?=some x:=e1;rw[List.getElem?_append_right (by rw[<- d.n];exact g),<- d.n]at C;rw[List.getElem?_append_right (by simpa using g),fc,List.getElem?_map]at e2;cases B:caps[i - n]? with
  |none=>rw[B]at e2;cases e2
  |some l =>
   rw[B]at e2;rw[W _ _ B]at C;obtain⟨x',Zk,E⟩:=d.du l (aas B);rw[Zk]at C;cases C;have U:σ[l]?=some (some v):=by
    have s:σ[l]?.getD none=some v:=aaq e2;cases q:σ[l]? with
    |none=>rw[q]at s;cases s
    |some o=>rw[q]at s;simp at s;rw[s]
   have Ye:Pl X.env.scope x:=by
    unfold Pl;rw[L.sc];rcases d.free x (ez E)with z|z
    ·exact .inr (.inl z)
    ·exact .inr (.inr z)
   obtain⟨m,hn,hl⟩:=a.loc;obtain⟨u,r,lk⟩:=hl l x v (by rw[L.N];exact Zk) U Ye;refine⟨u,r,.inr ⟨?_,?_⟩⟩
   ·rcases dW (env:=X.env) E with z|z
    ·exact .inr z
    ·exact .inl z
   ·have O:∃c,X.env.cells.lookup x=some c/\s₂.heap.IsCell c (some u):=by
     rcases lk with ⟨z,_⟩|⟨_,z⟩
     ·have I:X.env.scope.names.lookup x=some .local:=z;rw[L.sc]at I;rcases d.free x (ez E)with w|w<;>(rw[w]at I;cases I)
     ·exact z
    obtain⟨c,ec,o,J,M⟩:=O;obtain⟨c',j⟩:=Z x (ez E);have:=y x c' j;rw[ec]at this;cases this;exact⟨c,j,o,old _ _ J,M⟩
 ·obtain⟨v,o,J,M⟩:=a.cell x c (y x c e);exact⟨v,o,old _ _ J,M⟩
 ·have kj:p=(s₂.heap.objs.size,fP [] 0):=by simpa [fg]using hp
  subst kj;refine⟨gJ,a.cD.fresh (aaj _),aan (abm _),λz=>?_,λv z=>by cases z⟩;rcases List.mem_cons.mp (a.kv _ z)with w|w
  ·exact absurd w (aat a.lt)
  ·exact a.MU (aaj _) w
 ·show(qG n caps σ).length=(cA target++hJ S caps).length;unfold qG;rw[c8,c8,fc,b4,Y,d.n]
end
theorem aF.snoc{T:m9}{N:jk}{k:bu}:∀{n:Nat} {vs:ah} {ds:aa} {v:V} {d:D},aF T N k n vs ds->Rep T N ((n+ds.length)::k) v d->aF T N k n (vs++[v]) (ds++[d])
 |n,_,_,_,_,.nil,h=>.cons h .nil
 |n,_,_,_,_,.cons (ds:=ds) h t,r=>.cons h (aF.snoc t (by
  have e:n+(ds.length+1)=n+1+ds.length:=by left
  rw[cz,e]at r;exact r))
open Classical in
theorem cI.snoc{K:ak}{G R:aj}{τ:Addr->Option bu}{fv:aP}{H H1 H2:Hp}{v:V}{d:D}{vs:ah}{ds:aa}(e1:aM H H1)(e2:aM H1 H2)(h:cI K G R τ fv H H1 vs ds)(t:b_ K G R τ fv H1 H2 v d):
  cI K G R τ fv H H2 (vs++[v]) (ds++[d]):=by
 obtain⟨b,l,j⟩:=h;obtain⟨a,k,i⟩:=t;refine⟨λp=>if H1 p=none then(a p).map (· ++ [ds.length])else b p,λp q e=>?_,aF.snoc (j.imp (q:=[]) (q':=[]) (λ_ _ h=>bc.same e2 h) λc p xs f h=>?_) ((Nat.zero_add ds.length).symm▸i.imp (q:=[]) (q':=[ds.length]) (λ_ _ h=>h) λc p xs f h=>?_)⟩
 ·replace e:(if H1 p=none then(a p).map (· ++ [ds.length])else b p)=some q:=e;by_cases g:H1 p=none
  ·exact e1.free g
  ·rw[cb g]at e;exact l p q e
 ·have h':=nd.same e2 h;cases f with
  |ow =>
   refine⟨h'.1,?_⟩;show(if H1 p=none then(a p).map (· ++ [ds.length])else b p)=_;rw[cb (h.1.ne)];exact h.2
  |fz=>exact h'
  |al=>exact h'
  |sc=>exact h'
 ·cases f with
  |ow =>
   refine⟨h.1,?_⟩;show(if H1 p=none then(a p).map (· ++ [ds.length])else b p)=_;rw[cc (k p _ h.2),h.2];simp
  |fz=>exact h
  |al=>exact h
  |sc=>exact h
structure Yl(K:ak)(J:It)(R:aj)(H1:Hp)(items:aa):Prop where
 go:∀i H',aM H1 H'->i<items.length->J.go i H'
 uW:∀i H' x j7,aM H1 H'->i<items.length->J.uW i H' x j7->aM H' j7/\∃d,items[i]?=some d/\Rep (bc K j7) (nd K R (λ_=>False) (λ_=>none) j7) [] x d
 stop:∀i H',aM H1 H'->items.length<=i->J.stop i H'
variable {C i1 i2 l1 l2:Addr}{s₂:Shared}
section
variable {X:Cx}{S:Sx}{k:Nat}{F:aj}{Φ:aT}
def mh(X:Cx)(F:aj)(τ:Addr->Option bu)(fv:aP)(H2:Hp)(p:Addr):Prop:=H2 p≠none/\kN (gP X F) τ fv p
def xX(a:SI X F R τ ρ σ H)(b:∀p q,τt p=some q->H p=none)(hs:∀i∈fv,i∈fv')(g d:bu)(p:Addr)(xs:Nd)(f:Fl)
  (h:nd X.K R (kN (gP X F) τ fv) τt H2 g p xs f):nd X.K (mh X F τ fv' H2) (λ_=>False) (λ_=>none) H2 d p xs (aI f):=by
 cases f with
 |ow=>exact⟨h.1,h.1.ne,.inr (a.same.free (b p _ h.2)),λc i e=>absurd (b p _ h.2) (a.th p _ e)⟩
 |fz=>exact⟨h.1,h.1.ne,a.rf p h.2,λc i e=>by rw[a.rt p h.2]at e;cases e⟩
 |al=>exact⟨h.1,h.1.ne,h.2.mono hs⟩
 |sc=>exact h
def Ha{a:Addr}{q:bu}(hl:dq X.K H1 a xs)(rs:aF (bc X.K H1) (nd X.K R (λ_=>False) (λ_=>none) H1) q 0 xs items):Yl X.K (Qp X.K a) R H1 items where
 go:=λi H' e b=>⟨xs,xs[i]'(by rw[rs.length];exact b),e.seq hl,aap _⟩
 uW:=λi H' x l e b y=>by
  obtain⟨rfl,y⟩:=y;obtain⟨d,j,c⟩:=rs.qN (y xs (e.seq hl));refine⟨aM.refl _,d,j,?_⟩;have:=Rep.jd (g:=id) (λ_ _ h=>h) nd.pK c [];rw[fB]at this;exact this.imp (λ_ _ h=>bc.same e h) λ_ _ _ _ h=>nd.same e h
 stop:=λi H' e b=>⟨xs,e.seq hl,by rw[rs.length];exact b⟩
def Lz{a:Addr}{q:bu}(hl:bc X.K H1 a xs)(rs:aF (bc X.K H1) (nd X.K R (λ_=>False) (λ_=>none) H1) q 0 xs items):Yl X.K (Qo X.K a) R H1 items where
 go:=λi H' e b=>⟨xs,xs[i]'(by rw[rs.length];exact b),bc.same e hl,aap _⟩
 uW:=λi H' x l e b y=>by
  obtain⟨rfl,y⟩:=y;obtain⟨d,j,c⟩:=rs.qN (y xs (bc.same e hl));refine⟨aM.refl _,d,j,?_⟩;have:=Rep.jd (g:=id) (λ_ _ h=>h) nd.pK c [];rw[fB]at this;exact this.imp (λ_ _ h=>bc.same e h) λ_ _ _ _ h=>nd.same e h
 stop:=λi H' e b=>⟨xs,bc.same e hl,by rw[rs.length];exact b⟩
def LA{lo:Int}{n:Nat}:Yl X.K (Cw lo n) R H1 ((List.range n).map λ(k:Nat)=>D.int (lo+(k:Int))) where
 go:=λi H' e a=>by simpa [Cw]using a
 uW:=λi H' x c e a y=>by
  obtain⟨rfl,rfl⟩:=y;have b:i<n:=by simpa using a
  exact⟨aM.refl _,.int (lo+i),by rw[List.getElem?_map,List.getElem?_range b];rfl,.int _⟩
 stop:=λi H' e a=>by simpa [Cw]using a
def C_{n:Nat}{t:Tg}{sc:Scope}{cl:List (Str×Addr)}(m:SI X F R τ ρ σ H2)(hs:∀i∈caps,i∈fv):
  SI (fg X (cA target++hJ S caps) sc cl C s₂ H2 fp) (kN (gP X F) τ fv) (mh X F τ fv H2) (λ_=>none) (bx n caps ρ) (qG n caps σ) H2:=by
 refine⟨by simp[bx,qG],λi d a=>?_,λ_ _=>rfl,λp h=>h.1,λp h=>.inl h.2,λ_ _ h=>by simp at h,λ_ _ h=>by simp at h,aM.refl _⟩;unfold bx at a;have j:n<=i:=by
  by_cases j:i<n
  ·rw[List.getElem?_append_left (by simpa using j),List.getElem?_replicate,cc j]at a;cases a
  ·left
 rw[List.getElem?_append_right (by simpa using j),fc,List.getElem?_map]at a;cases l:caps[i - n]? with
 |none=>rw[l]at a;exact nk a
 |some b =>
  rw[l]at a;have g:(ρ[b]?.getD none).map (aE aI)=some d:=aaq a;have u:∃d0,ρ[b]?=some (some d0)/\aE aI d0=d:=by
   cases q:ρ[b]? with
   |none=>rw[q]at g;cases g
   |some o =>
    cases o with
    |none=>rw[q]at g;cases g
    |some d0=>rw[q]at g;exact⟨d0,rfl,aaq g⟩
  obtain⟨d0,y,rfl⟩:=u;obtain⟨v,s,r⟩:=m.rep b d0 y;refine⟨v,?_,Rep.jd (λ_ _ h=>h) (λB z p xs f h=>?_) ((r.imp (q:=[b]) (q':=[b]) (N':=λq p xs f=>nd X.K R (λ_=>False) τ H2 q p xs f/\(f=.ow->∃c,q=c++[b])) (λ_ _ h=>h) λc p xs f h=>⟨h,λ_=>⟨c,rfl⟩⟩)) [i]⟩
  ·unfold qG;rw[List.getElem?_append_right (by simpa using j),fc,List.getElem?_map,l];simp[s]
  ·obtain⟨h,x⟩:=h;cases f with
   |ow =>
    obtain⟨c,rfl⟩:=x rfl;refine⟨h.1,h.1.ne,.inr (m.t0 p _ h.2),λI E e=>?_⟩;rw[h.2]at e;have:=aaI List.getLast? (aaq e);simp at this;subst this;exact hs _ (aas l)
   |fz=>exact⟨h.1,h.1.ne,m.rf p h.2,λc i e=>by rw[m.rt p h.2]at e;cases e⟩
   |al=>exact h.2.elim
   |sc=>exact h
theorem Ef:∀{es:ao},es.all isNm=true->∃xs:List (Str×Pos),es=xs.map λx=>Expr.Name x.1 x.2
 |[],_=>⟨[],rfl⟩
 |e::es,h=>by
  rw[gc,cM]at h;obtain⟨xs,rfl⟩:=Ef h.2;obtain⟨x,p,rfl⟩:=nW h.1;exact⟨(x,p)::xs,rfl⟩
def xS(xs:List (Str×Pos)):(xs.map λx=>Expr.Name x.1 x.2).filterMap (λe=>match e with|.Name x _=>some x|_=>none)=xs.map (·.1):=by
 induction xs with
 |nil=>rfl
 |cons x xs a=>simp[a]
def Fp(i:Nat):Nat->J9
 |0=>Og
 |n+1=>Fq (pJ i) (Fp (i+1) n)
theorem zA{X:Cx}(a:X.N.Nodup):∀(xs:List (Str×Pos)) (i:Nat),(∀(j:Nat) x,xs[j]?=some x->X.N[i+j]?=some x.1/\X.env.scope.names.lookup x.1=some .local) ->
  Qm X (xs.map λx=>Expr.Name x.1 x.2) (Fp i xs.length)/\(assignEach (xs.map λx=>Expr.Name x.1 x.2) X.env).length=xs.length/\(assignEach (xs.map λx=>Expr.Name x.1 x.2) X.env).findIdx? (·.1)=none
 |[],_,_=>⟨zy,rfl,rfl⟩
 |x::xs,i,h=>by
  obtain⟨g,e,d⟩:=zA a xs (i+1) λj y c=>by
   have:=h (j+1) y (by simpa using c)
   rwa [show i+(j+1)=i+1+j by left]at this
  obtain⟨l,b⟩:=h 0 x rfl;refine⟨vF (tf a l (.inl b) (.inr b)) g rfl,?_,?_⟩
  ·show(_::assignEach _ X.env).length=_;rw[cz,e];rfl
  ·show(((false,assign (.Name x.1 x.2) X.env)::assignEach (xs.map λx=>Expr.Name x.1 x.2) X.env)).findIdx? (·.1)=none;rw[List.findIdx?_cons];simp[d]
end
section
variable {X:Cx}{F R:aj}{τ:Addr->Option bu}{ρ:aX}{σ σ':St}{H:Hp}
def SI.Q8{i:Nat}{v:V}{d:D}(a:SI X F R τ ρ σ H)(k:Rep (bc X.K H) (nd X.K R (λ_=>False) (λ_=>none) H) [] v d)(g:i<ρ.length):SI X F R τ (ρ.set i (some d)) (σ.set i (some v)) H:=by
 refine⟨by simp[a.len],λj d' b=>?_,a.rt,a.rh,a.rf,a.th,a.t0,a.same⟩;by_cases e:j=i
 ·subst e;rw[List.getElem?_set_self g]at b;cases b;refine⟨v,abh (by rw[<- a.len];exact g),k.imp (q':=[j]) (λ_ _ h=>h) λc p xs f h=>?_⟩;cases f with
  |ow=>exact nomatch h.2
  |fz=>exact h
  |al=>exact h
  |sc=>exact h
 ·rw[List.getElem?_set_ne (Ne.symm e)]at b;obtain⟨w,hw,l⟩:=a.rep j d' b;exact⟨w,by rw[List.getElem?_set_ne (Ne.symm e)];exact hw,l⟩
def SI.sig(a:SI X F R τ ρ σ H)(hl:σ'.length=σ.length)(h:∀(i:Nat) d,ρ[i]?=some (some d)->σ'[i]?=σ[i]?):SI X F R τ ρ σ' H :=
 ⟨by rw[hl];exact a.len,λi d b=>let ⟨v,hv,r⟩:=a.rep i d b;⟨v,by rw[h i d b];exact hv,r⟩,a.rt,a.rh,a.rf,a.th,a.t0,a.same⟩
theorem oU{Q:St->Hp->Prop}(a:St)(b:Nat):∀{m i:Nat} {vs:ah} {ds:aa} {c:bu} {q:Nat} {σ:St} {ρ ρ':aX},i+m=b->aF (bc X.K H) (nd X.K R (λ_=>False) (λ_=>none) H) c q vs ds->SI X F R τ ρ σ H->ic (List.range' i m) ds ρ=ok ρ' ->
  σ.length=a.length->(∀j,b<=j->σ[j]?=a[j]?)->(∀σ',σ'.length=a.length->(∀j,b<=j->σ'[j]?=a[j]?)->SI X F R τ ρ' σ' H->Q σ' H)->Fp i m vs σ H Q
 |0,_,_,_,_,_,σ,_,_,_,.nil,Si,e,h1,h2,hq=>by
  cases e;exact⟨rfl,hq σ h1 h2 Si⟩
 |0,_,_,_,_,_,_,_,_,_,.cons _ _,_,e,_,_,_=>by cases e
 |m+1,_,_,_,_,_,_,_,_,_,.nil,_,e,_,_,_=>by cases e
 |m+1,i,_,_,_,_,σ,ρ,_,him,.cons (v:=v) (d:=d) h t,Si,e,h1,h2,hq=>by
  change (if _ then _ else _)=_ at e;split at e
  ·rename_i g;have l:=Si.Q8 (i:=i) (Rep.mw h) g;refine⟨_,_,rfl,oU a b (by left) t l e (by simpa using h1) (λj k=>?_) hq⟩;rw[List.getElem?_set_ne (by left)];exact h2 j k
  ·cases e
end
section
variable {X:Cx}{S:Sx}{k:Nat}{F:aj}{Φ:aT}
def LV{n:Nat}{t:Tg}{sc:Scope}{cl:List (Str×Addr)}(Te:X.calm=true)(q:kU S n t caps target sc):
  ∃g,PG (fg X (cA target++hJ S caps) sc cl C s₂ H2 fp) target g/\∀(z R':aj) (x:V) (d:D) (b:St) (m:Hp) (Q:St->Hp->Prop) (c ρ1:aX),
   SI (fg X (cA target++hJ S caps) sc cl C s₂ H2 fp) z R' (λ_=>none) c b m->Rep (bc X.K m) (nd X.K R' (λ_=>False) (λ_=>none) m) [] x d->bh cO d=false->bU t d c=ok ρ1 ->
   (∀l,l.length=b.length->(∀j,n<=j->l[j]?=b[j]?)->SI (fg X (cA target++hJ S caps) sc cl C s₂ H2 fp) z R' (λ_=>none) ρ1 l m->Q l m)->g x b m Q:=by
 have L:∀x∈cA target,(relabel sc X.env).names.lookup x=some .local:=λx Z=>lookup_relabel_local (q.tl x Z);rcases q.tg with ⟨x,p,rfl,rfl⟩|⟨es,r,p,rfl,rfl,BK⟩
 ·have O:n=1:=q.n;subst O;refine⟨pJ 0,tf q.nd rfl (.inl (L x (List.mem_singleton.mpr rfl:x∈[x]))) (.inr (L x (List.mem_singleton.mpr rfl:x∈[x]))),λz R' v d b m Q c ρ1 J B _ e E=>?_⟩;simp only[bU]at e;split at e
  ·rename_i hi;cases e;refine E _ (by simp) (λj u=>?_) (J.Q8 B hi);rw[List.getElem?_set_ne (by left)]
  ·cases e
 ·obtain⟨xs,rfl⟩:=Ef BK;have I:cA (.Tuple (xs.map λx=>Expr.Name x.1 x.2) r p)=xs.map (·.1):=xS xs;have O:n=xs.length:=by rw[q.n,I,b4]
  have:=zA (X:=fg X (cA (.Tuple (xs.map λx=>Expr.Name x.1 x.2) r p)++hJ S caps) sc cl C s₂ H2 fp) q.nd xs 0 (λj y s=>by
   refine⟨?_,L y.1 (by rw[I];exact List.mem_map.mpr ⟨y,aas s,rfl⟩)⟩;show(cA (.Tuple (xs.map λx=>Expr.Name x.1 x.2) r p)++hJ S caps)[0+j]?=_;have u:j<xs.length:=by
    by_cases u:j<xs.length
    ·exact u
    ·rw[List.getElem?_eq_none (by left)]at s;cases s
   rw[I,p0,List.getElem?_append_left (by simpa using u),List.getElem?_map,s];rfl)
  obtain⟨h1,h2,h3⟩:=this;refine⟨_,DR Te h1 h2 h3,λz R' v d b m Q c ρ1 J B ho e E=>?_⟩;cases d<;>try (simp[bU]at e;done)
  rename_i ds;simp only[bU]at e;split at e
  ·cases e
  ·cases B with
   | @tup _ a W _ hp M =>
    rw[b4]at e;have U:ic (List.range' 0 xs.length) ds c=ok ρ1:=by rw[<- g8];exact e
    refine⟨a,W,rfl,hp,?_,oU (X:=fg X (cA (.Tuple (xs.map λx=>Expr.Name x.1 x.2) r p)++hJ S caps) sc cl C s₂ H2 fp) b n (by left) M J U rfl (λ_ _=>rfl) E⟩;rw[M.length];have:∀(is:aP) (ds:aa) (ρ ρ':aX),ic is ds ρ=ok ρ'->ds.length=is.length:=by
     intro is;induction is with
     |nil=>intro ds ρ ρ' e;cases ds with|nil=>rfl|cons _ _=>cases e
     |cons i is Y=>intro ds ρ ρ' e;cases ds with
      |nil=>cases e
      |cons d ds =>
       change (if _ then _ else _)=_ at e;split at e
       ·simp[Y ds _ _ e]
       ·cases e
    rw[this _ _ _ _ U,p4]
def owF:∀f:Fl,cO (aI f)=false:=by intro f;cases f<;>rfl
mutual
theorem Io:∀d:D,bh cO (aE aI d)=false
 |.bP=>by simp[aE,bh]
 |.bl _=>by simp[aE,bh]
 |.int _=>by simp[aE,bh]
 |.str _=>by simp[aE,bh]
 |.tup ds=>by simp[aE,bh,ig ds]
 |.lst f ds=>by simp[aE,bh,ig ds,owF]
 |.cX f a vs=>by simp[aE,bh,ig vs,owF]
theorem ig:∀ds:aa,aU cO (aw aI ds)=false
 |[]=>by simp[aw,aU]
 |d::ds=>by simp[aw,aU,Io d,ig ds]
end
def z3{a:Addr}{o:HO}(x:j6 H h)(hn:H a=none)(new:c_ (upd H a o) h a o):j6 (upd H a o) h:=λb u e=>by
 by_cases c:b=a
 ·subst c;rw[aZ]at e;cases e;exact new
 ·rw[bp c]at e;exact(x b u e).jn λ_ q=>q
structure CAt(X X':Cx)(F' R':aj)(n:Nat)(base:aX)(σ0:St)(fp:bj)(tn:Nat->Heap->Prop)(H2:Hp)(D:Addr)(items:List DI.D)(bind:DI.D->O aX)(test:aX->O Bool)(el:aX->O DI.D)(all:List DI.D)(m:Nat)(s':Shared):Prop where
 ex:∃(i:Nat) (vs:ah) (aR:az) (nn:Nat) (σ':St) (H':Hp) (dn rest:List DI.D),m=items.length - i/\i<=items.length/\Inv X' [(D,fP aR nn)] σ' H' s'/\tn i s'.heap/\(∀b∈fp,H' b=none)/\Vals vs aR/\aM H2 H' /\
  SI X' F' R' (λ_=>none) base σ' H'/\cI X.K (gP X' F') R' (λ_=>none) [] H2 H' vs dn/\i_ bind test el (items.drop i)=ok rest/\dn++rest=all
end
def cI.go(h:cI K G R τ fv H H1 vs ds)(e:aM H1 H2):cI K G R τ fv H H2 vs ds :=
 let ⟨τt,h1,h2⟩:=h;⟨τt,h1,h2.imp (λ_ _ h=>bc.same e h) λ_ _ _ _ h=>nd.same e h⟩
theorem o8:∀{ds:aa} {d:D},aU cO ds=false->d∈ds->bh cO d=false
 |[],_,_,h=>nomatch h
 |e::ds,d,h,hm=>by
  rw[aU,Bool.or_eq_false_iff]at h;rcases List.mem_cons.mp hm with rfl|z
  ·exact h.1
  ·exact o8 h.2 z
def A9{d:D}(h:mf d=ok items):∀d∈items,bh cO d=false:=by
 unfold mf at h;split at h
 ·cases h;exact λd a=>o8 (ig _) a
 ·cases h
def yq{b:IK}{xs:aa}(h:eK Φ b xs=ok items):∀d∈items,bh cO d=false:=by
 cases b with
 |cL p=>obtain⟨d,_,h⟩:=aC h;exact A9 h
 |jr =>
  cases xs with
  |nil=>cases h
  |cons x t=>cases x<;>first | (cases h;done) | (cases t with
   |cons _ _=>cases h
   |nil =>
    obtain⟨_,h⟩:=mz h;subst h;intro d a;obtain⟨k,_,rfl⟩:=List.mem_map.mp a;rfl)
 |seq =>
  cases xs with
  |nil=>cases h
  |cons x t=>cases x<;>first | (cases h;done) | (cases t with
   |cons _ _=>cases h
   |nil=>cases h;exact λd a=>o8 (ig _) a)
def yt{n:Nat}{i:Nat}{d:D}(h:(bx n caps ρ)[i]?=some (some d)):n<=i:=by
 unfold bx at h;by_cases a:i<n
 ·rw[List.getElem?_append_left (by simpa using a),List.getElem?_replicate,cc a]at h;cases h
 ·left
variable {c' elt:CE}{bQ cs es:aA}
section
variable {X:Cx}{S:Sx}{k:Nat}{F:aj}{Φ:aT}
def Es{n:Nat}{t:Tg}{sc:Scope}{cl:List (Str×Addr)}(L:Lk X S k Φ)(a:kU S n t caps target sc):
  Lk (fg X (cA target++hJ S caps) sc cl C s₂ H2 fp) (S.inner target caps sc) k Φ:=by
 refine⟨?_,rfl,a.nd,L.calm,L.room,L.bl,λf x h=>⟨(L.fn f x h).ex⟩,L.cs,L.pr⟩;show relabel sc X.env=vz sc S.sc;rw[<- L.sc];rfl
def wN(L:Lk X S k Φ){n:Nat}{t:Tg}{ik:IK}{ifs:ao}{sc:Scope}(co:kU S n t caps target sc)(Cr:ju iter=true)
    (hE:∀(B:Cx) (F':aj),Lk B (S.inner target caps sc) k Φ->PE B kc (tD B F' Φ elt))
    (hC:(bQ=[]/\ifs=[])\/∃c e,bQ=[c]/\ifs=[e]/\∀(B:Cx) (F':aj),Lk B (S.inner target caps sc) k Φ->PT B e (jh B F' Φ c))
    (hI:∀(pins:av) (s:Shared) (σ:St) (H:Hp) (R:aj) (τ:Addr->Option bu) (ρ:aX) (xs items:aa),Inv X pins σ H s->SI X F R τ ρ σ H->bJ Φ es ρ=ok xs->eK Φ ik xs=ok items->∀Rr:It->Hp->Prop,
      (∀J H2,aM H H2->Yl X.K J (mh X F τ (caps++dN es) H2) H2 items->Rr J H2)->wpAny (model X.prog X.w) X.A (eval iter X.env) (λv W=>wpAny (model X.prog X.w) X.A (pyIter v) (Cv X pins σ target Rr) X.xe W) X.xe s)
    {use:Option (Value->Sem Unit)} {Post:aD} {pins:av} {s:Shared} {d:D} {Zf:Pos} (I:Inv X pins σ H s) (Si:SI X F R τ ρ σ H) (ev:bo Φ (.comp n t caps ik es bQ elt) ρ=ok d)
    (SF:∀(acc C:Addr) (H1:Hp) (W:Shared) (m:aY),W.heap.Ns C m->(C≠X.env.locals/\X.s₀.heap.objs.size<=C/\(∀x c,X.env.cells.lookup x=some c->c≠C)/\(∀p∈X.pn++pins,p.1≠C)/\H1 C=none)->(∀h',Heap.SameBut C W.heap h'->Inv X pins σ H1 { W with heap:=h' })->aM H H1 ->
      b_ X.K (gP X F) R τ (iE (.comp n t caps ik es bQ elt)) H H1 (.ref acc) d->compPost (model X.prog X.w) X.A X.xe use Post (.ref acc) C (.ok .next) W) :
    wpAny (model X.prog X.w) X.A (comprehension (.ListComp kc [⟨target,iter,ifs,0⟩] sc pos) sc X.env Zf (newList []) false (eval iter X.env) use) Post X.xe s:=by
  obtain⟨xs,bZ,ev⟩:=aC ev;obtain⟨items,yH,ev⟩:=aC ev;obtain⟨ds,OU,ev⟩:=aC ev;simp only[KS]at ev;obtain⟨nL,rfl⟩:=ev;have SQ:=yq yH;obtain⟨cl,Tb,nK,yx⟩:=yN (env:=X.env) (sc:=sc) (λx hx=>I.ok.has x (by
    show X.env.scope.names.lookup x=some .cell\/X.env.scope.names.lookup x=some .free;rw[L.sc];exact co.free x hx))
  have i6:∀x,foldedSetIterable iter X.env x=pure x:=by intro x;cases iter<;>first|rfl | (cases Cr;done)
  refine wpAny_comprehension_free (use:=use) rfl i6 Tb co.kind co.loc (aav (hI pins s σ H R τ ρ xs items I Si bZ yH (λJ H2=>aM H H2/\Yl X.K J (mh X F τ (caps++dN es) H2) H2 items) (λJ H2 e y=>⟨e,y⟩)) (λxv s₁ h₁=>aav h₁ (λXU s₂ h₂=>?_) λ_ _ e=>e) λ_ _ e=>e);obtain⟨it,fp,tn,J,H2,rfl,I2,T,Q0,f2,e2,yl⟩:=h₂;have xh:=Si.go e2;have NQ:∀b∈fp,b<s₂.heap.objs.size:=λb l=>let ⟨o,ho,_⟩:=T.obj 0 _ Q0 b l;aah ho;refine aaz (wpAny_newFunctionEnv co.Ed (by intro y hy;simp at hy) (λh₁ tV pA=>?_) co.kind);dsimp only at tV pA ⊢;generalize YV:s₂.heap.push { cls:=.type "list",dict:=none,data:=.seq ([]:az).toArray }=G2 at tV pA ⊢;have hGC:G2.objs.size=s₂.heap.objs.size+1:=by rw[<- YV,Heap.size_push]
  have VQ:s₂.heap.objs.size≠s₂.heap.objs.size+1:=aan (abm _);rw[hGC]at tV pA;have old:∀b o,s₂.heap.get? b=some o->h₁.get? b=some o:=λb o e=>pA.extBut b o (aan (aaE (aah e))) (aag _ (YV▸aag _ e));have gJ:h₁.get? s₂.heap.objs.size=some (fP [] 0):=pA.extBut _ _ VQ (aag _ (YV▸aao _ rfl))
  let B:=fg X (cA target++hJ S caps) sc cl (s₂.heap.objs.size+1) s₂ H2 fp
  let F':=kN (gP X F) τ (caps++dN es)
  let R':=mh X F τ (caps++dN es) H2
  have L':Lk B (S.inner target caps sc) k Φ:=Es L co;have I4:=λtk=>EJ (h₁:=h₁) (tk:=tk) L co I2 nK yx f2 NQ (by simpa using tV) old gJ;have S4:SI B F' R' (λ_=>none) (bx n caps ρ) (qG n caps σ) H2:=C_ (t:=t) xh (λi hi=>by simp[hi]);obtain⟨g,hg,rM⟩:=LV (X:=X) (S:=S) (cl:=cl) (fp:=fp) (s₂:=s₂) (H2:=H2) (C:=s₂.heap.objs.size+1) L.calm co;have YW:s₂.heap.objs.size∉B.fs:=λz=>by
    rcases List.mem_cons.mp (I2.kv _ z)with w|w
    · exact absurd w (aat I2.lt)
    · exact I2.MU (aaj _) w
  have NT:∀x c,cl.lookup x=some c->c≠s₂.heap.objs.size:=λx c e=>by
    obtain⟨v,q⟩:=I2.cell x c (nK x c e);exact aan q.lt
  have IZ:∀b∈fp,b≠B.env.locals/\b∉B.fs/\(b∈B.ex\/B.s₀.heap.objs.size<=b)/\(∀x c,B.env.cells.lookup x=some c->c≠b):=λb l =>
    ⟨aan (aaE (NQ b l)),λz=>by
      rcases List.mem_cons.mp (I2.kv b z)with w|w
      · exact(f2 b l).2.1 w
      · exact(f2 b l).2.2.1 w,.inl l,λx c e=>(f2 b l).2.2.2.2.1 x c (nK x c e)⟩
  have S0:∀b∈fp,b≠s₂.heap.objs.size:=λb l=>aan (NQ b l);have fin:∀(vs:ah) (O:az) (nn:Nat) (M:St) (H':Hp) (W:Shared),Inv B [(s₂.heap.objs.size,fP O nn)] M H' W->Vals vs O->aM H2 H'->cI X.K (gP B F') R' (λ_=>none) [] H2 H' vs ds ->
      compPost (model X.prog X.w) X.A X.xe use Post (.ref s₂.heap.objs.size) (s₂.heap.objs.size+1) (.ok .next) W:=by
    intro vs O nn M H' W I1 rv sm Dq;obtain⟨m,hn,_⟩:=I1.loc;obtain⟨pD,nD,_,_,_⟩:=I1.pin (s₂.heap.objs.size,fP O nn) (aam _ aak);have bs:=I1.base;have KH:∀b o,s₂.heap.get? b=some o->b≠s₂.heap.objs.size+1:=λb o e=>aan (aaE (aah e));have neD:∀b o,s₂.heap.get? b=some o->b≠s₂.heap.objs.size:=λb o e=>aan (aah e);have upK:∀b u,H' b=some u->upd H' s₂.heap.objs.size (.lst vs) b=some u:=λb u e=>by rw[bp (d8 e nD)];exact e
    have hlen:vs.length<=sizeLine:=by
      obtain⟨_,_,rr⟩:=Dq;have hz:sizeLine=16777216:=abg;have hc:du=1000000:=rfl;rw[rr.length];left
    have IX:∀h',Heap.SameBut (s₂.heap.objs.size+1) W.heap h'->Inv X pins σ (upd H' s₂.heap.objs.size (.lst vs)) { W with heap:=h' }:=λh' EM=>by
      have un:Un (mD X.stack) fp H2 (upd H' s₂.heap.objs.size (.lst vs)) s₂.heap h' :=
        ⟨λb o e n l hx=>EM.extBut b o (KH b o e) (bs.keep b o e n l hx),
         λb o e n l hx=>let ⟨sl,q⟩:=bs.slot b o e n l hx;⟨sl,EM.extBut b _ (KH b o e) q⟩,
         λb o e n hx=>by rw[bp (neD b o e)];exact bs.free b o e n hx,
         λb o e hx=>let ⟨o',q⟩:=bs.there b o e hx;⟨o',EM.extBut b _ (KH b o e) q⟩,
         λb xs e=>upK b _ (bs.nj b xs e),λb o u e=>upK b _ (bs.mC b o u e)⟩
      have Yt:j6 H' h':=λa o e=>(I1.cD a o e).jn λu q=>EM.extBut a u (by
        rintro rfl;have hf:H' (s₂.heap.objs.size+1)=none:=I1.free;rw[hf]at e;cases e) q
      have Yr:j6 (upd H' s₂.heap.objs.size (.lst vs)) h':=z3 Yt nD ⟨hlen,O,nn,rv,EM.extBut _ _ VQ pD⟩;exact I2.AG (ch:=fp) I1.os un Yr I1.bare λb l=>⟨(f2 b l).2.2.2.1,(f2 b l).2.1,(f2 b l).2.2.2.2.1,(f2 b l).2.2.2.2.2⟩
    have eS:aM H' (upd H' s₂.heap.objs.size (.lst vs)):=aM.upd nD;obtain⟨τt,fr,rs⟩:=Dq;have Xu:s₂.heap.objs.size+1≠s₂.heap.objs.size:=acC _;refine SF s₂.heap.objs.size (s₂.heap.objs.size+1) _ W m hn ⟨aat (aaE I2.lt),acy I2.sz,λx c e=>?_,λp hp=>?_,?_⟩ IX ((e2.trans sm).trans eS) ⟨λq=>if q=s₂.heap.objs.size then some []else τt q,λq z hz=>?_,.lst ⟨aZ,by simp⟩ (aF.map (q:=[]) (q':=[]) (λ_ _ h=>bc.same eS h) (λc p ys f h=>?_) rs [] rfl)⟩
    · obtain⟨v,z⟩:=I2.cell x c e
      exact aan (aaE z.lt)
    · exact aan (aaE (aah (I2.pin p hp).1))
    · rw[bp Xu];exact I1.free
    · by_cases yu:q=s₂.heap.objs.size
      · rw[yu];exact e2.free (sm.free nD)
      · simp only[yu,if_false]at hz;exact e2.free (fr q z hz)
    · have h':=nd.same eS h
      have ZV:∀p,gP B F' p->kN (gP X F) τ (caps++dN es) p:=λp hp=>hp.elim id λz=>⟨.inr (xh.same.free z),λc i e=>absurd z (xh.th p _ e)⟩
      cases f with
      |ow =>
        have yu:p≠s₂.heap.objs.size:=by
          intro z;subst z;exact h.1.ne nD
        refine⟨h'.1,?_⟩;show(if p=s₂.heap.objs.size then some []else τt p)=_;rw[cb yu];exact h'.2
      |fz=>exact⟨h'.1,h'.2.2⟩
      |al=>exact⟨h'.1,ZV p h'.2.1⟩
      |sc=>exact h'
  have tst:∀(P:av) (ρ1:aX) (b:Bool) (E:St) (H5:Hp) (s6:Shared),i8 Φ bQ ρ1=ok b->Inv B P E H5 s6->SI B F' R' (λ_=>none) ρ1 E H5 ->
      wpAny (model X.prog X.w) X.A (forIn ifs true λc r=>if r=true then do let ok <- isTrue c B.env (eval c B.env);pure (ForInStep.yield ok)else pure (ForInStep.yield r)) (λXo s7=>Xo=b/\∃H7,Inv B P E H7 s7/\aM H5 H7) (λ_ _=>False) s6:=by
    intro P ρ1 b E H5 s6 eb I6 S6;rcases hC with ⟨rfl,rfl⟩|⟨c,e,rfl,rfl,hPT⟩
    · rw[i8]at eb;cases eb
      exact wpAny_tests_nil ⟨rfl,H5,I6,aM.refl _⟩
    · rw[i8]at eb
      obtain⟨b',eb',eb⟩:=aC eb;have l:b'=b:=by
        cases b' with
        |true=>rw[cc rfl,i8]at eb;cases eb;rfl
        |false=>rw[cb (by simp)]at eb;cases eb;rfl
      subst l;refine wpAny_tests_one (aav (hPT B F' L' P s6 E H5 (λb'' H7=>b''=b'/\aM H5 H7) I6 ⟨R',_,ρ1,b',S6,eb',λH7 e7=>⟨rfl,e7⟩⟩) (λb'' s7 ⟨H7,I7,l,e7⟩=>⟨l,H7,I7,e7⟩) λ_ _ e=>e)
  have loop:∀tk,codeAny (model X.prog X.w) X.A (.compLoop (.ListComp kc [⟨target,iter,ifs,0⟩] sc pos) 0 (.ref it) (.ref s₂.heap.objs.size) B.env)
      (compPost (model X.prog X.w) X.A X.xe use Post (.ref s₂.heap.objs.size) (s₂.heap.objs.size+1)) { s₂ with heap:=h₁,toks:=tk }:=by
    intro tk;refine uh (CAt X B F' R' n (bx n caps ρ) (qG n caps σ) fp tn H2 s₂.heap.objs.size items (λd=>bU t d (bx n caps ρ)) (λρ'=>i8 Φ bQ ρ') (λρ'=>bo Φ elt ρ') ds) ?_ items.length
      ⟨0,[],[],0,qG n caps σ,H2,[],ds,rfl,aa3 _,I4 tk,T.keep _ _ _ Q0 (λb _ o e=>old b o e),λb l=>(f2 b l).1,.nil,aM.refl _,S4,.nil,by rw[hG];exact OU,rfl⟩
    rintro m s' ⟨i,vs,O,nn,M,H',dn,rest,hm,hi,I',nB,fr',rv,sm,fM,Dq,Y,U⟩;have Oi:∀b∈fp,qq B [(s₂.heap.objs.size,fP O nn)] H' b:=λb l=>⟨fr' b l,(IZ b l).1,(IZ b l).2.1,(IZ b l).2.2.1,(IZ b l).2.2.2,λp hp=>by
      have kj:p=(s₂.heap.objs.size,fP O nn):=by simpa [B,fg]using hp
      rw[kj];exact(S0 b l).symm⟩
    by_cases gH:i<items.length
    · refine aav (T.item B rfl rfl rfl L.calm i _ s' M H' (λ_ _=>False) I' Oi nB (yl.go i H' sm gH)) (λr W h4=>?_) λ_ _ e=>e
      obtain⟨u,hr,h4⟩:=h4;subst hr;refine aav h4 (λ_ s5 h5=>?_) λ_ _ e=>e;obtain⟨x,H5,I5,r5,y5,L6,Ze⟩:=h5;obtain⟨e5,dd,hd,rd⟩:=yl.uW i H' x H5 sm gH y5;have Z3:=I5.pinned (fp:=fp) (λb l=>⟨Ze b l,(Oi b l).2⟩) (T.obj _ _ L6);have lH:items.drop i=dd::items.drop (i+1):=by
        rw[g7 gH];rw[List.getElem?_eq_getElem gH]at hd;cases hd;rfl
      rw[lH,i_]at Y;obtain⟨ρ1,eb,Y⟩:=aC Y;obtain⟨bb,et,Y⟩:=aC Y;refine aav (hg _ s5 M H5 x u (λE H6=>H6=H5/\E.length=M.length/\(∀j,n<=j->E[j]?=M[j]?)/\SI B F' R' (λ_=>none) ρ1 E H5) Z3 r5
        (rM F' R' x dd M H5 _ (bx n caps ρ) ρ1 (fM.go e5) rd (SQ dd (aas hd)) eb λE g1 g2 g3=>⟨rfl,g1,g2,g3⟩)) (λ_ s6 h6=>?_) λ_ _ e=>e
      obtain⟨E,H6,I6,rfl,g1,g2,S6⟩:=h6;refine aav (tst _ ρ1 bb E H6 s6 et I6 S6) (λXo s7 h7=>?_) λ_ _ e=>e;obtain⟨rfl,H7,I7,e7⟩:=h7;have Wt:∀{P:av} {σ3:St} {Z:Hp} {s8:Shared},Inv B (P++js fp s5.heap) σ3 Z s8->tn (i+1) s8.heap/\∀b∈fp,Z b=none:=λ{P σ3 Z s8} I8 =>
        ⟨T.keep _ _ _ L6 λb l o e=>(I8.pin (b,o) (aam _ (aam _ (iL l e)))).1,λb l=>by
          obtain⟨o,e,_⟩:=T.obj _ _ L6 b l;exact(I8.pin (b,o) (aam _ (aam _ (iL l e)))).2.1⟩
      have Lh:∀{Z:Hp},aM H7 Z->SI B F' R' (λ_=>none) (bx n caps ρ) E Z:=λ{Z} e8=>(fM.go ((e5.trans e7).trans e8)).sig g1 λj d hj=>g2 j (yt hj);cases Xo with
      |false =>
        rw[cb (by simp)]at Y ⊢;exact⟨items.length - (i+1),by left,i+1,vs,O,nn,E,H7,dn,rest,rfl,gH,I7.k_,(Wt I7).1,(Wt I7).2,rv,(sm.trans e5).trans e7,Lh (aM.refl _),Dq.go (e5.trans e7),Y,U⟩
      |true =>
        rw[cc rfl]at Y ⊢;obtain⟨y,ey,Y⟩:=aC Y;obtain⟨ys,kE,Y⟩:=aC Y;cases Y;refine aav (hE B F' L' _ s7 E H7 (λv Z=>aM H7 Z/\b_ X.K (gP B F') R' (λ_=>none) [] H7 Z v y) I7 ⟨R',_,ρ1,y,S6.go e7,ey,λv Z e8 r8=>⟨e8,?_⟩⟩) (λu8 s8 h8=>?_) λ_ _ e=>e
        · obtain⟨τt,fr,rr⟩:=r8
          exact⟨τt,fr,rr.imp (q:=[]) (q':=[]) (λ_ _ h=>h) λc p ys f h=>h.mono id (λh=>⟨h.1,λ_ _ e=>by cases e⟩) id⟩
        · obtain⟨v8,Z,I8,rv8,e8,r8⟩:=h8
          obtain⟨pD,nD,_,_,_⟩:=I8.pin (s₂.heap.objs.size,fP O nn) (aam _ (aaw _ aak));have hlen:O.length<=1000000:=by
            obtain⟨_,_,rr⟩:=Dq;have h1:dn.length<=ds.length:=by rw[<- U,c8];left
            have hc:du=1000000:=rfl;rw[<- rv.length,rr.length];left
          have hz:sizeLine=16777216:=abg;refine abj PySem.F.slot_list_append ⟨_,pD,rfl⟩ PySem.F.entry_list_append (PySem.F.args_list_append_2 _ _) (PySem.list_append s₂.heap.objs.size O.toArray nn u8 (by rw[cn];left)) ⟨pD,?_⟩;have q:=PySem.IsL.update pD (λx=>x.push u8);have SD:O.toArray.push u8=(O++[u8]).toArray:=by simp
          rw[SD]at q;obtain⟨VA,q'⟩:∃VA,(s8.heap.update s₂.heap.objs.size (Obj.mapSeq λx=>x.push u8)).get? s₂.heap.objs.size=some (fP (O++[u8]) VA):=⟨_,q⟩
          have I8d:Inv B (js fp s5.heap) E Z s8:=I8.jT λp hp=>I8.pin p (aam _ (aam _ hp));have I8t:Inv B (js fp s5.heap) E Z { s8 with heap:=s8.heap.update s₂.heap.objs.size (Obj.mapSeq λx=>x.push u8),toks:=s8.toks } :=
            I8d.turned (it:=s₂.heap.objs.size) (λb o l e=>(aa2 s8.heap (Obj.mapSeq λx=>x.push u8) (ab0 l)).trans e) nD VQ (.inr (aaj _)) NT λp hp=>by
              have kj:p∈js fp s5.heap:=by simpa [B,fg]using hp
              exact S0 p.1 (rK kj).1
          have kp:=Wt (P:=[]) (by rw[fx];exact I8t);refine⟨items.length - (i+1),by left,i+1,vs++[v8],O++[u8],VA,E,Z,dn++[y],ys,rfl,gH,I8t.jT (λp hp=>?_),kp.1,kp.2,rv.append (.cons rv8 .nil),((sm.trans e5).trans e7).trans e8,Lh e8,cI.snoc ((sm.trans e5).trans e7) e8 (Dq.go (e5.trans e7)) r8,kE,by rw[mu];exact U⟩;have kj:p=(s₂.heap.objs.size,fP (O++[u8]) VA):=by simpa using hp
          rw[kj];exact⟨q',nD,VQ,YW,λv z=>by cases z⟩
    · refine aav (T.done B rfl rfl rfl L.calm i _ s' M H' (λ_ _=>False) I' Oi nB (yl.stop i H' sm (by left))) (λr W h1=>?_) λ_ _ e=>e
      obtain⟨hr,I1⟩:=h1;subst hr;have Yx:items.drop i=[]:=List.drop_eq_nil_of_le (by left);rw[Yx,i_]at Y;cases Y;rw[hH]at U;subst U;exact fin vs O nn M H' W I1 rv sm Dq
  have key:=λtk=>codeAny_compStart_list (loop tk) (T.self X.A 0 _ _ _ (T.keep _ _ _ Q0 λb _ o e=>old b o e) (loop tk));rw[hGC];exact key _
def HA(L:Lk X S k Φ){n:Nat}{t:Tg}{p:IK}{a:ao}{sc:Scope}(M:kU S n t caps target sc)(Y:ju iter=true)
  (z:∀(b:Cx) (j:aj),Lk b (S.inner target caps sc) k Φ->PE b kc (tD b j Φ elt))
  (B:(bQ=[]/\a=[])\/∃c e,bQ=[c]/\a=[e]/\∀(b:Cx) (j:aj),Lk b (S.inner target caps sc) k Φ->PT b e (jh b j Φ c))
  (y:∀(pins:av) (s:Shared) (σ:St) (H:Hp) (R:aj) (τ:Addr->Option bu) (ρ:aX) (xs items:aa),Inv X pins σ H s->SI X F R τ ρ σ H->bJ Φ es ρ=ok xs->eK Φ p xs=ok items->∀q:It->Hp->Prop,
   (∀J H2,aM H H2->Yl X.K J (mh X F τ (caps++dN es) H2) H2 items->q J H2)->wpAny (model X.prog X.w) X.A (eval iter X.env) (λv l=>wpAny (model X.prog X.w) X.A (pyIter v) (Cv X pins σ target q) X.xe l) X.xe s) :
  PE X (.ListComp kc [⟨target,iter,a,0⟩] sc pos) (tD X F Φ (.comp n t caps p es bQ elt)):=by
 intro pins s σ H Q I g;obtain⟨R,τ,ρ,d,O,E,g⟩:=g;rw[eval_ListComp];refine wN L M Y z B y (use:=none) (Post:=EP X pins σ Q) I O E λi C H1 l m x _ U r u=>?_;exact⟨m,x,λh' W=>⟨.ref i,H1,U h' W,rfl,g _ _ r u⟩⟩
end
section
variable {X:Cx}{pins:av}{s:Shared}{σ:L2.St}{H:Hp}
def lE{A:aN}{E:aD}{l:Addr}{items:aW}{Q:aD}{s:Shared}(hl:s.heap.IsList l items)
  (h:∀s₂:Shared,s₂={ s with heap:=s.heap.push { cls:=.type "list_iterator",data:=.fields #[.ref l,.int 0 0] } }->s₂.heap.IsListIter s.heap.objs.size l 0/\s₂.heap.IsList l items->(∀b∈[s.heap.objs.size,l],b<s₂.heap.objs.size)->l≠s.heap.objs.size->Q (.ref s.heap.objs.size) s₂) :
  wpAny (model prog w) A (pyIter (.ref l)) Q E s:=by
 have a:l<s.heap.objs.size:=by obtain⟨_,e,_⟩:=hl;exact aah e
 refine wpAny_pyIter_list hl (h _ rfl ⟨⟨_,aao _ rfl,rfl,rfl⟩,hl.push _⟩ (λb d=>?_) (aan a));have c:(s.heap.push { cls:=.type "list_iterator",data:=.fields #[.ref l,.int 0 0] }).objs.size=s.heap.objs.size+1:=Heap.size_push ..;have g:b=s.heap.objs.size\/b=l:=by simpa using d
 show b<_;rw[c];rcases g with e|e
 ·rw[e];exact abm _
 ·rw[e];exact aaE a
def lD{a:Obj}{s:Shared}(d:∀b o,b∉[s.heap.objs.size]->(s.heap.push a).get? b=some o->h'.get? b=some o):∀b o,s.heap.get? b=some o->h'.get? b=some o:=λb o e =>
 d b o (λc=>absurd ((by simpa using c:b=s.heap.objs.size)▸aah e) (aau _)) (aag _ e)
def df{a:Addr}{b:aW}(p:PlainL h a b):h.IsList a b:=let ⟨o,n,h1,h2,_,h4⟩:=p;⟨o,h1,h2,n,h4⟩
theorem mW(a:Nat->Int)(ns:ae)(b:∀i,a i=ns.getD i 0):∀k,k<=ns.length->preSum a k=(ns.take k).sum
 |0,_=>by simp[preSum]
 |k+1,h=>by
  have c:k<ns.length:=by left
  rw[preSum,mW a ns b k (by left),b k,List.take_add_one,List.sum_append];simp[List.getD,c]
def B5(x:X.calm=true):fY X (.builtin "sum") (λxs H Q=>∃(p:Addr) (ns:ae),xs=[.ref p]/\dq X.K H p (ns.map V.int)/\Q (.int ns.sum) H):=by
 intro pins s σ H xs J Q I r h;obtain⟨p,ns,rfl,m,q⟩:=h;obtain⟨u,rfl,b⟩:=r.one;cases b;obtain⟨a,d,l,g⟩:=I.list m;have hlen:a.length=ns.length:=by have:=d.length;simpa using this.symm
 refine call_sum_walkG (lE (df l) λs₂ e st E B=>?_);subst e;refine⟨_,_,_,_,_,_,λi=>ns.getD i 0,rfl,Walks.list (A:=X.A.in1) (I.ok.hd x) _ p B a.toArray,st,E,λi v y=>?_,λh' k t' t=>?_⟩
 ·have c:a[i]?=some v:=by simpa using y
  have L:i<a.length:=by
   by_cases z:i<a.length
   ·exact z
   ·rw[List.getElem?_eq_none (by left)]at c;cases c
  have n:(ns.map V.int)[i]?=some (.int (ns.getD i 0)):=by
   rw[List.getElem?_map,List.getElem?_eq_getElem (by left)];simp[List.getD,show i<ns.length by left]
  obtain⟨u,j,b⟩:=d.get n;rw[c]at j;cases j;exact b
 ·refine⟨.int ns.sum,H,I.kept (t':=k) (lD t),⟨t',?_⟩,q⟩;have g:preSum (λi=>ns.getD i 0) a.toArray.size=ns.sum:=by
   rw[cn,hlen,mW _ ns (λ_=>rfl) _ (Nat.le_refl _),m1]
  rw[g]
def range_all{c:Type}(l:List c)(f:c->Bool)(d:Nat->Bool)(h:∀i a,l[i]?=some a->d i=f a):(List.range l.length).all d=l.all f:=by
 rw[Bool.eq_iff_iff,gv,gv];constructor
 ·intro z a g;obtain⟨i,b,e⟩:=List.mem_iff_getElem.mp g;have:=z i (List.mem_range.mpr b);rw[h i a (by rw[List.getElem?_eq_getElem b,e])]at this;exact this
 ·intro z i b;have b:=List.mem_range.mp b;rw[h i l[i] (List.getElem?_eq_getElem b)];exact z _ (aba b)
def B9(x:X.calm=true):fY X (.builtin "all") (λxs H Q=>∃(p:Addr) (bs:List Bool),xs=[.ref p]/\dq X.K H p (bs.map V.bl)/\Q (.bl (bs.all id)) H):=by
 intro pins s σ H xs J Q I r h;obtain⟨p,bs,rfl,m,q⟩:=h;obtain⟨u,rfl,c⟩:=r.one;cases c;obtain⟨b,g,l,M⟩:=I.list m;have hlen:b.length=bs.length:=by have:=g.length;simpa using this.symm
 refine call_all_walk (lE (df l) λs₂ e st Y E=>?_);subst e;refine⟨_,_,_,_,_,_,λi=>bs.getD i false,rfl,Walks.list (A:=X.A.in1) (I.ok.hd x) _ p E b.toArray,st,λi v L U W B y=>?_,λh' k t=>?_⟩
 ·have d:b[i]?=some v:=by simpa using B
  have O:i<b.length:=by
   by_cases z:i<b.length
   ·exact z
   ·rw[List.getElem?_eq_none (by left)]at d;cases d
  have n:(bs.map V.bl)[i]?=some (.bl (bs.getD i false)):=by
   rw[List.getElem?_map,List.getElem?_eq_getElem (by left)];simp[List.getD,show i<bs.length by left]
  obtain⟨u,j,c⟩:=g.get n;rw[d]at j;cases j;cases c;exact aa7 y
 ·refine⟨.bl (bs.all id),H,I.kept (t':=k) (lD t),?_,q⟩;show Value.bool _=Value.bool _;rw[cn,hlen,range_all bs id _ λi a e=>by simp[List.getD,e]]
end
variable {ns:ae}
section
variable {prog:aK}{w:World}{A:aN}{E:aD}{s:Shared}
def p7{l:Addr}{vs:az}{Q:az->Shared->Prop}{o:Obj}{n:Nat}(c:s.heap.get? l=some o)(e:o.cls=.type "tuple")(d:o.data=.seq vs.toArray n)
  (h:Q vs { s with heap:=(s.heap.push (seqObj "list" #[] 0)).update s.heap.objs.size (Obj.mapSeq (· ++ vs.toArray)) }) (hsz:vs.length<=sizeLine):wpAny (model prog w) A (collect (.ref l)) Q E s:=by
 unfold collect;refine aaa (wpAny_runValue (abx entry_proto_collect' ?_));show wpAny _ _ (newList [] >>= λz=>again (.builtin "list.__iadd__" ⟨[z,.ref l],[]⟩)) _ _ s;refine aaa (acw (aaf ⟨acr _ (by decide +kernel),abx entry_list_iadd' ?_⟩));have b:(s.heap.push (seqObj "list" #[] 0)).get? l=some o:=aag _ c;have a:(s.heap.push (seqObj "list" #[] 0)).get? s.heap.objs.size=some (seqObj "list" #[] 0):=aao _ rfl;show wpAny _ _ (Builtin.List.listExtendWith (.ref s.heap.objs.size) (.ref l) (.ref s.heap.objs.size)) _ _ ({ s with heap:=s.heap.push (seqObj "list" #[] 0) }:Shared);unfold Builtin.List.listExtendWith;refine aaa (wpAny_typeOf (T:="tuple") ⟨o,b,e⟩ ?_);rw[aa4 (by rw[show(Value.type "tuple" == Value.type "tuple")=true from rfl,km])];refine aaa (listItems_at b d (aaa (listItems_at a rfl ?_)));rw[cb (by simp)];refine aaa (listUpdate_at a rfl ?_ (aa3 _) (by
  show(#[]++vs.toArray).size<=sizeLine+1;rw[Array.size_append,cn];exact acy (by simpa using hsz)))
 refine aaf ?_;show wpAny (model prog w) A (load s.heap.objs.size >>= λo=>match o.data with
   |.seq xs _=>pure xs.toList
   |_=>unsupported "internal:collect") Q E ({ s with heap:=(s.heap.push (seqObj "list" #[] 0)).update s.heap.objs.size (Obj.mapSeq (· ++ vs.toArray)) }:Shared)
 refine aaa (wpAny_load (get?_update_seq a _) ?_);show wpAny _ _ (pure ((#[]:aW)++vs.toArray).toList) Q E _;rw[show((#[]:aW)++vs.toArray).toList=vs by simp];exact aaf h
def qE{l:Addr}{vs:az}{Q:aD}{o:Obj}{n:Nat}(d:s.heap.get? l=some o)(g:o.cls=.type "tuple")(e:o.data=.seq vs.toArray n)(i:IntsAre vs ns)(b:vs.length<64)
  (h:∀(out:aW) (a:ae),IntsAre out.toList a->a.Perm ns->a.Pairwise (· <= ·)->Q (.ref (s.heap.objs.size+1)) { s with heap:=sortedAll s.heap vs out }):wpAny (model prog w) A (call (.builtin "sorted") [.ref l]) Q E s:=by
 refine Calls.call_function_entry kind_sorted plain_sorted entry_sorted (args_sorted1 _) ?_;unfold Builtin.«sorted»;have c:vs.length<=sizeLine:=by rw[sizeLine_eq];left
 refine aaa (m:=checkCount "sorted" 1 1 _) (aaf (aaa (p7 d g e (aaa (acw ?_)) c)));have e1:((s.heap.push (seqObj "list" #[] 0)).update s.heap.objs.size (Obj.mapSeq (· ++ vs.toArray))).objs.size=s.heap.objs.size+1:=by rw[Heap.size_update,size_push']
 have e2:(((s.heap.push (seqObj "list" #[] 0)).update s.heap.objs.size (Obj.mapSeq (· ++ vs.toArray))).push (seqObj "list" vs.toArray 0)).get? (s.heap.objs.size+1)=some (seqObj "list" vs.toArray 0):=by
  rw[<- e1];exact aao _ rfl
 show wpAny _ _ _ _ _ ({ s with heap:=((s.heap.push (seqObj "list" #[] 0)).update s.heap.objs.size (Obj.mapSeq (· ++ vs.toArray))).push (seqObj "list" vs.toArray 0) }:Shared);rw[e1];refine aaa (aaF (aaM slot_list_sort ⟨_,e2,rfl⟩ entry_list_sort (list_sort_tree e2 i b λout a p k j=>⟨_,rfl,aaf ⟨_,rfl,h out a p k j⟩⟩) (args_list_sort _)))
end
def sortI_perm(ns:ae):(sortI ns).Perm ns:=abq ..
def C8(ns:ae):(sortI ns).Pairwise (· <= ·):=by
 have:=List.pairwise_mergeSort (le:=λa b:Int=>decide (a<=b)) (by intro a b c;simp;left) (by intro a b;simp;left) ns;unfold sortI;simpa using this
theorem dK:∀{vs:az} {ns:ae},Vals (ns.map V.int) vs->IntsAre vs ns
 |_,[],h=>by cases h;exact .nil
 |_,n::ns,h=>by
  cases h with
  |cons r t=>obtain⟨a,rfl⟩:=r;exact .cons n a (dK t)
def ur:fY X (.builtin "sorted") (λxs H Q=>∃(p:Addr) (ns:ae),xs=[.ref p]/\(dq X.K H p (ns.map V.int)\/bc X.K H p (ns.map V.int))/\ns.length<64/\∀l,H l=none->Q (.ref l) (upd H l (.lst ((sortI ns).map V.int)))):=by
 intro pins s σ H xs M Q I r h;obtain⟨p,ns,rfl,d,m,q⟩:=h;obtain⟨u,rfl,t⟩:=r.one;cases t;have fin:∀(vs:az) (out:aW) (a:ae),IntsAre out.toList a->a.Perm ns->a.Pairwise (· <= ·)->EP X pins σ Q (.ref (s.heap.objs.size+1)) { s with heap:=sortedAll s.heap vs out }:=by
  intro vs out a j i g;obtain rfl:a=sortI ns:=PySem.W.ksm_same (i.trans (sortI_perm ns).symm) g (C8 ns);obtain⟨e,E⟩:=sortedAll_at s.heap vs out;have B:H (s.heap.objs.size+1)=none:=I.cD.fresh (acF _);refine⟨.ref (s.heap.objs.size+1),upd H (s.heap.objs.size+1) (.lst ((sortI ns).map V.int)),I.laid (t':=s.toks) (λb u z=>sortedAll_old z) (acF _) ⟨?_,out.toList,e,l9 j,by simpa using E⟩,rfl,q _ B⟩;rw[b4,(sortI_perm ns).length_eq,sizeLine_eq];left
 rcases d with d|d
 ·obtain⟨k,c,v,x⟩:=I.list d;have hl:k.length<64:=by rw[<- c.length];simpa using m
  exact sorted_ints (df v) (dK c) hl λout a j i g=>fin k out a j i g
 ·obtain⟨k,c,⟨o,y,L,n,J⟩,x⟩:=I.tuple d;have hl:k.length<64:=by rw[<- c.length];simpa using m
  exact qE y L J (dK c) hl λout a j i g=>fin k out a j i g
def CQ:isSubtype (.type "tuple") (.type "set")=pure false:=by rw[isSubtype_type];kernel_rfl
def vc:isSubtype (.type "tuple") (.type "frozenset")=pure false:=by rw[isSubtype_type];kernel_rfl
noncomputable abbrev nC(a:Bool):Obj:={ cls:=.type "set",dict:=none,data:=.set #[] 0 (.fresh 0 0 a) }
noncomputable abbrev dist(ns:ae):ae:=firstMet (λi=>ns.getD i 0) ns.length
variable {aR:az}
section
variable {prog:aK}{w:World}{A:aN}{E:aD}{s:Shared}
theorem xW{l:Addr}{Q:aD}(hh:A.handled=none)(hl:s.heap.IsTuple l aR.toArray)(Y:IntsAre aR ns)(B:aR.length+1<scanBound)
  (h:∀(h':Heap) (tk:Nat),h'.SetOf (intKind prog w) s.heap.objs.size (λk=>(dist ns).any (· == k)) (dist ns).length->(∀b o,b<s.heap.objs.size->s.heap.get? b=some o->h'.get? b=some o)->Q (.ref s.heap.objs.size) { s with heap:=h',toks:=tk }) :
  wpAny (model prog w) A (call (.type "set") [.ref l]) Q E s:=by
 have L:aR.length=ns.length:=Y.length;obtain⟨c,tl,k1⟩:=F.called_set.mro;have k2:=F.called_set.made;have k3:=F.called_set.sub;have k4:=F.called_set.notType;have k5:=F.called_set.canCreate;have k6:=F.typeCall_set_1 (.ref l);refine wpAny_call (codeAny_of_tree (show wpAny _ _ (callAny (.type "set") _) _ _ _ from aaf ⟨acr _ (by decide +kernel),abx F.entry_type_call ?_⟩));rw[Around.under_plain (weight_type_call_type "set" [.ref l] []) rfl]
 repeat (any_goals (first|assumption|wp_step))
 refine acg (code_set_new_1 (.ref l) (E:=E) (Q₁:=λz d=>∃a:Bool,z=.ref s.heap.objs.size/\d={ s with heap:=s.heap.push (nC a) }) λa=>⟨a,rfl,rfl⟩) λr d p=>?_;cases r with
 |error e=>exact p
 |ok fl =>
  cases fl with
  |next=>exact p.elim
  |brk=>exact p.elim
  |cont=>exact p.elim
  |ret z =>
   obtain⟨a,rfl,rfl⟩:=p;have Z:(s.heap.push (nC a)).get? s.heap.objs.size=some (nC a):=aao _ rfl;have g2:Shared.TypeIs { s with heap:=s.heap.push (nC a) } (.ref s.heap.objs.size) "set":=⟨_,Z,rfl⟩
   have g3:=F.called_set.init.lookup;have g4:=F.called_set.init.bind (.ref s.heap.objs.size)
   repeat (any_goals (first|assumption|wp_step))
   refine acg (ack (R:=wants (λr s₂=>r=.none/\∃h' tk,s₂={ s with heap:=h',toks:=tk }/\h'.SetOf (intKind prog w) s.heap.objs.size (λk=>(dist ns).any (· == k)) (dist ns).length/\∀b o,b<s.heap.objs.size->s.heap.get? b=some o->h'.get? b=some o) E) F.called_set.init.plain F.entry_set_init (check_set_init_1 g2 ?_)) λn s₂ j=>?_
   ·obtain⟨ot,q,x,W,u⟩:=hl;obtain⟨oc,od,odt,D1⟩:=ot;simp only at x u;subst x;subst u;have u1:(s.heap.push (nC a)).get? l=some { cls:=.type "tuple",dict:=od,data:=.seq aR.toArray W,slots:=D1 }:=aag _ q;have u2:=CQ;have u3:=vc;have u4:(Value.type "tuple" == Value.type "dict")=false:=by decide
    have u5:(s.heap.push (nC a)).IsTuple l aR.toArray:=⟨_,u1,rfl,W,rfl⟩
    unfold Builtin.«set.__init__» noKeywords Builtin.Frozenset.updateFrom;generalize O:pyIter=PI
    wp_walk
    subst O;refine wpAny_pyIter_tuple u5 (aaa (wpAny_runValue ?_));have U:l<s.heap.objs.size:=aah q;have u7:A.in1.in1.in1.handled=none:=by simp[hh]
    have J:(s.heap.push (nC a)).objs.size=s.heap.objs.size+1:=Heap.size_push ..;have u8:l≠(s.heap.push (nC a)).objs.size:=by rw[J];exact aan (aaE U)
    have u9:s.heap.objs.size∉[(s.heap.push (nC a)).objs.size,l]:=by
     rw[J];intro m;simp at m;exact absurd m (aat U)
    have v1:∀(i:Nat) (v:Value),aR.toArray[i]?=some v->∃t,v=.int ((λi=>ns.getD i 0) i) t:=λi v hv=>Y.int_at i v (by simpa using hv);refine codeAny_set_update_loopS ((Walks.tuple u7 _ l u8 aR.toArray).toS) s.heap.objs.size u9 (λi=>ns.getD i 0) v1 (by rw[cn];exact B) (aR.toArray.size - 0) 0 _ (by left) (aa3 _) ⟨⟨_,aao _ rfl,rfl,rfl⟩,u5.push _⟩ ?hS0 ?hR
    case hS0 =>
     have y1:((s.heap.push (nC a)).push { cls:=.type "tuple_iterator",data:=.fields #[.ref l,.int 0 0] }).get? s.heap.objs.size=some (nC a):=aag _ Z;exact SetOf_congr ((setObjOf_fresh (knd:=intKind prog w) a).setOf y1 (by unfold scanBound;left)) (λ_=>rfl) rfl
    case hR =>
     intro s' y g;obtain⟨h',g',d',I,Xl⟩:=s';cases (show g'=s.gens from y.gens);cases (show d'=s.drawn from y.drawn);cases (show Xl=s.os from y.os);have g:h'.SetOf (intKind prog w) s.heap.objs.size (λk=>(dist ns).any (· == k)) (dist ns).length:=by
      have e:aR.toArray.size=ns.length:=by rw[cn,L]
      rw[e]at g;exact g
     refine aaf (show wpAny _ _ (ret Value.none) _ _ _ from aaf ⟨rfl,h',I,rfl,g,λb o B e=>y.heap b o (λm=>?_) (aag _ (aag _ e))⟩);rcases List.mem_cons.mp m with m|m
     ·exact aan B m
     ·have m:b=(s.heap.push (nC a)).objs.size:=by simpa using m
      rw[J]at m;exact aan (aaE B) m
   ·cases n with
    |error e=>exact j
    |ok T3 =>
     cases T3 with
     |ret r =>
      obtain⟨rfl,h',tk,rfl,g,M⟩:=j
      repeat (any_goals (first|assumption|wp_step))
      exact h _ _ g M
     |next=>exact j.elim
     |brk=>exact j.elim
     |cont=>exact j.elim
end
def wG(ns:ae):dist ns=eY ns:=by
 unfold dist firstMet eY;have e:(List.range ns.length).map (λi=>ns.getD i 0)=ns:=by
  refine acD (by simp) λi a b=>?_;simp at a;simp[a]
 rw[e];rfl
def rLs(K:ak):ah->Hp->VK->Prop:=λxs H Q=>∃(p:Addr) (ns:ae),xs=[.ref p]/\bc K H p (ns.map V.int)/\ns.length<4000/\Q (.int (eY ns).length) H
def boot_set:bootBuiltins ("set" : Str)=some (.type "set"):=by decide +kernel
def H_{e:Expr}{t:TA}{p:Pos}(y:X.calm=true)(SX:Gl X ("len" : Str))(Z:X.mg ("len" : Str)=none)(Y:Gl X ("set" : Str))(YB:X.mg ("set" : Str)=none)(B:PA X [e] t)
  (m:∀es,starEach (e::es) X.env=(false,eval e X.env)::starEach es X.env):PE X (.Call (.Name ("len" : Str) p) [.Call (.Name ("set" : Str) p') [e] [] pos'] [] pos) (Pt (rLs X.K) t):=by
 intro pins s σ H Q I h;refine aaJ (d_ I SX Z acH ?_ (by decide) (by decide));refine abw ?_ rfl rfl;show wpAny _ _ (spliced ((false,eval (.Call (.Name ("set" : Str) p') [e] [] pos') X.env)::[])) _ _ s;refine abv ?_;refine aaJ (d_ I Y YB boot_set ?_ (by decide) (by decide));refine aar (dH (B pos' pins s σ H _ I h) λus s1 W=>?_) (m _) rfl;obtain⟨vs,H1,c,k,l⟩:=W;obtain⟨a,ns,rfl,v,hl,q⟩:=l;obtain⟨u,rfl,j⟩:=k.one;cases j;obtain⟨aR,d,r,hz⟩:=c.tuple v;have x:aR.length=ns.length:=by rw[<- d.length];simp
 refine xW (c.ok.hd y) r (dK d) (by unfold scanBound;left) λh' i g n=>abz ?_;rw[wG]at g;obtain⟨o,es,ep,tb,U,O,M,_,_,L,J,E⟩:=g;refine call_len_set U O M J (by unfold scanBound at L;omega) ?_;exact⟨.int (eY ns).length,H1,c.kept (t':=i+1+1) λb u z=>n b u (aah z) z,⟨_,by rw[E]⟩,q⟩
variable {args elts:ao}
section
variable {X:Cx}{S:Sx}{k:Nat}{F:aj}{Φ:aT}
def Lk.u40(L:Lk X S k Φ):X.A.units+40<cLine:=by have:=L.room.units;left
def Vn(K:ak)(neg:Bool):R2:=λv u H Q=>∃(d d':D) (N N':jk) (k k':bu),Rep (bc K H) N k v d/\Rep (bc K H) N' k' u d'/\(∀q p xs f,N q p (.l xs) f->dq K H p xs)/\(∀q p xs f,N' q p (.l xs) f->dq K H p xs)/\eJ 40 d=true/\eJ 40 d'=true /\
 Q (.bl (if neg then !i9 d d' else i9 d d')) H
def MO(l:X.A.units+40<cLine):kW X (compareOp .Eq) (Vn X.K false):=by
 intro pins s σ H x y v u Q I b a h;obtain⟨d,d',N,N',k,k',e,c,n1,j,i,g,q⟩:=h;exact(alike I n1 j 40 X.A e c i g b a l).rc X.prog X.w X.xe _ ⟨.bl _,H,I,rfl,q⟩
def MN(l:X.A.units+40<cLine):kW X (compareOp .NotEq) (Vn X.K true):=by
 intro pins s σ H x y v u Q I b a h;obtain⟨d,d',N,N',k,k',e,c,n1,j,i,g,q⟩:=h;exact(alike I n1 j 40 X.A e c i g b a l).ne X.prog X.w X.xe _ ⟨.bl _,H,I,rfl,q⟩
def Dw{k:bu}{v:V}{d:D}(h:Rep T N k v d)(h':Rep T' N' k' v' d')(f:eL d=true)(a:eL d'=true):jC v=true/\Jp v v'=i9 d d':=by
 cases h<;>first | (cases f;done) | (cases h'<;>first | (cases a;done)|exact⟨rfl,rfl⟩)
def rC{k:bu}{v:V}{d:D}(h:Rep T N k v d)(f:eL d=true):jC v=true:=by
 cases h<;>first | (cases f;done)|rfl
theorem sS{T T':m9}{N N':jk}{k':bu}{v:V}{d:D}(a:Rep T' N' k' v d)(f:eL d=true):∀{k:bu} {n:Nat} {xs:ah} {ds:aa},aF T N k n xs ds->ds.all eL=true->xs.all jC=true/\VE v xs=inD d ds
 |_,_,_,_,.nil,_=>⟨rfl,rfl⟩
 |_,_,_,_,.cons h t,fs=>by
  rw[gc,cM]at fs;obtain⟨c,b⟩:=sS a f t fs.2;obtain⟨g,e⟩:=Dw h a fs.1 f;refine⟨by rw[gc,g,c];rfl,?_⟩;unfold VE at b ⊢;rw[mm,e,b];rfl
def Ms(K:ak)(op:Cf):R2:=match op with
 |.eq=>Vn K false
 |.ne=>Vn K true
 |.lt=>DA λi j=>.bl (decide (i<j))
 |.le=>DA λi j=>.bl (decide (i<=j))
 |.gt=>DA λi j=>.bl (decide (j<i))
 |.ge=>DA λi j=>.bl (decide (j<=i))
 |.vW=>rIn K false
def D5(L:Lk X S k Φ)(op:Cf):kW X (compareOp (Xn op)) (Ms X.K op):=by
 cases op with
 |eq=>exact MO L.u40
 |ne=>exact MN L.u40
 |lt=>exact RF
 |le=>exact RG
 |gt=>exact RH
 |ge=>exact RI
 |vW=>exact Bk
def tx{op:CmpOp}{r:Expr}(h:ju r=true):behindInMarks op r=false:=by
 cases r<;>first|rfl | (cases h;done)
def oh{op:Cf}{x y d:D}(a:op=.lt\/op=.le\/op=.gt\/op=.ge)(h:cY op x y=ok d):∃i j,x=.int i/\y=.int j:=by
 cases x with
 |int i=>cases y with
  |int j=>exact⟨i,j,rfl,rfl⟩
  |_=>rcases a with rfl|rfl|rfl|rfl<;>exact nk h
 |_=>rcases a with rfl|rfl|rfl|rfl<;>exact nk h
def wO{op:Cf}{a b:CE}(m:tD X F Φ (.cmp op a b) σ H Q):Ho (Ms X.K op) (tD X F Φ a) (tD X F Φ b) σ H Q:=by
 obtain⟨R,τ,ρ,d,E,c,m⟩:=m;obtain⟨x,U,c⟩:=aC c;obtain⟨y,O,c⟩:=aC c;refine tD.intro E U λv H1 e1 r=>tD.intro (E.go e1) O λu H2 e2 n=>?_;have e:=e1.trans e2;have L:=r.go e2;have M:=n;obtain⟨J,Y,p1⟩:=L;obtain⟨I,W,p2⟩:=M;have sq:∀{A:aj} {τ:Addr->Option bu} (q:bu) (p:Addr) (xs:ah) (f:Fl),nd X.K R A τ H2 q p (.l xs) f->dq X.K H2 p xs:=λq p xs f h=>h.sq;cases op with
 |eq =>
  obtain⟨g,c⟩:=mz c
  ·subst c;rw[cM]at g;exact⟨x,y,_,_,_,_,p1,p2,sq,sq,g.1,g.2,m _ H2 e .bl⟩
 |ne =>
  obtain⟨g,c⟩:=mz c
  ·subst c;rw[cM]at g;exact⟨x,y,_,_,_,_,p1,p2,sq,sq,g.1,g.2,m _ H2 e .bl⟩
 |lt=>obtain⟨i,j,rfl,rfl⟩:=oh (by simp) c;cases c;exact⟨_,_,(r.go e2).isInt,n.isInt,m _ H2 e .bl⟩
 |le=>obtain⟨i,j,rfl,rfl⟩:=oh (by simp) c;cases c;exact⟨_,_,(r.go e2).isInt,n.isInt,m _ H2 e .bl⟩
 |gt=>obtain⟨i,j,rfl,rfl⟩:=oh (by simp) c;cases c;exact⟨_,_,(r.go e2).isInt,n.isInt,m _ H2 e .bl⟩
 |ge=>obtain⟨i,j,rfl,rfl⟩:=oh (by simp) c;cases c;exact⟨_,_,(r.go e2).isInt,n.isInt,m _ H2 e .bl⟩
 |vW =>
  simp only[cY]at c;split at c
  ·rename_i ds t;split at c
   ·rename_i g;rw[cM]at g;cases c;cases p2 with
    |tup h s=>cases t;obtain⟨B,z⟩:=sS p1 g.1 s g.2;exact⟨_,_,rfl,.inr h,rC p1 g.1,B,by rw[z];exact m _ H2 e .bl⟩
    |lst h s=>cases t;obtain⟨B,z⟩:=sS p1 g.1 s g.2;exact⟨_,_,rfl,.inl h.sq,rC p1 g.1,B,by rw[z];exact m _ H2 e .bl⟩
    |_=>cases t
   ·cases c
  ·cases c
def C1{c:CE}{Q:Bool->Hp->Prop}(h:jh X F Φ c σ H Q):tB (tD X F Φ c) σ H Q:=by
 obtain⟨R,τ,ρ,b,l,a,i⟩:=h;unfold nM at a;obtain⟨d,j,g⟩:=aC a;refine tD.intro l j λv H' e r=>?_;cases d<;>simp[jc]at g;cases g;exact⟨_,r.Bz,i H' e⟩
def cK{c:CE}{e:Expr}(h:PE X e (tD X F Φ c))(he:∀whole,isTrue e X.env whole=(do let v <- whole;standAt e.pos;holding [v] (truthy v))):PT X e (jh X F Φ c) :=
 PT.imp (DE h he) λ_ _ _ h=>C1 h
def A5{op:Cf}{a b:CE}{Q:Bool->Hp->Prop}(h:jh X F Φ (.cmp op a b) σ H Q):Kj (Ho (Ms X.K op) (tD X F Φ a) (tD X F Φ b)) σ H Q :=
 wO (C1 h)
def dictAt{pins:av}{s:Shared}{p:Addr}{cs:aL}(I:Inv X pins σ H s)(h:H p=some (.ext (DO p cs as xs ep))):∃o,s.heap.get? p=some o/\o.cls=.type "dict":=by
 obtain⟨⟨c,o,es,_,_,_,b,a,_⟩,_⟩:=(show c_ H s.heap p (.ext (DO p cs as xs ep)) from I.cD p _ h)
 exact⟨o,b,a.1⟩
def Ng(L:Lk X S k Φ)(t:Ty):fY X (.builtin "isinstance") (λxs H Q=>∃(x:V) (d:D) (N:jk) (k:bu),xs=[x,.ty (tyName t)]/\Rep (bc X.K H) N k x d/\(∀q p xs f,N q p (.l xs) f->dq X.K H p xs)/\(∀q p cs as xs ep f,N q p (.d cs as xs ep) f->H p=some (.ext (DO p cs as xs ep)))/\Q (.bl (eE t d)) H):=by
 intro pins s σ H xs O Q I r h;obtain⟨x,d,N,k,rfl,E,M,v,q⟩:=h;obtain⟨u,B,rfl,a,J⟩:=vals2 r;cases (show B=Value.type (tyName t) from J);have c:=ID X.K t;have fin:∀b:Bool,b=eE t d->∀m,EP X pins σ Q (.bool b) { s with toks:=m }:=λb e m=>⟨.bl b,H,I.tok m,rfl,by rw[e];exact q⟩
 cases E with
 |bP=>cases a;exact abc PySem.W.kitx_none I.Cp True.intro (c "NoneType" (by simp[kinds])) (λz=>nomatch z) (fin _ (by cases t<;>rfl))
 |bl b=>cases a;exact abc PySem.W.kitx_bool I.Cp True.intro (c "bool" (by simp[kinds])) (λz=>nomatch z) (fin _ (by cases t<;>rfl))
 |int i=>obtain⟨t',rfl⟩:=a;exact abc PySem.W.kitx_int I.Cp True.intro (c "int" (by simp[kinds])) (λz=>nomatch z) (fin _ (by cases t<;>rfl))
 |str y=>obtain⟨t',rfl⟩:=a;exact abc PySem.W.kitx_str I.Cp True.intro (c "str" (by simp[kinds])) (λz=>nomatch z) (fin _ (by cases t<;>rfl))
 |tup h _ =>
  cases a;obtain⟨aR,_,⟨o,j,g,_⟩,_⟩:=I.tuple h;exact abc PySem.W.kitx_tuple I.Cp ⟨o,j,g⟩ (c "tuple" (by simp[kinds])) (λz=>nomatch z) (fin _ (by cases t<;>rfl))
 |lst h _ =>
  cases a;obtain⟨aR,_,⟨o,n,j,g,_⟩,_⟩:=I.list (M _ _ _ _ h);exact abc PySem.W.kitx_list I.Cp ⟨o,j,g⟩ (c "list" (by simp[kinds])) (λz=>nomatch z) (fin _ (by cases t<;>rfl))
 |cX h _ _ =>
  cases a;obtain⟨o,j,g⟩:∃o,s.heap.get? _=some o/\o.cls=.type "dict":=dictAt I (v _ _ _ _ _ _ _ h);exact abc PySem.W.kitx_dict I.Cp ⟨o,j,g⟩ (c "dict" (by simp[kinds])) (λz=>nomatch z) (fin _ (by cases t<;>rfl))
def JY(t:Ty):bootBuiltins (tyName t:Str)=some (.type (tyName t)):=by
 cases t<;>decide +kernel
def ra(t:Ty):(tyName t:Str) ≠ "__name__" /\ ((tyName t:Str)==("__debug__" : Str))=false:=by
 cases t<;>decide +kernel
def Mg(L:Lk X S k Φ){a:CE}{t:Ty}{e:Expr}{p:Pos}(hf:iD S.sc ("isinstance" : Str)=true)(s:("isinstance" : Str)∈S.bl)(l:iD S.sc (tyName t:Str)=true)(u:(tyName t:Str)∈S.bl)
  (m:PE X e (tD X F Φ a)) (g:∀es,starEach (e::es) X.env=(false,eval e X.env)::starEach es X.env):PE X (.Call (.Name ("isinstance" : Str) p) [e,.Name (tyName t:Str) p'] [] pos) (tD X F Φ (.vV a t)):=by
 have n:PE X (.Name (tyName t:Str) p') (tC (.ty (tyName t))):=zE (L.gl l) (L.bl _ u) (JY t) rfl (ra t).1 (ra t).2;refine PE.imp (eI (Ng L t) (L.gl hf) (L.bl _ s) PyProof.Rows.boot_isinstance (cy m (cy n d7) (g _)) (he:=g _)) λσ H Q b=>?_;obtain⟨R,τ,ρ,d,y,c,b⟩:=b;obtain⟨x,r,c⟩:=aC c;cases c;refine tD.intro y r λv H1 e1 j=>?_;obtain⟨i,z,p1⟩:=j;exact⟨v,x,_,_,rfl,p1,λq p xs f h=>h.sq,λq p cs as xs ep f h=>h.dat,b _ H1 e1 .bl⟩
def Nm:@DI.vT=@L2.vT:=rfl
def Q9(L:Lk X S k Φ){a b:CE}{e i:Expr}(Z:PE X e (tD X F Φ a))(Y:PE X i (tD X F Φ b))(U:oD i):PE X (.Subscript e i pos) (tD X F Φ (.ix a b)):=by
 refine PE.imp (Kz (IF.or Nl) Z Y U) λσ H Q s=>?_;obtain⟨R,τ,ρ,d,B,c,s⟩:=s;obtain⟨x,ex,c⟩:=aC c;obtain⟨y,ey,c⟩:=aC c;refine tD.intro B ex λv H1 e1 M=>tD.intro (B.go e1) ey λu H2 e2 J=>?_;have ee:=e1.trans e2;have I:=(M.go e2).mono (fv':=iE (.ix a b)) λj W=>aaw _ W;have item:∀{q:bu} {xs:ah} {ds:aa} {τt:Addr->Option bu} {j:Int},(∀p q,τt p=some q->H p=none)->aF (bc X.K H2) (nd X.K R (kN (gP X F) τ (iE (.ix a b))) τt H2) q 0 xs ds->uH ds j=ok d->∃w,L2.Ql xs j=some w/\Q w H2:=by
  intro q xs ds τt j n g h;unfold uH at h;split at h
  ·rename_i d' l;cases h;cases r:DI.vT ds.length j with
   |none=>rw[r]at l;cases l
   |some m =>
    rw[r]at l;obtain⟨w,hw,O⟩:=g.get (show ds[m]?=some d' from l);refine⟨w,?_,s w H2 ee ⟨λ_=>none,λ_ _ h=>by simp at h,O.fX B n⟩⟩;unfold L2.Ql;rw[<- Nm,g.length,r];exact hw
  ·cases h
 cases y with
 |int j =>
  obtain⟨τt,n,E⟩:=I;cases J.isInt;cases x with
  |tup ds =>
   cases E with
   | @tup _ p xs _ h g=>obtain⟨w,z,t⟩:=item n g c;exact .inr ⟨p,xs,j,w,rfl,rfl,h,z,t⟩
  |lst f ds =>
   cases E with
   | @lst _ p xs _ _ h g=>obtain⟨w,z,t⟩:=item n g c;exact .inl ⟨p,xs,j,w,rfl,rfl,h.sq,z,t⟩
  |_=>exact nk c
 |_=>cases x<;>cases c
theorem pO:∀(cs:aA) {ρ:aX} {ds:aa},bJ Φ cs ρ=ok ds->ds.length=cs.length
 |[],_,_,h=>by cases h;rfl
 |c::cs,_,_,h=>by
  obtain⟨x,_,h⟩:=aC h;obtain⟨xs,a,h⟩:=aC h;cases h;simp[pO cs a]
def Mc{es:ao}{n:Nat}(h:PA X es (sH X F Φ cs))(hl:cs.length<=1000):PE X (.Tuple es n pos) (tD X F Φ (.tup cs)):=by
 refine PE.imp (MC h) λσ H Q a=>?_;obtain⟨R,τ,ρ,d,l,b,a⟩:=a;obtain⟨ds,e,b⟩:=aC b;cases b;refine⟨R,τ,ρ,ds,l,e,λvs H1 e1 g=>?_⟩;obtain⟨τt,j,c⟩:=g;have m:sizeLine=16777216:=abg;refine⟨by rw[c.length,pO cs e];left,λp i=>?_⟩;have es:aM H1 (upd H1 p (.tup vs)):=aM.upd i;exact a _ _ (e1.trans es) ⟨τt,j,.tup (bc.of aZ) (c.imp (λ_ _ h=>bc.same es h) λ_ _ _ _ h=>nd.same es h)⟩
def Mf{es:ao}(h:PA X es (sH X F Φ cs))(hl:cs.length<=1000):PE X (.List es pos) (tD X F Φ (.lst cs)):=by
 refine PE.imp (yd h) λσ H Q a=>?_;obtain⟨R,τ,ρ,d,n,g,a⟩:=a;obtain⟨ds,j,g⟩:=aC g;cases g;refine⟨R,τ,ρ,ds,n,j,λvs H1 e1 l=>?_⟩;obtain⟨τt,m,i⟩:=l;have r:sizeLine=16777216:=abg;refine⟨by rw[i.length,pO cs j];left,λp e=>?_⟩;have es:aM H1 (upd H1 p (.lst vs)):=aM.upd e;refine a _ _ (e1.trans es) ⟨λq=>if q=p then some []else τt q,λq z a=>?_,.lst ⟨aZ,by simp⟩ (i.imp (λ_ _ h=>bc.same es h) λc q xs f h=>?_)⟩
 ·by_cases b:q=p
  ·subst b;exact e1.free e
  ·simp only[b,if_false]at a;exact m q z a
 ·have h':=nd.same es h;cases f with
  |ow =>
   have b:q≠p:=by
    intro z;subst z;exact h.1.ne e
   exact⟨h'.1,by simp only[b,if_false];exact h'.2⟩
  |fz=>exact h'
  |al=>exact h'
  |sc=>exact h'
def HB(L:Lk X S k Φ){f:Nat}{x:Str}{y:Expr}{m:ao}{p:Pos}(hf:S.fn f=some x)(O:iD S.sc x=true)(hn:nH x=true)(W:PA X (y::m) (sH X F Φ cs))
  (I:∀es,starEach (y::es) X.env=(false,eval y X.env)::starEach es X.env) (hpl:∀pos,(backTo pos (starEach m X.env)).any (·.1)=false):PE X (.Call (.Name x p) (y::m) [] pos) (tD X F Φ (.call f cs)):=by
 obtain⟨a,fd,ps,Fo,J,M,U,hl⟩:=(L.fn f x hf).ex;unfold nH at hn;simp only[cM,i4]at hn;refine PE.imp (zD Fo L.room (L.gl O) J M U .nil (RC (X:=X)) W hn.1.1 (I _) (hpl _)) λσ H Q n=>?_;obtain⟨R,τ,ρ,d,j,g,n⟩:=n;obtain⟨xs,Z,g⟩:=aC g;obtain⟨r,t,g⟩:=aC g;cases g;refine⟨R,τ,ρ,xs,j,Z,λvs H1 e1 E=>?_⟩;obtain⟨τt,Y,s⟩:=E;have fresh:∀p,H p=none->kN (gP X F) τ (dN cs) p:=λp b=>⟨.inr (j.same.free b),λc i e=>absurd b (j.th p _ e)⟩
 have hR:∀p,R p->kN (gP X F) τ (dN cs) p:=λp b=>⟨j.rf p b,λc i e=>by rw[j.rt p b]at e;cases e⟩
 rw[hH];refine⟨kN (gP X F) τ (dN cs),aw aI xs,r,by rw[s.length,<- hl _ _ t,aG,b4],aF.jd (λ_ _ h=>h) (λk k' p xs f h=>?_) s _ _,t,λv H2 e2 u=>?_⟩
 ·cases f with
  |ow=>exact⟨h.1,fresh p (Y p _ h.2)⟩
  |fz=>exact⟨h.1,hR p h.2⟩
  |al=>exact h
  |sc=>exact h
 ·obtain⟨l,Qe,B⟩:=u;refine n v H2 (e1.trans e2) ⟨l,λp q h=>e1.free (Qe p q h),Rep.map (q:=[]) (q':=[]) (λ_ _ h=>h) (λc p xs f h=>?_) B [] rfl⟩;cases f with
  |ow=>exact h
  |fz=>exact⟨h.1,h.2.elim id λz=>fresh p (e1.free z)⟩
  |al=>exact h.2.elim
  |sc=>exact h
def rBf(K:ak)(f:Bf):ah->Hp->VK->Prop:=match f with
 |.len=>λxs H Q=>∃p a,xs=[.ref p]/\(dq K H p a\/bc K H p a)/\Q (.int a.length) H
 |.abs=>λxs H Q=>∃i,xs=[.int i]/\Q (.int (if i<0 then -i else i)) H
 |.tT=>λxs H Q=>(∃i,xs=[.int i]/\Q (.int i) H)\/∃k,xs=[.bl k]/\Q (.int (if k then 1 else 0)) H
 |.list1=>λxs H Q=>∃p a,xs=[.ref p]/\(dq K H p a\/bc K H p a)/\∀l,H l=none->Q (.ref l) (upd H l (.lst a))
 |.tuple1=>λxs H Q=>∃p a,xs=[.ref p]/\((dq K H p a/\∀l,H l=none->Q (.ref l) (upd H l (.tup a)))\/(bc K H p a/\Q (.ref p) H))
 |.ku=>λxs H Q=>∃(p:Addr) (ns:ae),xs=[.ref p]/\dq K H p (ns.map V.int)/\Q (.int ns.sum) H
 |.all1=>λxs H Q=>∃(p:Addr) (bs:List Bool),xs=[.ref p]/\dq K H p (bs.map V.bl)/\Q (.bl (bs.all id)) H
 |.iI=>λxs H Q=>∃(p:Addr) (ns:ae),xs=[.ref p]/\(dq K H p (ns.map V.int)\/bc K H p (ns.map V.int))/\ns.length<64/\∀l,H l=none->Q (.ref l) (upd H l (.lst ((sortI ns).map V.int)))
def aF.one{k:bu}{n:Nat}{d:D}(h:aF T N k n vs [d]):∃v,vs=[v]/\Rep T N (n::k) v d:=by
 cases h with
 |cons h t=>cases t;exact⟨_,rfl,h⟩
def aF.two{k:bu}{n:Nat}{d e:D}(h:aF T N k n vs [d,e]):∃v w,vs=[v,w]/\Rep T N (n::k) v d/\Rep T N ((n+1)::k) w e:=by
 cases h with
 |cons h t=>obtain⟨w,rfl,h'⟩:=t.one;exact⟨_,_,rfl,h,h'⟩
def aF.ints1{k:bu}{n:Nat}{i:Int}(h:aF T N k n vs [.int i]):vs=[.int i]:=by
 obtain⟨v,rfl,z⟩:=h.one;cases z;rfl
noncomputable def Bf.one:Bf->Bool
 |_=>true
def Lg{f:Bf}{xs:aa}{d:D}(hf:f.one=true)(h:uT f xs=ok d):∃x,xs=[x]:=by
 cases xs with
 |nil=>cases f<;>exact nk h
 |cons x xs=>cases xs with
  |nil=>exact⟨x,rfl⟩
  |cons y a=>cases f<;>first | (cases hf;done) | (cases x<;>exact nk h)
theorem aF.ofInts{T:m9}{N:jk}{k:bu}:∀{ns:ae} {n:Nat} {vs:ah},aF T N k n vs (ns.map D.int)->vs=ns.map V.int
 |[],_,_,h=>by cases h;rfl
 |i::ns,_,_,h=>by
  cases h with
  |cons h t=>cases h;rw[aF.ofInts t];rfl
theorem aF.KD{T:m9}{N:jk}{k:bu}:∀{ns:List Bool} {n:Nat} {vs:ah},aF T N k n vs (ns.map D.bl)->vs=ns.map V.bl
 |[],_,_,h=>by cases h;rfl
 |i::ns,_,_,h=>by
  cases h with
  |cons h t=>cases h;rw[aF.KD t];rfl
theorem my{T:m9}{N:jk}{k:bu}:∀(ns:ae) {n:Nat},aF T N k n (ns.map V.int) (ns.map D.int)
 |[],_=>.nil
 |i::ns,_=>.cons (.int i) (my ns)
def J0{f:Bf}(c:tD X F Φ (.bf f cs) σ H Q):Pt (rBf X.K f) (sH X F Φ cs) σ H Q:=by
 obtain⟨R,τ,ρ,d,m,a,c⟩:=c;obtain⟨xs,t,a⟩:=aC a;refine⟨R,τ,ρ,xs,m,t,λvs H1 e1 s=>?_⟩;obtain⟨τt,p,j⟩:=s;cases f with
 |len =>
  obtain⟨x,rfl⟩:=Lg rfl a;obtain⟨v,rfl,b⟩:=j.one;cases x with
  |tup ds=>cases a;obtain⟨_,_,rfl,h,r⟩:=b.LG;exact⟨_,_,rfl,.inr h,by rw[r.length];exact c _ H1 e1 .int⟩
  |lst f ds=>cases a;obtain⟨_,_,rfl,h,r⟩:=b.qA;exact⟨_,_,rfl,.inl h.sq,by rw[r.length];exact c _ H1 e1 .int⟩
  |_=>exact nk a
 |abs =>
  obtain⟨x,rfl⟩:=Lg rfl a;cases x with
  |int i=>cases a;cases j.ints1;exact⟨_,rfl,c _ H1 e1 .int⟩
  |_=>exact nk a
 |tT =>
  obtain⟨x,rfl⟩:=Lg rfl a;obtain⟨v,rfl,b⟩:=j.one;cases x with
  |bl i=>cases a;cases b;exact .inr ⟨_,rfl,c _ H1 e1 .int⟩
  |_=>exact nk a
 |list1 =>
  obtain⟨x,rfl⟩:=Lg rfl a;obtain⟨v,rfl,b⟩:=j.one;cases x with
  |tup ds =>
   cases a;obtain⟨_,_,rfl,h,r⟩:=b.LG;refine⟨_,_,rfl,.inr h,λl hl=>?_⟩;exact c _ _ (e1.trans (aM.upd hl)) (b_.qK (e1.free hl) (e1.trans (aM.upd hl)) aZ ((r.fX m p).imp (λ_ _ h=>bc.same (aM.upd hl) h) λ_ _ _ _ h=>nd.same (aM.upd hl) h))
  |lst f ds =>
   cases a;obtain⟨_,_,rfl,h,r⟩:=b.qA;refine⟨_,_,rfl,.inl h.sq,λl hl=>?_⟩;exact c _ _ (e1.trans (aM.upd hl)) (b_.qK (e1.free hl) (e1.trans (aM.upd hl)) aZ ((r.fX m p).imp (λ_ _ h=>bc.same (aM.upd hl) h) λ_ _ _ _ h=>nd.same (aM.upd hl) h))
  |_=>exact nk a
 |tuple1 =>
  obtain⟨x,rfl⟩:=Lg rfl a;obtain⟨v,rfl,b⟩:=j.one;cases x with
  |lst f ds =>
   cases a;obtain⟨_,_,rfl,h,r⟩:=b.qA;refine⟨_,_,rfl,.inl ⟨h.sq,λl hl=>?_⟩⟩;exact c _ _ (e1.trans (aM.upd hl)) ⟨λ_=>none,λ_ _ h=>by simp at h,.tup (bc.of aZ) ((r.fX m p).imp (λ_ _ h=>bc.same (aM.upd hl) h) λ_ _ _ _ h=>nd.same (aM.upd hl) h)⟩
  |_=>exact nk a
 |ku =>
  obtain⟨x,rfl⟩:=Lg rfl a;obtain⟨v,rfl,b⟩:=j.one;cases x with
  |lst f ds =>
   have a:(match intsOf ds with|some ns=>ok (.int ns.sum)|none=>none)=ok d:=a;cases g:intsOf ds with
   |none=>rw[g]at a;cases a
   |some ns =>
    rw[g]at a;cases a;cases dJ g;cases b with
    |lst h r=>cases r.ofInts;exact⟨_,ns,rfl,h.sq,c _ H1 e1 .int⟩
  |_=>exact nk a
 |all1 =>
  obtain⟨x,rfl⟩:=Lg rfl a;obtain⟨v,rfl,b⟩:=j.one;cases x with
  |lst f ds =>
   have a:(match jI ds with|some bs=>ok (.bl (bs.all id))|none=>none)=ok d:=a;cases g:jI ds with
   |none=>rw[g]at a;cases a
   |some ns =>
    rw[g]at a;cases a;cases wY g;cases b with
    |lst h r=>cases r.KD;exact⟨_,ns,rfl,h.sq,c _ H1 e1 .bl⟩
  |_=>exact nk a
 |iI =>
  obtain⟨x,rfl⟩:=Lg rfl a;obtain⟨v,rfl,b⟩:=j.one;have fin:∀ds,vm ds=ok d->∃ns:ae,ds=ns.map D.int/\ns.length<64/\∀l,H1 l=none->Q (.ref l) (upd H1 l (.lst ((sortI ns).map V.int))):=by
   intro ds e;unfold vm at e;split at e
   ·rename_i ns g;split at e
    ·rename_i n;cases e;refine⟨ns,dJ g,n,λl hl=>c _ _ (e1.trans (aM.upd hl)) (b_.qK (e1.free hl) (e1.trans (aM.upd hl)) aZ (my _))⟩
    ·cases e
   ·cases e
  cases x with
  |tup ds =>
   obtain⟨ns,rfl,n,q⟩:=fin ds a;cases b with
   |tup h r=>cases r.ofInts;exact⟨_,ns,rfl,.inr h,n,q⟩
  |_=>exact nk a
def Q_(L:Lk X S k Φ){f:Bf}{y:Expr}{e:ao}{p:Pos}(b:iD S.sc (uz f:Str)=true)(c:(uz f:Str)∈S.bl)(d:PA X (y::e) (sH X F Φ cs))
  (a:∀es,starEach (y::es) X.env=(false,eval y X.env)::starEach es X.env) (hpl:∀pos,(backTo pos (starEach e X.env)).any (·.1)=false):PE X (.Call (.Name (uz f:Str) p) (y::e) [] pos) (tD X F Φ (.bf f cs)):=by
 refine PE.imp (t:=Pt (rBf X.K f) (sH X F Φ cs)) ?_ λσ H Q g=>J0 g;cases f with
 |len=>exact eI uv (L.gl b) (L.bl _ c) acH d (he:=a _) (hpl:=hpl _)
 |abs=>exact eI Ge (L.gl b) (L.bl _ c) (by decide +kernel) d (he:=a _) (hpl:=hpl _)
 |tT=>exact mn B8 (L.gl b) (L.bl _ c) (by decide +kernel) d (he:=a _) (hpl:=hpl _)
 |list1=>exact mn uu (L.gl b) (L.bl _ c) (by decide +kernel) d (he:=a _) (hpl:=hpl _)
 |tuple1=>exact mn qQ (L.gl b) (L.bl _ c) (by decide +kernel) d (he:=a _) (hpl:=hpl _)
 |ku=>exact eI (B5 L.calm) (L.gl b) (L.bl _ c) (by decide +kernel) d (he:=a _) (hpl:=hpl _)
 |iI=>exact eI ur (L.gl b) (L.bl _ c) (by decide +kernel) d (he:=a _) (hpl:=hpl _)
 |all1=>exact eI (B9 L.calm) (L.gl b) (L.bl _ c) (by decide +kernel) d (he:=a _) (hpl:=hpl _)
def Hz(L:Lk X S k Φ){a:CE}{e:Expr}{p:Pos}(hf:iD S.sc ("len" : Str)=true)(t:("len" : Str)∈S.bl)(n:iD S.sc ("set" : Str)=true)(u:("set" : Str)∈S.bl)
  (q:PE X e (tD X F Φ a)) (g:∀es,starEach (e::es) X.env=(false,eval e X.env)::starEach es X.env):PE X (.Call (.Name ("len" : Str) p) [.Call (.Name ("set" : Str) p') [e] [] pos'] [] pos) (tD X F Φ (.mx a)):=by
 refine PE.imp (H_ L.calm (L.gl hf) (L.bl _ t) (L.gl n) (L.bl _ u) (cy q d7 (g _)) g) λσ H Q c=>?_;obtain⟨R,τ,ρ,d,y,b,c⟩:=c;obtain⟨x,s,b⟩:=aC b;refine tD.intro y s λv H1 e1 l=>?_;obtain⟨i,z,j⟩:=l;cases x with
 |tup ds =>
  simp only[zQ]at b;split at b
  ·rename_i ns m;split at b
   ·rename_i hl;cases b;cases dJ m;cases j with
    |tup h r=>cases r.ofInts;exact⟨_,ns,rfl,h,hl,c _ H1 e1 .int⟩
   ·cases b
  ·cases b
 |_=>exact nk b
def Md{a:CE}{e:Expr}(h:PE X e (tD X F Φ a)):PE X (.UnaryOp .Not e pos) (tD X F Φ (.not a)):=by
 refine PE.imp (MD h) λσ H Q g=>?_;obtain⟨R,τ,ρ,d,m,i,g⟩:=g;obtain⟨b,c,i⟩:=aC i;obtain⟨x,l,c⟩:=aC c;cases i;refine tD.intro m l λv H1 e1 j=>?_;cases x<;>simp[jc]at c;cases c;exact⟨_,j.Bz,g _ H1 e1 .bl⟩
def L5{a:CE}{e:Expr}(h:PT X e (jh X F Φ a)):PT X (.UnaryOp .Not e pos) (jh X F Φ (.not a)):=by
 refine PT.imp (DF h) λσ H Q i=>?_;obtain⟨R,τ,ρ,b,n,g,i⟩:=i;unfold nM at g;obtain⟨d,j,g⟩:=aC g;obtain⟨c,l,j⟩:=aC j;cases j;have m:b=!c:=by
  have e2:ok (!c)=ok b:=g;exact(Except.ok.inj (aaq e2)).symm
 subst m;exact⟨R,τ,ρ,c,n,l,λH' e=>i H' e⟩
def Me{a:CE}{e:Expr}(h:PE X e (tD X F Φ a)):PE X (.UnaryOp .USub e pos) (tD X F Φ (.neg a)):=by
 refine PE.imp (Ry LP h) λσ H Q c=>?_;obtain⟨R,τ,ρ,d,j,b,c⟩:=c;obtain⟨x,i,b⟩:=aC b;refine tD.intro j i λv H1 e1 g=>?_;cases x<;>simp[Iq]at b;cases b;exact⟨_,g.isInt,c _ H1 e1 .int⟩
def J3{c:CE}(e:tD X F Φ (.and [c]) σ H Q):tD X F Φ c σ H Q:=by
 obtain⟨R,τ,ρ,d,l,g,e⟩:=e;obtain⟨b,a,g⟩:=aC g;obtain⟨x,j,a⟩:=aC a;cases g;refine tD.intro l j λv H1 e1 i=>?_;cases x<;>simp[jc]at a;cases a;rw[i.Bz];exact e _ H1 e1 .bl
def MJ{c:CE}(e:tD X F Φ (.or [c]) σ H Q):tD X F Φ c σ H Q:=by
 obtain⟨R,τ,ρ,d,l,g,e⟩:=e;obtain⟨b,a,g⟩:=aC g;obtain⟨x,j,a⟩:=aC a;cases g;refine tD.intro l j λv H1 e1 i=>?_;cases x<;>simp[jc]at a;cases a;rw[i.Bz];exact e _ H1 e1 .bl
def Gn{c:CE}{Q:Bool->Hp->Prop}(e:jh X F Φ (.and [c]) σ H Q):jh X F Φ c σ H Q:=by
 obtain⟨R,τ,ρ,d,j,a,e⟩:=e;unfold nM at a;obtain⟨b,g,a⟩:=aC a;obtain⟨x,i,g⟩:=aC g;cases g;cases a;exact⟨R,τ,ρ,_,j,i,e⟩
def Ic{c:CE}{Q:Bool->Hp->Prop}(e:jh X F Φ (.or [c]) σ H Q):jh X F Φ c σ H Q:=by
 obtain⟨R,τ,ρ,d,j,a,e⟩:=e;unfold nM at a;obtain⟨b,g,a⟩:=aC a;obtain⟨x,i,g⟩:=aC g;cases g;cases a;exact⟨R,τ,ρ,_,j,i,e⟩
def Gp{c:CE}(g:tD X F Φ (.and (c::c'::cs)) σ H Q):Kl (tD X F Φ c) (tD X F Φ (.and (c'::cs))) σ H Q:=by
 obtain⟨R,τ,ρ,d,l,a,g⟩:=g;obtain⟨b,j,a⟩:=aC a;obtain⟨x,p,j⟩:=aC j;refine tD.intro l p λv H1 e1 m=>?_;cases x<;>simp[jc]at j;cases j;refine⟨_,m.Bz,?_⟩;cases b with
 |true =>
  rw[cc rfl]at a ⊢;exact tD.intro (l.go e1) a λv H' e r=>g v H' (e1.trans e) ((r.old e1).mono λi n=>aam _ n)
 |false =>
  rw[cb (by simp)]at a ⊢;cases a;exact g _ H1 e1 .bl
def Ie{c:CE}(g:tD X F Φ (.or (c::c'::cs)) σ H Q):QK (tD X F Φ c) (tD X F Φ (.or (c'::cs))) σ H Q:=by
 obtain⟨R,τ,ρ,d,l,a,g⟩:=g;obtain⟨b,j,a⟩:=aC a;obtain⟨x,p,j⟩:=aC j;refine tD.intro l p λv H1 e1 m=>?_;cases x<;>simp[jc]at j;cases j;refine⟨_,m.Bz,?_⟩;cases b with
 |false =>
  rw[cb (by simp)]at a ⊢;exact tD.intro (l.go e1) a λv H' e r=>g v H' (e1.trans e) ((r.old e1).mono λi n=>aam _ n)
 |true =>
  rw[cc rfl]at a ⊢;cases a;exact g _ H1 e1 .bl
def B_{c:CE}{Q:Bool->Hp->Prop}(g:jh X F Φ (.and (c::c'::cs)) σ H Q):QS (jh X F Φ c) (jh X F Φ (.and (c'::cs))) σ H Q:=by
 obtain⟨R,τ,ρ,d,j,a,g⟩:=g;unfold nM at a;obtain⟨x,l,i⟩:=aC a;obtain⟨b,m,a⟩:=aC l;refine⟨R,τ,ρ,b,j,m,λH1 e1=>?_⟩;cases b with
 |true =>
  rw[cc rfl]at a ⊢;exact⟨R,τ,ρ,d,j.go e1,by unfold nM;rw[show bo Φ (.and (c'::cs)) ρ=ok x from a];exact i,λH' e=>g H' (e1.trans e)⟩
 |false =>
  rw[cb (by simp)]at a ⊢;cases a;cases i;exact g H1 e1
def D2{c:CE}{Q:Bool->Hp->Prop}(g:jh X F Φ (.or (c::c'::cs)) σ H Q):tOr (jh X F Φ c) (jh X F Φ (.or (c'::cs))) σ H Q:=by
 obtain⟨R,τ,ρ,d,j,a,g⟩:=g;unfold nM at a;obtain⟨x,l,i⟩:=aC a;obtain⟨b,m,a⟩:=aC l;refine⟨R,τ,ρ,b,j,m,λH1 e1=>?_⟩;cases b with
 |false =>
  rw[cb (by simp)]at a ⊢;exact⟨R,τ,ρ,d,j.go e1,by unfold nM;rw[show bo Φ (.or (c'::cs)) ρ=ok x from a];exact i,λH' e=>g H' (e1.trans e)⟩
 |true =>
  rw[cc rfl]at a ⊢;cases a;cases i;exact g H1 e1
def iH{Q:ah->Hp->Prop}(a:sH X F Φ [] σ H Q):QM σ H Q:=by
 obtain⟨R,τ,ρ,d,c,b,a⟩:=a;cases b;exact a _ H (aM.refl H) .nil
def fH{c:CE}{Q:ah->Hp->Prop}(b:sH X F Φ (c::cs) σ H Q):Kk (tD X F Φ c) (sH X F Φ cs) σ H Q:=by
 obtain⟨R,τ,ρ,d,g,a,b⟩:=b;obtain⟨x,m,a⟩:=aC a;obtain⟨xs,n,a⟩:=aC a;cases a;refine tD.intro g m λv H1 e1 l=>⟨R,τ,ρ,xs,g.go e1,n,λvs H2 e2 j=>b _ H2 (e1.trans e2) (cI.cons e1 e2 (l.mono λi e=>aaw _ e) (j.mono λi e=>aam _ e))⟩
def cx{c:CE}{e:Expr}(h:cg S c e=true)(es:ao)(env:Env):starEach (e::es) env=(false,eval e env)::starEach es env:=by
 cases e<;>first|rfl | (cases c<;>exact(aae h).elim)
theorem yO:∀{cs:aA} {es:ao},b7 S cs es=true->∀(pos:Pos) (env:Env),(backTo pos (starEach es env)).any (·.1)=false
 |[],[],_,_,_=>rfl
 |[],_::_,h,_,_=>by exact(aae h).elim
 |_::_,[],h,_,_=>by exact(aae h).elim
 |c::cs,e::es,h,pos,env=>by
  replace h:=aH h;rw[cx h.1];have:=yO h.2 pos env;unfold backTo at this ⊢;simp only[dx,mm,Bool.false_or];exact this
def r9{c:CE}{e:Expr}(h:cg S c e=true):oD e:=by
 intro o i;cases e<;>first|rfl | (cases c<;>exact(aae h).elim)
def De{j:Nat}:PE X (.Constant .none j pos) (tD X F Φ .bP):=PE.imp DW λσ H Q c=>by obtain⟨R,τ,ρ,d,e,b,a⟩:=c;cases b;exact a _ H (aM.refl H) .bP
def Kq{b:Bool}{j:Nat}:PE X (.Constant (.bool b) j pos) (tD X F Φ (.bl b)):=PE.imp RA λσ H Q e=>by obtain⟨R,τ,ρ,d,g,c,a⟩:=e;cases c;exact a _ H (aM.refl H) .bl
def Dg{i:Int}{j:Nat}:PE X (.Constant (.int i) j pos) (tD X F Φ (.int i)):=PE.imp ME λσ H Q c=>by obtain⟨R,τ,ρ,d,e,b,a⟩:=c;cases b;exact a _ H (aM.refl H) .int
def Dd{i:Str}{j:Nat}:PE X (.Constant (.str i) j pos) (tD X F Φ (.str i)):=PE.imp tm λσ H Q c=>by obtain⟨R,τ,ρ,d,e,b,a⟩:=c;cases b;exact a _ H (aM.refl H) .str
def Nv(L:Lk X S k Φ){y:Expr}{p u:Pos}(m:iD S.sc ("range" : Str)=true)(l:("range" : Str)∈S.bl)(j:PA X [y] (sH X F Φ es))(a:b7 S es [y]=true)
  (pins:av) (s:Shared) (σ:St) (H:Hp) (R:aj) (τ:Addr->Option bu) (ρ:aX) (xs items:aa) (I:Inv X pins σ H s) (r:SI X F R τ ρ σ H) (q:bJ Φ es ρ=ok xs) (b:eK Φ .jr xs=ok items) (d:It->Hp->Prop)
  (hR:∀J H2,aM H H2->Yl X.K J (mh X F τ (caps++dN es) H2) H2 items->d J H2) :
  wpAny (model X.prog X.w) X.A (eval (.Call (.Name ("range" : Str) p) [y] [] u) X.env) (λv e=>wpAny (model X.prog X.w) X.A (pyIter v) (Cv X pins σ target d) X.xe e) X.xe s:=by
 match es,a with
 |[c],a =>
  replace a:=aH a;refine rG (L.gl m) (L.bl _ l) j (cx a.1 _ _) pins s σ H d I ⟨R,τ,ρ,xs,r,q,λvs H1 e1 g=>?_⟩;obtain⟨τt,B,i⟩:=g;obtain⟨n,rfl⟩:∃n,xs=[.int n]:=by
   cases xs with
   |nil=>cases b
   |cons x t=>cases x<;>first | (cases b;done) | (cases t with|nil=>exact⟨_,rfl⟩|cons _ _=>cases b)
  cases i.ints1
  ·obtain⟨⟨c1,E⟩,b⟩:=mz b;subst b;have z:(du:Int)=1000000:=rfl;refine⟨n,rfl,by left,by left,hR _ H1 e1 ?_⟩;have:=LA (X:=X) (lo:=0) (n:=n.toNat) (R:=mh X F τ (caps++dN [c]) H1) (H1:=H1);simpa using this
 |[],a=>exact(aae a).elim
 |_::_::_,a=>exact(aae (aH a).2).elim
def Nu(L:Lk X S k Φ){c:CE}{y:Expr}(u:PE X y (tD X F Φ c))
  (pins:av) (s:Shared) (σ:St) (H:Hp) (R:aj) (τ:Addr->Option bu) (ρ:aX) (xs items:aa) (I:Inv X pins σ H s) (e:SI X F R τ ρ σ H) (d:bJ Φ [c] ρ=ok xs) (l:eK Φ .seq xs=ok items) (g:It->Hp->Prop)
  (hR:∀J H2,aM H H2->Yl X.K J (mh X F τ (caps++dN [c]) H2) H2 items->g J H2) :
  wpAny (model X.prog X.w) X.A (eval y X.env) (λv B=>wpAny (model X.prog X.w) X.A (pyIter v) (Cv X pins σ target g) X.xe B) X.xe s:=by
 obtain⟨x,z,d⟩:=aC d;obtain⟨xs',M,d⟩:=aC d;cases M;cases d;have b:∀i∈iE c,i∈caps++dN [c]:=λi E=>aam _ (aaw _ E);cases x with
 |tup ds =>
  cases l;refine yc u pins s σ H g I (tD.intro e z λv H1 e1 m=>?_);obtain⟨τt,t,r⟩:=m;cases r with
  | @tup _ p j _ a n=>exact⟨p,rfl,⟨j,a⟩,hR _ H1 e1 (Lz (q:=[]) a (aF.jd (λ_ _ h=>h) (xX e t b) n _ _))⟩
 |lst f ds =>
  cases l;refine s_ u pins s σ H g I (tD.intro e z λv H1 e1 m=>?_);obtain⟨τt,t,r⟩:=m;cases r with
  | @lst _ p j _ _ a n=>exact⟨p,rfl,⟨j,a.sq⟩,hR _ H1 e1 (Ha (q:=[]) a.sq (aF.jd (λ_ _ h=>h) (xX e t b) n _ _))⟩
 |_=>cases l
def Qs{xs:aa}{J:It}(l:SI X F R τ ρ σ H)(hs:∀i∈fv,i∈fv')(r:cI X.K (gP X F) R τ fv H H2 vs xs)(y:J7 X.K J H2 vs xs items):
  Yl X.K J (mh X F τ fv' H2) H2 items:=by
 obtain⟨τt,j,c⟩:=r;have a:∀H',aM H2 H'->aF (bc X.K H') (nd X.K (mh X F τ fv' H2) (λ_=>False) (λ_=>none) H') [] 0 vs (aw aI xs):=λH' e =>
  (aF.jd (T':=bc X.K H2) (λ_ _ h=>h) (xX l j hs) c [] 0).imp (λ_ _ h=>bc.same e h) λ_ _ _ _ h=>nd.same e h
 have st:∀H',aM H2 H'->qf X.K H2 vs xs H':=λH' e=>⟨⟨_,a H2 (aM.refl H2),λp o _ h=>e p o h⟩,λ_ _ h=>bc.same e h⟩
 exact⟨λi H' e b=>y.go i H' _ (st H' e) (a H' e) b,λi H' x d e b g=>y.uW i H' _ x d (st H' e) (a H' e) b g,λi H' e b=>y.stop i H' _ (st H' e) (a H' e) b⟩
def Nw(L:Lk X S k Φ){p:Nat}{y:Expr}(l:S.px.pi p S.sc S.bl y=some args)(j:(decide (1100<=p)||gu target)=true)(hs:qT X F Φ es args)
  (pins:av) (s:Shared) (σ:St) (H:Hp) (R:aj) (τ:Addr->Option bu) (ρ:aX) (xs items:aa) (I:Inv X pins σ H s) (b:SI X F R τ ρ σ H) (t:bJ Φ es ρ=ok xs) (e:eK Φ (.cL p) xs=ok items) (a:It->Hp->Prop)
  (hR:∀J H2,aM H H2->Yl X.K J (mh X F τ (caps++dN es) H2) H2 items->a J H2) :
  wpAny (model X.prog X.w) X.A (eval y X.env) (λv g=>wpAny (model X.prog X.w) X.A (pyIter v) (Cv X pins σ target a) X.xe g) X.xe s:=by
 obtain⟨d,q,n⟩:=aC (show bd (Φ p xs) mf=ok items from e);exact L.pr.i X _ _ k L.pX p y args l F es target j hs pins s σ H R τ ρ xs d items I b t q n a λJ H2 vs e2 r c=>hR J H2 e2 (Qs b (λi m=>by simp[m]) r c)
def wL{i:Sx}{a:ao}(m:bQ.length<=1)(g:b7 i bQ a=true)
  (l:∀(b:Cx) (d:aj),Lk b i k Φ->∀(j:Nat) (c:CE) (e:Expr),bQ[j]?=some c->a[j]?=some e->PE b e (tD b d Φ c)/\PT b e (jh b d Φ c)) :
  (bQ=[]/\a=[])\/∃c e,bQ=[c]/\a=[e]/\∀(b:Cx) (d:aj),Lk b i k Φ->PT b e (jh b d Φ c):=by
 cases bQ with
 |nil=>cases a with
  |nil=>exact .inl ⟨rfl,rfl⟩
  |cons _ _=>exact(aae g).elim
 |cons c cs=>cases cs with
  |cons _ _=>simp at m
  |nil=>cases a with
   |nil=>exact(aae g).elim
   |cons e a=>cases a with
    |cons _ _=>exact(aae (aH g).2).elim
    |nil=>exact .inr ⟨c,e,rfl,rfl,λb d n=>(l b d n 0 c e rfl rfl).2⟩
def UA(S:Sx)(a:IK)(es:aA)(target iter:Expr):Bool:=match a with
 |.jr=>bz (fV iter) λw=>decide (w.1=("range" : Str))&&iD S.sc w.1&&decide (w.1∈S.bl)&&bz (one w.2) λy=>b7 S es [y]
 |.seq=>b7 S es [iter]
 |.cL p=>Rx iter&&(decide (1100<=p)||gu target)&&bz (S.px.pi p S.sc S.bl iter) λxs=>b7 S es xs
def ED(L:Lk X S k Φ){d:IK}(U:∀l,b7 S es l=true->PA X l (sH X F Φ es))
  (q:∀l,b7 S es l=true->∀(j:Nat) (c:CE) (e:Expr),es[j]?=some c->l[j]?=some e->PE X e (tD X F Φ c)/\PT X e (jh X F Φ c)) (g:∀l,b7 S es l=true->qT X F Φ es l) (a:UA S d es target iter=true) :
  ∀(pins:av) (s:Shared) (σ:St) (H:Hp) (R:aj) (τ:Addr->Option bu) (ρ:aX) (xs items:aa),Inv X pins σ H s->SI X F R τ ρ σ H->bJ Φ es ρ=ok xs->eK Φ d xs=ok items->∀(m:It->Hp->Prop),
   (∀J H2,aM H H2->Yl X.K J (mh X F τ (caps++dN es) H2) H2 items->m J H2) ->
   wpAny (model X.prog X.w) X.A (eval iter X.env) (λv n=>wpAny (model X.prog X.w) X.A (pyIter v) (Cv X pins σ target m) X.xe n) X.xe s:=by
 cases d with
 |jr =>
  obtain⟨⟨x,as⟩,r,a⟩:=bt a;obtain⟨p,W,rfl⟩:=cw r;obtain⟨I,i⟩:=aH a;obtain⟨M,z⟩:=aH I;obtain⟨O,B⟩:=aH M;obtain rfl:x=_:=aad O;obtain⟨y,t,b⟩:=bt i;obtain rfl:as=[y]:=bR t;exact Nv L B (aad z) (U _ b) b
 |seq =>
  have E:=q _ a;cases es with
  |nil=>exact(aae a).elim
  |cons c cs=>cases cs with
   |cons _ _=>exact(aae (aH a).2).elim
   |nil=>exact Nu L (E 0 c _ rfl rfl).1
 |cL p =>
  obtain⟨a,i⟩:=aH a;obtain⟨xs,u,b⟩:=bt i;exact Nw L u (aH a).2 (g _ b)
mutual
theorem bD:∀(c:CE) (X:Cx) (S:Sx) (F:aj) (L:Lk X S k Φ) (e:Expr),cg S c e=true->PE X e (tD X F Φ c)/\PT X e (jh X F Φ c)
 |.cL p cs,X,S,F,L,e,h=>by
  obtain⟨args,ha,hb⟩:=bt (aH h).2;exact L.pr.e X _ _ k L.pX p e args ha F cs (jR cs X S F L args hb)
 |.bP,X,S,F,L,e,h=>by
  obtain⟨c,m,h_1⟩:=bt h;obtain⟨j,p,rfl⟩:=zg m;obtain rfl:=Bw h_1;exact⟨De,cK De λ_=>rfl⟩
 |.bl b,X,S,F,L,e,h=>by
  obtain⟨c,m,h_1⟩:=bt h;obtain⟨j,p,rfl⟩:=zg m;obtain rfl:=EH h_1;exact⟨Kq,cK Kq λ_=>rfl⟩
 |.int i,X,S,F,L,e,h=>by
  obtain⟨c,m,h_1⟩:=bt h;obtain⟨j,p,rfl⟩:=zg m;obtain rfl:=Bx h_1;exact⟨Dg,cK Dg λ_=>rfl⟩
 |.str t,X,S,F,L,e,h=>by
  obtain⟨c,m,h_1⟩:=bt h;obtain⟨j,p,rfl⟩:=zg m;obtain rfl:=Bu h_1;exact⟨Dd,cK Dd λ_=>rfl⟩
 |.v i,X,S,F,L,e,h=>by
  obtain⟨x,m,h'⟩:=bt h;obtain⟨p,rfl⟩:=kr m;have:=W3 (F:=F) L h;exact⟨this,cK this λ_=>rfl⟩
 |.glo x i,X,S,F,L,e,h=>by
  obtain⟨y,m,h_1⟩:=bt h;obtain⟨pos,rfl⟩:=kr m;obtain⟨h_2,E⟩:=aH h_1;obtain⟨B,s⟩:=aH h_2;obtain⟨O,q⟩:=aH B;obtain rfl:=aad O;obtain⟨u,hm,r⟩:=L.cs _ _ (aad s);have this:PE X (.Name y pos) (tD X F Φ (.glo y i)):=PE.imp (zC (v:=.int i) (L.gl q) hm r (gN E)) λσ H Q b8=>by obtain⟨R,τ,ρ,d,Si,M,hq⟩:=b8;cases M;exact hq _ H (aM.refl H) .int
  exact⟨this,cK this λ_=>rfl⟩
 |.bin op a b,X,S,F,L,e,h=>by
  obtain⟨⟨l,o,r⟩,m,h_1⟩:=bt h;obtain⟨pos,rfl⟩:=zh m;obtain⟨h_2,s⟩:=aH h_1;obtain⟨B,q⟩:=aH h_2;obtain rfl:o=RJ op:=aad B;have:=Mh (F:=F) (pos:=pos) L (op:=op) (bD a X S F L _ q).1 (bD b X S F L _ s).1;exact⟨this,cK this λ_=>rfl⟩
 |.neg a,X,S,F,L,e,h=>by
  obtain⟨⟨o,x⟩,m,h_1⟩:=bt h;obtain⟨pos,rfl⟩:=CJ m;obtain⟨h_2,q⟩:=aH h_1;obtain rfl:o=.USub:=aad h_2;have:=Me (F:=F) (Φ:=Φ) (pos:=pos) (bD a X S F L _ q).1;exact⟨this,cK this λ_=>rfl⟩
 |.not a,X,S,F,L,e,h=>by
  obtain⟨⟨o,x⟩,m,h_1⟩:=bt h;obtain⟨pos,rfl⟩:=CJ m;obtain⟨h_2,q⟩:=aH h_1;obtain rfl:o=.Not:=aad h_2;exact⟨Md (bD a X S F L _ q).1,L5 (bD a X S F L _ q).2⟩
 |.and cs,X,S,F,L,e,h=>by
  obtain⟨⟨o,vs⟩,m,h_1⟩:=bt h;obtain⟨pos,rfl⟩:=uZ m;obtain⟨h_2,q⟩:=aH h_1;obtain rfl:o=.And:=aad h_2;exact⟨(md cs X S F L vs q pos).1,(md cs X S F L vs q pos).2.pt⟩
 |.or cs,X,S,F,L,e,h=>by
  obtain⟨⟨o,vs⟩,m,h_1⟩:=bt h;obtain⟨pos,rfl⟩:=uZ m;obtain⟨h_2,q⟩:=aH h_1;obtain rfl:o=.Or:=aad h_2;exact⟨(oR cs X S F L vs q pos).1,(oR cs X S F L vs q pos).2.pt⟩
 |.cmp op a b,X,S,F,L,e,h=>by
  obtain⟨⟨l,os,rs⟩,m,h_1⟩:=bt h;obtain⟨pos,rfl⟩:=sD m;obtain⟨h_2,s⟩:=aH h_1;obtain⟨B,q⟩:=aH h_2;obtain⟨r,hr,Y5⟩:=bt s;obtain⟨Tx,E⟩:=aH Y5;obtain rfl:os=[Xn op]:=aad B;obtain rfl:rs=[r]:=bR hr;exact⟨PE.imp (tq (D5 L op) (bD a X S F L _ q).1 (bD b X S F L _ Tx).1 (tx E)) λ_ _ _ B=>wO B,PT.imp (sV (D5 L op) (bD a X S F L _ q).1 (bD b X S F L _ Tx).1 (tx E)) λ_ _ _ B=>A5 B⟩
 |.vV a t,X,S,F,L,e,h=>by
  obtain⟨⟨f,as⟩,m,h_1⟩:=bt h;obtain⟨p,pos,rfl⟩:=cw m;obtain⟨h_2,h5⟩:=aH h_1;obtain⟨B,s⟩:=aH h_2;obtain⟨O,q⟩:=aH B;obtain rfl:f=_:=aad O;obtain⟨⟨e,g⟩,hw,Jc⟩:=bt h5;obtain rfl:as=[e,g]:=jl hw;obtain⟨Tt,Z⟩:=aH Jc;obtain⟨x,hn,N4⟩:=bt Z;obtain⟨p',rfl⟩:∃p,g=.Name x p:=kr hn;obtain⟨N3,I⟩:=aH N4;obtain⟨N1,E⟩:=aH N3;obtain rfl:=aad N1;have:=Mg (F:=F) (p:=p) (p':=p') (pos:=pos) L q (aad s) E (aad I) (bD a X S F L _ Tt).1 (λes=>cx Tt es _);exact⟨this,cK this λ_=>rfl⟩
 |.call f cs,X,S,F,L,e,h=>by
  obtain⟨⟨x,as⟩,m,h_1⟩:=bt h;obtain⟨p,pos,rfl⟩:=cw m;obtain⟨h_2,I⟩:=aH h_1;obtain⟨B,E⟩:=aH h_2;obtain⟨q,s⟩:=aH B;obtain⟨⟨y,U⟩,Y,J⟩:=bt I;obtain rfl:as=y::U:=xK Y;cases cs with
  |nil=>exact(aae J).elim
  |cons c Ld =>
   have Tv:=aH J;have:=HB (F:=F) (p:=p) (pos:=pos) L (aad q) s E (gn (c::Ld) X S F L (y::U) J) (λes=>cx Tv.1 es _) (λpos=>yO Tv.2 pos _);exact⟨this,cK this λ_=>rfl⟩
 |.bf f cs,X,S,F,L,e,h=>by
  obtain⟨⟨x,as⟩,m,h_1⟩:=bt h;obtain⟨p,pos,rfl⟩:=cw m;obtain⟨h_2,I⟩:=aH h_1;obtain⟨B,E⟩:=aH h_2;obtain⟨O,s⟩:=aH B;obtain rfl:x=_:=aad O;obtain⟨⟨y,U⟩,Y,J⟩:=bt I;obtain rfl:as=y::U:=xK Y;cases cs with
  |nil=>exact(aae J).elim
  |cons c Ld =>
   have Tv:=aH J;have:=Q_ (F:=F) (p:=p) (pos:=pos) L s (aad E) (gn (c::Ld) X S F L (y::U) J) (λes=>cx Tv.1 es _) (λpos=>yO Tv.2 pos _);exact⟨this,cK this λ_=>rfl⟩
 |.mx a,X,S,F,L,e,h=>by
  obtain⟨⟨x,as⟩,m,h_1⟩:=bt h;obtain⟨p,pos,rfl⟩:=cw m;obtain⟨h_2,I⟩:=aH h_1;obtain⟨B,s⟩:=aH h_2;obtain⟨O,q⟩:=aH B;obtain rfl:x=_:=aad O;obtain⟨y,Y,J⟩:=bt I;obtain rfl:as=[y]:=bR Y;obtain⟨⟨z,bs⟩,hw,h4_3⟩:=bt J;obtain⟨p',pos',rfl⟩:=cw hw;obtain⟨Y1,h5⟩:=aH h4_3;obtain⟨Y0,Z⟩:=aH Y1;obtain⟨YZ,E⟩:=aH Y0;obtain rfl:z=_:=aad YZ;obtain⟨u,Yf,Jc⟩:=bt h5;obtain rfl:bs=[u]:=bR Yf;have:=Hz (F:=F) (p:=p) (p':=p') (pos:=pos) (pos':=pos') L q (aad s) E (aad Z) (bD a X S F L _ Jc).1 (λes=>cx Jc es _);exact⟨this,cK this λ_=>rfl⟩
 |.ix a b,X,S,F,L,e,h=>by
  obtain⟨⟨l,r⟩,m,h_1⟩:=bt h;obtain⟨pos,rfl⟩:=k8 m;obtain⟨q,s⟩:=aH h_1;have:=Q9 (F:=F) (pos:=pos) L (bD a X S F L _ q).1 (bD b X S F L _ s).1 (r9 s);exact⟨this,cK this λ_=>rfl⟩
 |.tup cs,X,S,F,L,e,h=>by
  obtain⟨es,m,h_1⟩:=bt h;obtain⟨n,pos,rfl⟩:=k7 m;obtain⟨q,s⟩:=aH h_1;have:=Mc (F:=F) (n:=n) (pos:=pos) (gn cs X S F L es q) (aad s);exact⟨this,cK this λ_=>rfl⟩
 |.lst cs,X,S,F,L,e,h=>by
  obtain⟨es,m,h_1⟩:=bt h;obtain⟨pos,rfl⟩:=Hf m;obtain⟨q,s⟩:=aH h_1;have:=Mf (F:=F) (pos:=pos) (gn cs X S F L es q) (aad s);exact⟨this,cK this λ_=>rfl⟩
 |.comp n t caps ik es bQ elt,X,S,F,L,e,h=>by
  obtain⟨⟨kc,gens,sc⟩,m,h_1⟩:=bt h;obtain⟨pos,rfl⟩:=CK m;obtain⟨⟨target,iter,W,a⟩,hg,h_2⟩:=bt h_1;obtain rfl:gens=_:=bR hg;obtain⟨B,Z⟩:=aH h_2;obtain⟨O,h5⟩:=aH B;obtain⟨h_5,I⟩:=aH O;obtain⟨h_6,E⟩:=aH h_5;obtain⟨h_7,s⟩:=aH h_6;obtain⟨h_8,q⟩:=aH h_7;obtain rfl:a=0:=aad h_8;have lI:=λ(X':Cx) (F':aj) (L':Lk X' (S.inner target caps sc) k Φ)=>jo bQ X' _ F' L' W I;have this:PE X (.ListComp kc [⟨target,iter,W,0⟩] sc pos) (tD X F Φ (.comp n t caps ik es bQ elt)) :=
   HA L (r6 q) s (λX' F' L'=>(bD elt X' _ F' L' kc h5).1) (wL (aad E) I lI) (ED L (λl=>gn es X S F L l) (λl=>jo es X S F L l) (λl=>jR es X S F L l) Z)
  exact⟨this,cK this λ_=>rfl⟩
theorem jo:∀(cs:aA) (X:Cx) (S:Sx) (F:aj) (L:Lk X S k Φ) (es:ao),b7 S cs es=true->∀(j:Nat) (c:CE) (e:Expr),cs[j]?=some c->es[j]?=some e->PE X e (tD X F Φ c)/\PT X e (jh X F Φ c)
 |[],X,S,F,L,_,_=>λj c e h _=>by simp at h
 |_::_,X,S,F,L,[],h=>by exact(aae h).elim
 |c::cs,X,S,F,L,e::es,h=>λj c' e' hc he=>by
  replace h:=aH h;cases j with
  |zero=>simp at hc he;subst hc he;exact bD c X S F L e h.1
  |succ j=>exact jo cs X S F L es h.2 j c' e' (by simpa using hc) (by simpa using he)
theorem jR:∀(cs:aA) (X:Cx) (S:Sx) (F:aj) (L:Lk X S k Φ) (es:ao),b7 S cs es=true->qT X F Φ cs es
 |[],X,S,F,L,[],_=>trivial
 |[],X,S,F,L,_::_,h=>by exact(aae h).elim
 |_::_,X,S,F,L,[],h=>by exact(aae h).elim
 |c::cs,X,S,F,L,e::es,h=>by
  replace h:=aH h;exact⟨(bD c X S F L e h.1).1,λl=>cx h.1 l _,r9 h.1,jR cs X S F L es h.2⟩
theorem gn:∀(cs:aA) (X:Cx) (S:Sx) (F:aj) (L:Lk X S k Φ) (es:ao),b7 S cs es=true->PA X es (sH X F Φ cs)
 |[],X,S,F,L,[],_=>PA.imp d7 λ_ _ _ h=>iH h
 |[],X,S,F,L,_::_,h=>by exact(aae h).elim
 |_::_,X,S,F,L,[],h=>by exact(aae h).elim
 |c::cs,X,S,F,L,e::es,h=>by
  replace h:=aH h;exact PA.imp (cy (bD c X S F L e h.1).1 (gn cs X S F L es h.2) (cx h.1 es _)) λ_ _ _ h=>fH h
theorem md:∀(cs:aA) (X:Cx) (S:Sx) (F:aj) (L:Lk X S k Φ) (es:ao),b7 S cs es=true->∀pos,PE X (.BoolOp .And es pos) (tD X F Φ (.and cs))/\PW X (.BoolOp .And es pos) (jh X F Φ (.and cs))
 |[],X,S,F,L,_,_,pos=>⟨λ_ _ _ _ _ _ ⟨_,_,_,_,_,M,_⟩=>(by cases M),λ_ _ _ _ _ _ _ b8=>by obtain⟨_,_,_,_,_,M,_⟩:=b8;cases M⟩
 |[c],X,S,F,L,[e],h,pos=>by
  replace h:=aH h;exact⟨PE.imp (DV (bD c X S F L e h.1).1) λ_ _ _ h=>J3 h,PW.imp (HV (bD c X S F L e h.1).2) λ_ _ _ h=>Gn h⟩
 |[_],X,S,F,L,[],h,_=>by exact(aae h).elim
 |[_],X,S,F,L,_::_::_,h,_=>by exact(aae (aH h).2).elim
 |_::_::_,X,S,F,L,[],h,_=>by exact(aae h).elim
 |_::_::_,X,S,F,L,[_],h,_=>by exact(aae (aH h).2).elim
 |c::c'::cs,X,S,F,L,e::e'::es,h,pos=>by
  replace h:=aH h;have r:=md (c'::cs) X S F L (e'::es) h.2 pos;exact⟨PE.imp (MF (bD c X S F L e h.1).1 r.1) λ_ _ _ h=>Gp h,PW.imp (Mv (bD c X S F L e h.1).2 r.2) λ_ _ _ h=>B_ h⟩
theorem oR:∀(cs:aA) (X:Cx) (S:Sx) (F:aj) (L:Lk X S k Φ) (es:ao),b7 S cs es=true->∀pos,PE X (.BoolOp .Or es pos) (tD X F Φ (.or cs))/\PW X (.BoolOp .Or es pos) (jh X F Φ (.or cs))
 |[],X,S,F,L,_,_,pos=>⟨λ_ _ _ _ _ _ ⟨_,_,_,_,_,M,_⟩=>(by cases M),λ_ _ _ _ _ _ _ b8=>by obtain⟨_,_,_,_,_,M,_⟩:=b8;cases M⟩
 |[c],X,S,F,L,[e],h,pos=>by
  replace h:=aH h;exact⟨PE.imp (DV (bD c X S F L e h.1).1) λ_ _ _ h=>MJ h,PW.imp (DD (bD c X S F L e h.1).2) λ_ _ _ h=>Ic h⟩
 |[_],X,S,F,L,[],h,_=>by exact(aae h).elim
 |[_],X,S,F,L,_::_::_,h,_=>by exact(aae (aH h).2).elim
 |_::_::_,X,S,F,L,[],h,_=>by exact(aae h).elim
 |_::_::_,X,S,F,L,[_],h,_=>by exact(aae (aH h).2).elim
 |c::c'::cs,X,S,F,L,e::e'::es,h,pos=>by
  replace h:=aH h;have r:=oR (c'::cs) X S F L (e'::es) h.2 pos;exact⟨PE.imp (Rz (bD c X S F L e h.1).1 r.1) λ_ _ _ h=>Ie h,PW.imp (Ky (bD c X S F L e h.1).2 r.2) λ_ _ _ h=>D2 h⟩
end
def eZ(L:Lk X S k Φ)(c:CE)(e:Expr)(h:cg S c e=true):PE X e (tD X F Φ c)/\PT X e (jh X F Φ c):=bD c X S F L e h
def lp(L:Lk X S k Φ)(cs:aA)(es:ao)(h:b7 S cs es=true):qT X F Φ cs es:=jR cs X S F L es h
def sJ(L:Lk X S k Φ)(cs:aA)(es:ao)(h:b7 S cs es=true):PA X es (sH X F Φ cs):=gn cs X S F L es h
end
section
variable {T T':m9}{N N':jk}
theorem aF.child{q:bu}(a:∀p xs,T p xs->T' p xs)(b:∀c m p xs f,N (c++(m::q)) p xs f->N' (c++(m::q)) p xs f):∀{n:Nat} {vs:ah} {ds:aa},aF T N q n vs ds->aF T' N' q n vs ds
 |_,_,_,.nil=>.nil
 |n,_,_,.cons h t=>.cons (Rep.imp (q:=n::q) (q':=n::q) a (λc p xs f h=>b c n p xs f h) h) (aF.child a b t)
theorem aF.Kn{q:bu}{v:V}{d:D}:∀{n:Nat} {vs:ah} {ds:aa},aF T N q n vs ds->Rep T N ((n+ds.length)::q) v d->aF T N q n (vs++[v]) (ds++[d])
 |n,_,_,.nil,h=>.cons (by simpa using h) .nil
 |n,_,_,.cons (ds:=ds) h t,h'=>.cons h (aF.Kn t (by
   have e:n+(ds.length+1)=n+1+ds.length:=by left
   rw[cz,e]at h';exact h'))
theorem aF.setAt{q:bu}{v:V}{d:D}:∀{n j:Nat} {vs:ah} {ds:aa},aF T N q n vs ds->Rep T N ((n+j)::q) v d->aF T N q n (vs.set j v) (ds.set j d)
 |_,_,_,_,.nil,_=>by simp;exact .nil
 |_,0,_,_,.cons _ t,h'=>.cons (by simpa using h') t
 |n,j+1,_,_,.cons h t,h'=>.cons h (aF.setAt (j:=j) t (by
   have e:n+(j+1)=n+1+j:=by left
   rw[e]at h';exact h'))
end
variable {n':Nd}
section
variable {X:Cx}{F R:aj}{τ:Addr->Option bu}{ρ:aX}{σ:St}{H:Hp}
def SI.own{i:Nat}(d:SI X F R τ ρ σ H)(c:ρ[i]?=some (some (.lst .ow ds))):∃p xs,σ[i]?=some (some (.ref p))/\H p=some (.lst xs)/\xs.length=ds.length/\τ p=some [i]/\aF (bc X.K H) (nd X.K R (λ_=>False) τ H) [i] 0 xs ds:=by
 obtain⟨v,b,a⟩:=d.rep i _ c;cases a with
 |lst h r=>exact⟨_,_,b,h.1,r.length,h.2,r⟩
def C5{H:Hp}{p:Addr}{n:Nd}{o:HO}(i:fS H p n){a:Addr}{b:ah}(h:bc K H a b):bc K (upd H p o) a b:=by
 obtain⟨d,k,j,l⟩:=fS.some i;have c:∀a u,H a=some u->u≠d->a≠p:=λa u e h z=>by subst z;rw[k]at e;cases e;exact h rfl
 rcases h with (h|⟨g,h⟩)|h
 ·exact .inl (.inl (by rw[bp (c a _ h λz=>j _ z.symm)];exact h))
 ·exact .inl (.inr ⟨g,by rw[bp (c a _ h λz=>l _ _ z.symm)];exact h⟩)
 ·exact .inr h
def SI.Xk{i m:Nat}{v:V}{d:D}{p:Addr}{n:Nd}{o:HO}(l:SI X F R τ ρ σ H)(hi:ρ[i]?=some (some d0))(hv:σ[i]?=some (some (.ref p)))(hp:fS H p n)(r:τ p=some [i])
  (rs:aF (bc X.K H) (nd X.K R (λ_=>False) τ H) [i] 0 xs ds) (rk:iV X R τ H v d) (xy:fS (upd H p o) p n')
  (mk:∀{N:jk},N [i] p n' .ow->aF (bc X.K (upd H p o)) N [i] 0 xs' ds'->Rep (bc X.K (upd H p o)) N [i] (.ref p) d1)
  (hb:∀{N:jk},aF (bc X.K (upd H p o)) N [i] 0 xs ds->Rep (bc X.K (upd H p o)) N (m::[i]) v d->aF (bc X.K (upd H p o)) N [i] 0 xs' ds') :
  ∃τ',SI X F R τ' (ρ.set i (some d1)) σ (upd H p o)/\τ' p=some [i]/\aF (bc X.K (upd H p o)) (nd X.K R (λ_=>False) τ' (upd H p o)) [i] 0 xs' ds':=by
 obtain⟨τt,g,rp⟩:=rk;have GP:i<ρ.length:=by
  by_cases z:i<ρ.length
  ·exact z
  ·rw[List.getElem?_eq_none (by left)]at hi;cases hi
 obtain⟨o0,P2,SE,P1⟩:=fS.some hp;have W:∀a,R a->a≠p:=λa t e=>by subst e;rw[l.rt _ t]at r;cases r
 have nT:∀a q,τt a=some q->a≠p:=λa q e z=>by subst z;rw[(g _ q e).1]at r;cases r
 have Y:∀a u,H a=some u->u≠o0->a≠p:=λa u e h z=>by subst z;rw[P2]at e;cases e;exact h rfl
 have keep:∀a,a≠p->(upd H p o) a=H a:=λa h=>bp h;have Z:∀a b,bc X.K H a b->bc X.K (upd H p o) a b:=λa b h=>by
  rcases h with (h|⟨U,h⟩)|h
  ·exact .inl (.inl (by rw[keep a (Y a _ h λz=>SE _ z.symm)];exact h))
  ·exact .inl (.inr ⟨U,by rw[keep a (Y a _ h λz=>P1 _ _ z.symm)];exact h⟩)
  ·exact .inr h
 have L:∀a (z:Nd),a≠p->fS H a z->fS (upd H p o) a z:=λa z ne h=>h.at λu e=>by rw[keep a ne];exact e
 have B:∀{M:Addr->Option bu} q q' a (z:Nd),nd X.K R (λ_=>False) M H q a z .sc->∀x,nd X.K R (λ_=>False) x (upd H p o) q' a z .sc:=λq q' a z h x=>by
  obtain⟨b,rfl,h⟩:=h.Kr;exact h.elim (λ⟨U,w⟩=>.inl ⟨U,by rw[keep a (Y a _ w λz=>P1 _ _ z.symm)];exact w⟩) .inr
 have I:∀q a b f,q≠[i]->nd X.K R (λ_=>False) τ H q a b f->nd X.K R (λ_=>False) (λa=>match τt a with|some q=>some (q++[m,i])|none=>τ a) (upd H p o) q a b f:=λq a b f s h=>by
  cases f with
  |ow =>
   have ne:a≠p:=λz=>by
    subst z;have:=h.2.symm.trans r;exact s (aaq this)
   refine⟨L a b ne h.1,?_⟩;cases z:τt a with
   |none=>simp only[z];exact h.2
   |some k=>have:=(g a k z).1;rw[h.2]at this;cases this
  |fz=>exact⟨L a b (W a h.2) h.1,h.2⟩
  |al=>exact h.2.elim
  |sc=>exact B q q a b h _
 have VH:(match τt p with|some q=>some (q++[m,i])|none=>τ p)=some [i]:=by
  cases z:τt p with
  |none=>exact r
  |some k=>exact absurd rfl (nT p k z)
 have E:aF (bc X.K (upd H p o)) (nd X.K R (λ_=>False) (λa=>match τt a with|some q=>some (q++[m,i])|none=>τ a) (upd H p o)) [i] 0 xs' ds':=hb (aF.child Z (λc n a b f h=>I _ a b f (λz=>by
  have:=aaI List.length z;simp at this) h) rs) (rp.imp (q:=[]) (q':=[m,i]) Z λc a b f h=>by
  cases f with
  |ow =>
   rw[hH]at h;exact⟨L a b (nT a _ h.2) h.1,by simp only[h.2]⟩
  |fz=>exact⟨L a b (W a h.2) h.1,h.2⟩
  |al=>exact h.2.elim
  |sc=>exact B _ _ a b h _)
 refine⟨λa=>match τt a with|some q=>some (q++[m,i])|none=>τ a,⟨by simp[l.len],λj d' J=>?_,λa t=>?_,λa t=>?_,l.rf,λa q s=>?_,λa q s=>?_,?_⟩,VH,E⟩
 ·by_cases O:j=i
  ·subst O;rw[List.getElem?_set_self GP]at J;cases J;exact⟨.ref p,hv,mk ⟨xy,VH⟩ E⟩
  ·rw[List.getElem?_set_ne (Ne.symm O)]at J;obtain⟨u,hu,ru⟩:=l.rep j d' J;refine⟨u,hu,ru.imp (q:=[j]) (q':=[j]) Z λc a b f h=>I _ a b f (λz=>?_) h⟩;have:=aaI List.getLast? z;simp at this;exact O this
 ·cases z:τt a with
  |none=>simp only[z];exact l.rt a t
  |some k=>exact absurd t (g a k z).2.1
 ·rw[keep a (W a t)];exact l.rh a t
 ·by_cases y:a=p
  ·subst y;rw[aZ];simp
  ·rw[keep a y];cases z:τt a with
   |none=>simp only[z]at s;exact l.th a q s
   |some k=>exact(g a k z).2.2.2
 ·cases z:τt a with
  |none=>simp only[z]at s;exact l.t0 a q s
  |some k=>exact(g a k z).2.2.1
 ·intro a u e;have ne:a≠p:=λz=>by subst z;rw[l.t0 _ _ r]at e;cases e
  rw[keep a ne];exact l.same a u e
def SI.Rv{i m:Nat}{v:V}{d:D}{p:Addr}{n:Nd}{o:HO}(l:SI X F R τ ρ σ H)(j:ρ[i]?=some (some d0))(c:σ[i]?=some (some (.ref p)))(g:fS H p n)(e:τ p=some [i])
  (rs:aF (bc X.K H) (nd X.K R (λ_=>False) τ H) [i] 0 xs ds) (b:iV X R τ H v d) (a:fS (upd H p o) p n')
  (mk:∀{N:jk},N [i] p n' .ow->aF (bc X.K (upd H p o)) N [i] 0 xs' ds'->Rep (bc X.K (upd H p o)) N [i] (.ref p) d1)
  (k:∀{N:jk},aF (bc X.K (upd H p o)) N [i] 0 xs ds->Rep (bc X.K (upd H p o)) N (m::[i]) v d->aF (bc X.K (upd H p o)) N [i] 0 xs' ds') :
  ∃τ',SI X F R τ' (ρ.set i (some d1)) σ (upd H p o):=(l.Xk j c g e rs b a mk k).imp λ_ h=>h.1
def SI.put{i m:Nat}{v:V}{d:D}{g:ah->ah}{p:Addr}(q:SI X F R τ ρ σ H)(j:ρ[i]?=some (some (.lst .ow ds)))(b:σ[i]?=some (some (.ref p)))(e:H p=some (.lst xs))(c:τ p=some [i])
  (rs:aF (bc X.K H) (nd X.K R (λ_=>False) τ H) [i] 0 xs ds) (a:iV X R τ H v d)
  (k:∀{N:jk},aF (bc X.K (upd H p (.lst (g xs)))) N [i] 0 xs ds->Rep (bc X.K (upd H p (.lst (g xs)))) N (m::[i]) v d->aF (bc X.K (upd H p (.lst (g xs)))) N [i] 0 (g xs) ds') :
  ∃τ',SI X F R τ' (ρ.set i (some (.lst .ow ds'))) σ (upd H p (.lst (g xs))) :=
 q.Rv (n:=.l xs) (n':=.l (g xs)) j b e c rs a aZ (λh r=>.lst h r) k
end
section
variable {X:Cx}{S:Sx}{k:Nat}{F:aj}{Φ:aT}
def sI(L:Lk X S k Φ)(c:CE)(e:Expr)(h:cg S c e=true):PE X e (tK X F Φ c):=by
 by_cases g:∃i,c=.v i
 ·obtain⟨i,rfl⟩:=g;obtain⟨x,z,I⟩:=bt h;obtain⟨p,rfl⟩:=kr z;obtain⟨E,j⟩:=aH I;obtain⟨n,m⟩:=aH E;unfold nH at j;simp only[cM,i4]at j;refine PE.imp (ml (i:=i) (by rw[L.N];exact aad n) (L.vis m) j.1.1 j.1.2) λσ H Q a=>?_;obtain⟨R,τ,ρ,r,l,b,a⟩:=a;simp only[jD]at b;split at b
  ·rename_i d q;split at b
   ·cases b;obtain⟨v,τ',g,J,u⟩:=l.move q;exact⟨v,g,a v H R τ' (aM.refl H) (λ_ h=>h) J u⟩
   ·rename_i B;cases b;obtain⟨v,g,t⟩:=l.rep i d q;exact⟨v,g,a v H R τ (aM.refl H) (λ_ h=>h) l (BM t (by simpa using B))⟩
  ·cases b
 ·refine PE.imp (eZ (F:=F) L c e h).1 λσ H Q a=>?_;obtain⟨R,τ,ρ,r,l,b,a⟩:=a;have U:bd (bo Φ c ρ) (λd=>ok (keep c d ρ))=ok r:=by
   cases c<;>first|exact b|exact absurd ⟨_,rfl⟩ g
  obtain⟨d,O,M⟩:=aC U;cases M;refine tD.intro l O λv H' s y=>?_;obtain⟨R',τ',n,m,j⟩:=KO l s y;exact a v H' R' τ' s n m j
end
structure Kp(R:aj)(H:Hp)(R':aj)(H':Hp):Prop where
 r:∀p,R p->R' p
 l:∀p (o:HO),R p->H p=some o->H' p=some o
 t:∀p xs,H p=some (.tup xs)->H' p=some (.tup xs)
 z:∀p o u,H p=some (.iM o u)->H' p=some (.iM o u)
def Kp.refl(R:aj)(H:Hp):Kp R H R H:=⟨λ_ h=>h,λ_ _ _ h=>h,λ_ _ h=>h,λ_ _ _ h=>h⟩
def Kp.of(e:aM H H')(h:∀p,R p->R' p):Kp R H R' H':=⟨h,λp xs _ h=>e _ _ h,λp xs h=>e _ _ h,λp o u h=>e _ _ h⟩
def Kp.trans{R2:Addr->Prop}(a:Kp R H R1 H1)(b:Kp R1 H1 R2 H2):Kp R H R2 H2 :=
 ⟨λp h=>b.r p (a.r p h),λp xs h e=>b.l p xs (a.r p h) (a.l p xs h e),λp xs h=>b.t p xs (a.t p xs h),λp o u h=>b.z p o u (a.z p o u h)⟩
def Kp.PF(a:Kp R H R' H'){p:Addr}(h:bc K H p xs):bc K H' p xs:=by
 rcases h with (h|⟨o,h⟩)|h
 ·exact .inl (.inl (a.t p xs h))
 ·exact .inl (.inr ⟨o,a.z p o _ h⟩)
 ·exact .inr h
theorem Kp.nd{K:ak}{R R':aj}{H H':Hp}(a:Kp R H R' H'){q:bu}{p:Addr}{xs:Nd}{f:Fl}(h:DI.nd K R (λ_=>False) (λ_=>none) H q p xs f):DI.nd K R' (λ_=>False) (λ_=>none) H' q p xs f:=by
 cases f with
 |ow=>exact nomatch h.2
 |fz=>exact⟨h.1.at λo e=>a.l p o h.2 e,a.r p h.2⟩
 |al=>exact h.2.elim
 |sc =>
  obtain⟨b,rfl,h⟩:=h.Kr;exact h.elim (λ⟨o,h⟩=>.inl ⟨o,a.z p o _ h⟩) .inr
def Kp.rep(a:Kp R H R' H'){k:bu}{v:V}{d:D}(h:Rep (bc K H) (DI.nd K R (λ_=>False) (λ_=>none) H) k v d):Rep (bc K H') (DI.nd K R' (λ_=>False) (λ_=>none) H') k v d :=
 h.imp (λ_ _ h=>a.PF h) λ_ _ _ _ h=>a.nd h
def Kp.Rl(a:Kp R H R' H'){k:bu}{n:Nat}{v:ah}{d:aa}(h:aF (bc K H) (DI.nd K R (λ_=>False) (λ_=>none) H) k n v d):aF (bc K H') (DI.nd K R' (λ_=>False) (λ_=>none) H') k n v d :=
 h.imp (λ_ _ h=>a.PF h) λ_ _ _ _ h=>a.nd h
inductive Gz(X:Cx)(F:aj)(H':Hp)(v:V)(d:D):Prop where
 |mk (τt:Addr->Option bu) (h1:∀p q,τt p=some q->X.H₀ p=none) (h2:Rep (bc X.K H') (nd X.K (gP X F) (λ_=>False) τt H') [] v d)
def iV.ret{v:V}{d:D}(c:SI X F R τ ρ σ H)(h:iV X R τ H v d):Gz X F H v d:=by
 obtain⟨τt,b,a⟩:=h;exact⟨τt,λp q e=>(b p q e).2.2.1,a.imp (λ_ _ h=>h) λ_ _ _ _ h=>h.mono (λh=>c.rf _ h) id id⟩
def m_(X:Cx)(F:aj)(D:Ends)(R:aj)(H:Hp):Fo×aX->Prop
 | (.nx,ρ')=>∀a H' R' τ',SI X F R' τ' ρ' a H'->Kp R H R' H'->D.nx a H'
 | (.rt d,_)=>∀v H',aM X.H₀ H'->Gz X F H' v d->D.rt v H'
inductive qC(X:Cx)(F:aj)(Φ:aT)(c:CS)(D:Ends)(σ:St)(H:Hp):Prop where
 |mk (R:aj) (τ:Addr->Option bu) (ρ:aX) (r:Fo×aX) (h1:SI X F R τ ρ σ H) (h2:ib Φ c ρ=ok r) (h3:m_ X F D R H r)
inductive oQ(X:Cx)(F:aj)(Φ:aT)(cs:af)(D:Ends)(σ:St)(H:Hp):Prop where
 |mk (R:aj) (τ:Addr->Option bu) (ρ:aX) (r:Fo×aX) (h1:SI X F R τ ρ σ H) (h2:bE Φ cs ρ=ok r) (h3:m_ X F D R H r)
noncomputable def Nb(sc:Scope)(x:Str):Bool:=decide (sc.names.lookup x=some .local)||decide (sc.names.lookup x=some .cell)
def nN(S:Sx)(i:Nat):Expr->Bool
 |.Name x _=>decide (S.N[i]?=some x)&&Nb S.sc x
 |_=>false
def Xt:Expr->Bool
 |.Name x _=>nH x
 |_=>true
def F1(S:Sx):aP->ao->Bool
 |[],es=>match es with
  |[]=>true
  |_::_=>false
 |i::is,es=>match es with
  |[]=>false
  |e::es=>nN S i e&&F1 S is es
def wR(S:Sx):Tg->Expr->Bool
 |.nm i,e=>nN S i e
 |.tp is,e=>bz (AY e) λes=>F1 S is es
noncomputable def gZ(e:Expr):Bool:=decide (e.ctorIdx=8)
noncomputable def isTup:Expr->Bool
 |.Tuple _ _ _=>true
 |_=>false
noncomputable def WV(S:Sx)(tg v:Expr):Bool:=match tg,v with
 |.Name x p,.ListComp _ _ sc pos=>(S.sc.names.lookup x==some .local)&&(p.line==pos.line)&&!(sc.names.any λ(n,k)=>n==x&&(k==.local||k==.cell))
 |_,_=>false
noncomputable def LK(e:Expr):Option (Str×Pos):=if h:e.ctorIdx=23 then Expr.Name.elim (motive_1:=λ_=>Option (Str×Pos)) e h (λx p=>some (x,p))else none
def zd{e:Expr}{x:Str}{p:Pos}(h:LK e=some (x,p)):e=.Name x p:=by
 obtain⟨k,h⟩:=dI h;exact Expr.Name.elim (motive_1:=λe=>∀k:e.ctorIdx=23,Expr.Name.elim (motive_1:=λ_=>Option (Str×Pos)) e k (λx p=>some (x,p))=some (x,p)->e=.Name x p) e k (λ_ _ _ h=>by cases h;rfl) k h
def F0(S:Sx)(i j:Nat)(tg v:Expr):Bool :=
 bz (AY tg) λa=>bz (two a) λt=>bz (LK t.1) λx=>bz (LK t.2) λy=>bz (AY v) λvs=>bz (two vs) λw =>
  decide (S.N[i]?=some x.1)&&decide (S.N[j]?=some y.1)&&decide (i≠j)&&decide (S.sc.names.lookup x.1=some .local)&&decide (S.sc.names.lookup y.1=some .local)&&decide (x.1≠y.1) &&
   decide (x.2.line=y.2.line)&&!([w.1,w.2].all (foldedForSure 8))&&!([w.1,w.2].all (constantsAlone 8))&&decide (([w.1,w.2].any λe=>match e with|.Starred ..=>true|_=>false)=false)
def O8(S:Sx)(it:CI)(e:Expr):Bool:=match it with
 |.jr a=>bz (fV e) λw=>decide (w.1=("range" : Str))&&iD S.sc w.1&&decide (w.1∈S.bl)&&bz (one w.2) λy=>cg S a y
 |.seq a=>cg S a e&&ju e
 |.xu p es=>Rx e&&bz (S.px.pi p S.sc S.bl e) λxs=>b7 S es xs
noncomputable def Ea:CI->Bool
 |.xu p _=>decide (1100<=p)
 |_=>true
noncomputable def CO(s:Stmt):Option (ao×Expr):=if h:s.ctorIdx=5 then Stmt.Assign.elim (motive_2:=λ_=>Option (ao×Expr)) s h (λa v _=>some (a,v))else none
def k9{s:Stmt}{a:ao}{v:Expr}(h:CO s=some (a,v)):∃p,s=.Assign a v p:=by
 obtain⟨k,h⟩:=dI h;exact Stmt.Assign.elim (motive_2:=λs=>∀k:s.ctorIdx=5,Stmt.Assign.elim (motive_2:=λ_=>Option (ao×Expr)) s k (λa v _=>some (a,v))=some (a,v)->∃p,s=.Assign a v p) s k (λ_ _ _ _ h=>by cases h;exact⟨_,rfl⟩) k h
noncomputable def QA(s:Stmt):Option (Option Expr):=if h:s.ctorIdx=3 then Stmt.Return.elim (motive_2:=λ_=>Option (Option Expr)) s h (λv _=>some v)else none
def zc{s:Stmt}{v:Option Expr}(h:QA s=some v):∃p,s=.Return v p:=by
 obtain⟨k,h⟩:=dI h;exact Stmt.Return.elim (motive_2:=λs=>∀k:s.ctorIdx=3,Stmt.Return.elim (motive_2:=λ_=>Option (Option Expr)) s k (λv _=>some v)=some v->∃p,s=.Return v p) s k (λ_ _ _ h=>by cases h;exact⟨_,rfl⟩) k h
noncomputable def U_(s:Stmt):Option Expr:=if h:s.ctorIdx=24 then Stmt.Expr.elim (motive_2:=λ_=>Option Expr) s h (λv _=>some v)else none
def oN{s:Stmt}{v:Expr}(h:U_ s=some v):∃p,s=.Expr v p:=by
 obtain⟨k,h⟩:=dI h;exact Stmt.Expr.elim (motive_2:=λs=>∀k:s.ctorIdx=24,Stmt.Expr.elim (motive_2:=λ_=>Option Expr) s k (λv _=>some v)=some v->∃p,s=.Expr v p) s k (λ_ _ _ h=>by cases h;exact⟨_,rfl⟩) k h
noncomputable def LM(s:Stmt):Option (Expr×aV×aV):=if h:s.ctorIdx=12 then Stmt.If.elim (motive_2:=λ_=>Option (Expr×aV×aV)) s h (λt x y _=>some (t,x,y))else none
def sC{s:Stmt}{t:Expr}{x y:aV}(h:LM s=some (t,x,y)):∃q,s=.If t x y q:=by
 obtain⟨k,h⟩:=dI h;exact Stmt.If.elim (motive_2:=λs=>∀k:s.ctorIdx=12,Stmt.If.elim (motive_2:=λ_=>Option (Expr×aV×aV)) s k (λt x y _=>some (t,x,y))=some (t,x,y)->∃q,s=.If t x y q) s k (λ_ _ _ _ _ h=>by cases h;exact⟨_,rfl⟩) k h
noncomputable def Qz(s:Stmt):Option (Expr×aV×aV):=if h:s.ctorIdx=11 then Stmt.While.elim (motive_2:=λ_=>Option (Expr×aV×aV)) s h (λt x y _=>some (t,x,y))else none
def He{s:Stmt}{t:Expr}{x y:aV}(h:Qz s=some (t,x,y)):∃q,s=.While t x y q:=by
 obtain⟨k,h⟩:=dI h;exact Stmt.While.elim (motive_2:=λs=>∀k:s.ctorIdx=11,Stmt.While.elim (motive_2:=λ_=>Option (Expr×aV×aV)) s k (λt x y _=>some (t,x,y))=some (t,x,y)->∃q,s=.While t x y q) s k (λ_ _ _ _ _ h=>by cases h;exact⟨_,rfl⟩) k h
noncomputable def LN(s:Stmt):Option (Expr×Expr×aV×aV):=if h:s.ctorIdx=9 then Stmt.For.elim (motive_2:=λ_=>Option (Expr×Expr×aV×aV)) s h (λtg a x y _=>some (tg,a,x,y))else none
def zf{s:Stmt}{it:Expr}{x y:aV}(h:LN s=some (tg,it,x,y)):∃q,s=.For tg it x y q:=by
 obtain⟨k,h⟩:=dI h;exact Stmt.For.elim (motive_2:=λs=>∀k:s.ctorIdx=9,Stmt.For.elim (motive_2:=λ_=>Option (Expr×Expr×aV×aV)) s k (λtg it x y _=>some (tg,it,x,y))=some (tg,it,x,y)->∃q,s=.For tg it x y q) s k (λ_ _ _ _ _ _ h=>by cases h;exact⟨_,rfl⟩) k h
noncomputable def CN(e:Expr):Option (Expr×Str×Pos):=if h:e.ctorIdx=20 then Expr.Attribute.elim (motive_1:=λ_=>Option (Expr×Str×Pos)) e h (λo a p=>some (o,a,p))else none
def u0{e:Expr}{a:Str}{p:Pos}(h:CN e=some (o,a,p)):e=.Attribute o a p:=by
 obtain⟨k,h⟩:=dI h;exact Expr.Attribute.elim (motive_1:=λe=>∀k:e.ctorIdx=20,Expr.Attribute.elim (motive_1:=λ_=>Option (Expr×Str×Pos)) e k (λo a p=>some (o,a,p))=some (o,a,p)->e=.Attribute o a p) e k (λ_ _ _ _ h=>by cases h;rfl) k h
noncomputable def xJ(e:Expr):Option (Expr×ao×List Keyword×Pos):=if h:e.ctorIdx=16 then Expr.Call.elim (motive_1:=λ_=>Option (Expr×ao×List Keyword×Pos)) e h (λf as a p=>some (f,as,a,p))else none
def q_{e f:Expr}{as:ao}{ks:List Keyword}{p:Pos}(h:xJ e=some (f,as,ks,p)):e=.Call f as ks p:=by
 obtain⟨k,h⟩:=dI h;exact Expr.Call.elim (motive_1:=λe=>∀k:e.ctorIdx=16,Expr.Call.elim (motive_1:=λ_=>Option (Expr×ao×List Keyword×Pos)) e k (λf as ks p=>some (f,as,ks,p))=some (f,as,ks,p)->e=.Call f as ks p) e k (λ_ _ _ _ _ h=>by cases h;rfl) k h
noncomputable def isNil{a:Type}:List a->Bool
 |[]=>true
 |_::_=>false
def lF{a:Type}{l:List a}(h:isNil l=true):l=[]:=by cases l<;>first|rfl|cases h
noncomputable def IJ:Stmt->Bool
 |.Raise _ _ _=>true
 |_=>false
def uj{i:Nat}{e:Expr}(h:nN S i e=true):∃x p,e=.Name x p:=by
 cases e<;>first|exact⟨_,_,rfl⟩|exact(aae h).elim
def By{e:Expr}(h:gZ e=true):∃x g a p,e=.ListComp x g a p:=Expr.ListComp.elim (motive_1:=λe=>∃x g a p,e=.ListComp x g a p) e (aad h) λ_ _ _ _=>⟨_,_,_,_,rfl⟩
mutual
noncomputable def qP(S:Sx):CS->Stmt->Bool
 |.asg t e,s0=>bz (CO s0) λz=>bz (one z.1) λtg=>cg S e z.2&&wR S t tg&&!(isTup z.2&&isTup tg)&&(!gZ z.2||isNm tg)
 |.par i j a b,s0=>bz (CO s0) λz=>bz (one z.1) λtg=>cg S (.tup [a,b]) z.2&&F0 S i j tg z.2
 |.ret e,s0=>bz (QA s0) λz=>bz z λv=>cg S e v
 |.rs _,s0=>IJ s0
 |.mut p i es,s0=>bz (S.px.pm p S.sc S.bl s0) λz=>nN S i z.1&&Xt z.1&&b7 S es z.2
 |.app i e,s0=>bz (U_ s0) λc=>bz (xJ c) λz=>isNil z.2.2.1&&bz (CN z.1) λa=>decide (a.2.1=("append" : Str))&&nN S i a.1&&Xt a.1&&(a.2.2.endLine==z.2.2.2.line)&&bz (one z.2.1) λv=>cg S e v
 |.setI i k e,s0=>bz (CO s0) λz=>bz (one z.1) λtg=>bz (xI tg) λw=>nN S i w.1&&Xt w.1&&cg S k w.2&&cg S e z.2&&!gZ z.2
 |.ex e,s0=>bz (U_ s0) λv=>cg S e v&&!gZ v
 |.ifs c a b,s0=>bz (LM s0) λz=>cg S c z.1&&ja S a z.2.1&&ja S b z.2.2
 |.Ke c b,s0=>bz (Qz s0) λz=>isNil z.2.2&&cg S c z.1&&ja S b z.2.1
 |.fr t it b,s0=>bz (LN s0) λz=>isNil z.2.2.2&&wR S t z.1&&O8 S it z.2.1&&(gu z.1||Ea it)&&ja S b z.2.2.1
noncomputable def ja(S:Sx):af->aV->Bool
 |[],ss=>match ss with
  |[]=>true
  |_::_=>false
 |c::cs,ss=>match ss with
  |[]=>false
  |s::ss=>qP S c s&&ja S cs ss
end
structure GA(px:Px)(Φ:aT):Prop where
 m:∀(X:Cx) (sc:Scope) (bl:aq) (k:Nat),PX X sc bl k->X.N.Nodup->(∀x,X.fn x=true)->∀(p:Nat) (st:Stmt) (x:Str) (pos:Pos) (args:ao),px.pm p sc bl st=some (.Name x pos,args)->∀(i:Nat),X.N[i]?=some x->L2.Loc X.env.scope x->PE X (.Name x pos) (nA i) ->
  ∀(F:aj) (cs:aA),qT X F Φ cs args->PS X st (qC X F Φ (.mut p i cs))
structure nc(X:Cx)(S:Sx)(k:Nat)(Φ:aT):Prop extends Lk X S k Φ where
 xC:∀x,X.fn x=true
 px:PassesOwn (model X.prog X.w) X.A X.env X.xe
 fk:S.sc.kind=.function
 pm:GA S.px Φ
section
variable {X:Cx}{S:Sx}{k:Nat}{F:aj}{Φ:aT}
def nc.loc(L:nc X S k Φ){x:Str}(h:Nb S.sc x=true):L2.Loc X.env.scope x:=by
 unfold L2.Loc;rw[L.sc];unfold Nb at h;rw[iN]at h;exact h.imp aad aad
def Km(L:nc X S k Φ){x:Str}{p:Pos}{l:Nat}{elt:Expr}{gens:List Comprehension}{sc:Scope}:swapsWith (.ListComp elt gens sc pos) (some (.Name x p)) l X.env=pure (WV S (.Name x p) (.ListComp elt gens sc pos)):=by
 have b:X.env.blockKind=.function:=by unfold Env.blockKind;rw[L.sc,L.fk];rfl
 have a:(X.env.kindOf x==some .local)=(S.sc.names.lookup x==some .local):=by
  unfold Env.kindOf;rw[L.sc]
 unfold swapsWith WV;simp only[b,a];rfl
def iu{c:CE}{e:Expr}(h:cg S c e=true)(a:gZ e=false)(t:Option Expr)(l:Nat)(env:Env):swapsWith e t l env=pure false:=by
 cases e<;>first|rfl | (cases a;done) | (cases c<;>exact(aae h).elim)
def Za:aP->J9
 |[]=>Og
 |i::is=>Fq (pJ i) (Za is)
def DT(L:nc X S k Φ){i:Nat}{e:Expr}(h:nN S i e=true):PG X e (pJ i):=by
 cases e<;>try (exact(aae h).elim;done)
 replace h:=aH h;exact tf L.nd (by rw[L.N];exact aad h.1) (L.loc h.2) (.inl (L.xC _))
def Ip{i:Nat}{e:Expr}(h:nN S i e=true)(es:ao)(env:Env):assignEach (e::es) env=(false,assign e env)::assignEach es env:=by
 cases e<;>first|rfl | (exact(aae h).elim;done)
theorem DS(L:nc X S k Φ):∀{is:aP} {es:ao},F1 S is es=true->Qm X es (Za is)/\(assignEach es X.env).length=is.length/\(assignEach es X.env).findIdx? (·.1)=none
 |[],[],_=>⟨zy,rfl,rfl⟩
 |[],_::_,h=>by exact(aae h).elim
 |_::_,[],h=>by exact(aae h).elim
 |i::is,e::es,h=>by
  replace h:=aH h;obtain⟨d,c,b⟩:=DS L h.2;have a:=Ip h.1 es X.env;refine⟨vF (DT L h.1) d (by rw[a];rfl),by rw[a];simp[c],?_⟩;rw[a,List.findIdx?_cons];simp[b]
theorem vp{H:Hp}{R:aj}{Q:St->Hp->Prop}:∀{is:aP} {vs:ah} {ds:aa} {b:bu} {n:Nat} {σ:St} {τ:Addr->Option bu} {ρ ρ':aX},aF (bc X.K H) (nd X.K R (λ_=>False) (λ_=>none) H) b n vs ds->SI X F R τ ρ σ H->ic is ds ρ=ok ρ' ->
  (∀a τ',SI X F R τ' ρ' a H->Q a H)->Za is vs σ H Q
 |[],_,_,_,_,σ,τ,_,_,.nil,Si,e,hq=>by
  cases e;exact⟨rfl,hq σ τ Si⟩
 |[],_,_,_,_,_,_,_,_,.cons _ _,_,e,_=>by cases e
 |_::_,_,_,_,_,_,_,_,_,.nil,_,e,_=>by cases e
 |i::is,_,_,_,_,σ,τ,ρ,_,.cons (v:=v) (d:=d) h t,Si,e,hq=>by
  change (if _ then _ else _)=_ at e;split at e
  ·rename_i c;obtain⟨τ',g⟩:=Si.set (i:=i) (gL (τ':=τ) (Rep.mw h)) c;exact⟨_,_,rfl,vp t g e hq⟩
  ·cases e
def vf(L:nc X S k Φ){t:Tg}(h:wR S t tg=true):∃g,PG X tg g/\∀(v:V) (σ:St) (H:Hp) (Q:St->Hp->Prop) (R:aj) (τ:Addr->Option bu) (ρ ρ':aX) (d:D),SI X F R τ ρ σ H->iV X R τ H v d->bU t d ρ=ok ρ' ->
  (∀a τ',SI X F R τ' ρ' a H->Q a H)->g v σ H Q:=by
 cases t with
 |nm i =>
  refine⟨pJ i,DT L h,λv σ H Q R τ ρ ρ' d j b e c=>?_⟩;simp only[bU]at e;split at e
  ·rename_i x;cases e;obtain⟨τ',J⟩:=j.set b x;exact c _ τ' J
  ·cases e
 |tp is =>
  obtain⟨es,r,z⟩:=bt h;obtain⟨nn,M,rfl⟩:=k7 r;obtain⟨I,E,B⟩:=DS L z;refine⟨_,DR L.calm I E B,λv σ H Q R τ ρ ρ' d j b e c=>?_⟩;cases d<;>try (simp[bU]at e;done)
  rename_i ds;simp only[bU]at e;split at e
  ·cases e
  ·rename_i u;obtain⟨τt,O,n⟩:=b;cases n with
   | @tup _ p xs _ s l =>
    have m:aF (bc X.K H) (nd X.K R (λ_=>False) (λ_=>none) H) [] 0 xs ds:=aF.without (P:=cO) (λ_ _ h=>h) (λk k' p xs f y h=>by
     cases f with
     |ow=>cases y
     |fz=>exact h
     |al=>exact h.2.elim
     |sc=>exact h) l (by simpa using u) _ _
    refine⟨p,xs,rfl,s,?_,vp m j e c⟩;rw[l.length];have:∀(is:aP) (ds:aa) (ρ ρ':aX),ic is ds ρ=ok ρ'->ds.length=is.length:=by
     intro is;induction is with
     |nil=>intro ds ρ ρ' e;cases ds with|nil=>rfl|cons _ _=>cases e
     |cons i is q=>intro ds ρ ρ' e;cases ds with
      |nil=>cases e
      |cons d ds =>
       change (if _ then _ else _)=_ at e;split at e
       ·simp[q ds _ _ e]
       ·cases e
    exact this _ _ _ _ e
end
section
variable {X:Cx}{S:Sx}{k:Nat}{F:aj}{Φ:aT}
def C4(L:nc X S k Φ){t:Tg}{e:CE}{v:Expr}(he:cg S e v=true)(j:wR S t tg=true)(B:(isTup v&&isTup tg)=false)(J:swapsWithSole [tg] v pos.line X.env=pure false):PS X (.Assign [tg] v pos) (qC X F Φ (.asg t e)):=by
 obtain⟨g,E,y⟩:=vf (F:=F) L j;have q:(∃x p,tg=.Name x p)\/∃es n p,tg=.Tuple es n p:=by
  cases t with
  |nm i=>cases tg<;>first|exact .inl ⟨_,_,rfl⟩|exact(aae j).elim
  |tp is=>cases tg<;>first|exact .inr ⟨_,_,_,rfl⟩|exact(aae j).elim
 have each:(assignEach [tg] X.env).map (·.2)=[assign tg X.env]:=by
  rcases q with ⟨x,p,rfl⟩|⟨es,n,p,rfl⟩<;>rfl
 have hw:swappedStores [tg] v X.env=pure none:=by
  rcases q with ⟨x,p,rfl⟩|⟨es,n,p,rfl⟩
  ·first|rfl | (cases v<;>rfl)
  ·cases v<;>first|rfl|exact absurd B (by simp[isTup])
 refine PS.imp (DK (sI (F:=F) L.toLk e v he) E J hw each) λD σ H l=>?_;obtain⟨R,τ,ρ,r,M,a,l⟩:=l;obtain⟨d,rW,a⟩:=aC a;obtain⟨c,m,a⟩:=aC a;cases a;exact⟨R,τ,ρ,d,M,rW,λv H' R' τ' es hR I u=>y v σ H' _ R' τ' d.2 c d.1 I u m λb z s=>l b H' R' z s (Kp.of es hR)⟩
def Ht(L:nc X S k Φ){i n:Nat}{t:Tg}{E:IK}{x:Str}{p Q3:Pos}{gens:List Comprehension}{sc:Scope}
  (he:cg S (.comp n t caps E es bQ elt) (.ListComp kc gens sc pos)=true) (hn:nN S i (.Name x p)=true) (Sr:swapsWith (.ListComp kc gens sc pos) (some (.Name x p)) Q3.line X.env=pure true) :
  PS X (.Assign [.Name x p] (.ListComp kc gens sc pos) Q3) (qC X F Φ (.asg (.nm i) (.comp n t caps E es bQ elt))):=by
 intro pins s σ H D I j;obtain⟨R,τ,ρ,r,Si,M,j⟩:=j;obtain⟨r1,rW,M⟩:=aC M;obtain⟨ρ',u,M⟩:=aC M;cases M;have rW:bd (bo Φ (.comp n t caps E es bQ elt) ρ) (λd=>ok (keep (.comp n t caps E es bQ elt) d ρ))=ok r1:=rW;obtain⟨d,ed,rW⟩:=aC rW;cases rW;have hg:=DT L hn;rw[exec_Assign_Name_used _ _ _ _ Sr];refine aaa (acv (aaa ?_));obtain⟨⟨e0,g0,s0⟩,hv0,P0⟩:=bt he;cases hv0;obtain⟨⟨target,iter,y,a⟩,SX,c⟩:=bt P0;obtain rfl:gens=_:=bR SX;obtain⟨c,h6⟩:=aH c;obtain⟨c,h5⟩:=aH c;obtain⟨c,h4⟩:=aH c;obtain⟨c,h3⟩:=aH c;obtain⟨c,h2⟩:=aH c;obtain⟨c,h1⟩:=aH c;obtain rfl:a=0:=aad c;have hC:=wL (aad h3) h4 (λ(X':Cx) (F':aj) (L':Lk X' (S.inner target caps sc) k Φ)=>jo bQ X' _ F' L' y h4);have Z:wpAny (model X.prog X.w) X.A (comprehension (.ListComp kc [⟨target,iter,y,0⟩] sc pos) sc X.env (firstIterPos [⟨target,iter,y,0⟩] pos) (newList []) false (eval iter X.env) (some (assign (.Name x p) X.env))) (λ_ U=>SP X pins D .next U) X.xe s:=by
  refine wN (F:=F) (k:=k) L.toLk (r6 h1) h2 (λX' F' L'=>(eZ (F:=F') L' elt kc h5).1) hC ?_ (use:=some (assign (.Name x p) X.env)) (Post:=λ_ U=>SP X pins D .next U) I Si ed ?_
  ·exact ED L.toLk (λl=>sJ (F:=F) L.toLk es l) (λl=>jo es X S F L.toLk l) (λl=>lp L.toLk es l) h6
  ·intro g C H1 O m Cr hc IX sm rt;obtain⟨c1,c2,c3,c4,c5⟩:=hc;obtain⟨R',τ',hR,fM,rk⟩:=KO (e:=.comp n t caps E es bQ elt) Si sm rt;have I1:Inv X pins σ H1 O:=IX O.heap (.refl ..);obtain⟨W,esC,epC,hoC,J,hrC⟩:=Cr;have cfs:C∉X.fs:=λz=>by
    obtain⟨_,o,ho,_⟩:=I1.ok.kC.mem z;exact absurd (aal (aah ho) c2) (aau _)
   have I2:Inv X ((C,W)::pins) σ H1 O:=I1.jT λq j=>by
    rcases List.mem_cons.mp j with rfl|j
    ·exact⟨hoC,c5,c1,cfs,λv z=>by rw[J]at z;cases z⟩
    ·exact I1.pin q (aam _ j)
   simp only[bU]at u;split at u
   ·rename_i hi;cases u;obtain⟨Y,xh⟩:=fM.set rk hi;show wpAny _ _ (assign (.Name x p) X.env (.ref g)) _ _ _;refine aav (hg ((C,W)::pins) O σ H1 (.ref g) (.ref g) (λB H'=>B=σ.set i (some (.ref g))/\H'=H1) I2 rfl ⟨rfl,rfl⟩) (λ_ s2 h2=>?_) λ_ _ z=>z;obtain⟨B,H',I3,rfl,rfl⟩:=h2;have hC3:=(I3.pin (C,W) (aam _ aak)).1;refine⟨m,⟨W,esC,epC,hC3,J,hrC⟩,λh' EM=>?_⟩;have I4:Inv X pins (σ.set i (some (.ref g))) H' s2:=I3.jT λq j=>I3.pin q (aam _ (aai _ j));have I5:=I4.turned (t':=s2.toks) (h':=h') (it:=C) (λb o hb e=>(EM.2 b hb).trans e) c5 c1 (.inr c2) c3 c4;exact⟨_,H',I5,j _ H' R' Y xh (Kp.of sm hR)⟩
   ·cases u
 exact aaa (aav Z (λ_ U h=>aaf (aaf h)) λ_ _ z=>z)
def L7(L:nc X S k Φ){e:CE}{v:Expr}(he:cg S e v=true):PS X (.Return (some v) pos) (qC X F Φ (.ret e)):=by
 refine PS.imp (o3 (sI (F:=F) L.toLk e v he)) λD σ H a=>?_;obtain⟨R,τ,ρ,r,i,b,a⟩:=a;obtain⟨g,rW,b⟩:=aC b;cases b;exact⟨R,τ,ρ,g,i,rW,λv H' R' τ' es hR c d=>a v H' c.same (d.ret c)⟩
def Q2(L:nc X S k Φ){e:CE}{v:Expr}(he:cg S e v=true)(i:gZ v=false):PS X (.Expr v pos) (qC X F Φ (.ex e)):=by
 refine PS.imp (nS (eZ (F:=F) L.toLk e v he).1 (iu he i _ _ _)) λD σ H a=>?_;obtain⟨R,τ,ρ,r,c,b,a⟩:=a;obtain⟨d,g,b⟩:=aC b;cases b;exact tD.intro c g λv H' es j=>a σ H' R τ (c.go es) (Kp.of es λ_ h=>h)
def m_.from{D:Ends}{r:Fo×aX}(h:m_ X F D R H r)(c:Kp R H R1 H1):m_ X F D R1 H1 r:=by
 obtain⟨e,b⟩:=r;cases e with
 |nx=>exact λa H' R' τ' g k2=>h a H' R' τ' g (c.trans k2)
 |rt d=>exact h
def Q1(L:nc X S k Φ){c:CE}{a b:af}{t:Expr}{x y:aV}(i:cg S c t=true)(l:iA X x (oQ X F Φ a))(j:iA X y (oQ X F Φ b)):PS X (.If t x y pos) (qC X F Φ (.ifs c a b)):=by
 refine PS.imp (vD (eZ (F:=F) L.toLk c t i).2 l j) λD σ H e=>?_;obtain⟨R,τ,ρ,r,g,d,e⟩:=e;obtain⟨w,m,d⟩:=aC d;refine⟨R,τ,ρ,w,g,m,λH1 e1=>?_⟩;cases w with
 |true=>rw[cc rfl]at d ⊢;exact⟨R,τ,ρ,r,g.go e1,d,e.from (Kp.of e1 λ_ h=>h)⟩
 |false=>rw[cb (by simp)]at d ⊢;exact⟨R,τ,ρ,r,g.go e1,d,e.from (Kp.of e1 λ_ h=>h)⟩
def C3(L:nc X S k Φ){c:CE}{b:af}{t:Expr}{x:aV}(y:cg S c t=true)(z:iA X x (oQ X F Φ b)):PS X (.While t x [] pos) (qC X F Φ (.Ke c b)):=by
 refine PS.imp (DG L.px (eZ (F:=F) L.toLk c t y).2 z) λD σ H l=>?_;obtain⟨R,τ,ρ,r,M,I,l⟩:=l;obtain⟨n,v⟩:=mq I;refine⟨λm a H'=>∃R' τ' e,SI X F R' τ' e a H'/\Kp R H R' H'/\dz m _ e=ok r,⟨n,R,τ,ρ,M,Kp.refl R H,v⟩,?_⟩;rintro m p H1 ⟨R1,g,j,q,k1,e1⟩;cases m with
 |zero=>simp[dz]at e1
 |succ m =>
  rw[dz]at e1;obtain⟨st,es,e1⟩:=aC e1;obtain⟨w,E,es⟩:=aC es;refine⟨R1,g,j,w,q,E,λH2 e2=>?_⟩;cases w with
  |false =>
   rw[cb (by simp)]at es ⊢;cases es;cases e1;exact l p H2 R1 g (q.go e2) (k1.trans (Kp.of e2 λ_ h=>h))
  |true =>
   rw[cc rfl]at es ⊢;obtain⟨⟨s,i⟩,J,es⟩:=aC es;refine⟨λa H'=>∃R' τ' e,SI X F R' τ' e a H'/\Kp R H R' H'/\dz m _ e=ok r,λa H' h=>⟨m,abm m,h⟩,R1,g,j,(s,i),q.go e2,J,?_⟩;have k2:Kp R H R1 H2:=k1.trans (Kp.of e2 λ_ h=>h);cases s with
   |nx=>cases es;exact λa H' R' τ' B u=>⟨R',τ',i,B,k2.trans u,e1⟩
   |rt d=>cases es;cases e1;exact l
def lW(X:Cx)(F:aj)(Φ:aT)(t:Tg)(b:af)(R1:aj)(H1:Hp)(r:Fo×aX)(items:List DI.D)(i:Nat)(σ:St)(H:Hp):Prop :=
 ∃R' τ' a,SI X F R' τ' a σ H/\Kp R1 H1 R' H/\dC (λd ρ=>bU t d ρ) (λρ=>bE Φ b ρ) (items.drop i) a=ok r
def pL{g:TG}{t:Tg}{b:af}{D:Ends}{r:Fo×aX}{items:List DI.D}{q:bu}
  (B:∀(v:V) (σ:St) (H:Hp) (Q:St->Hp->Prop) (R:aj) (τ:Addr->Option bu) (ρ ρ':aX) (d:DI.D),SI X F R τ ρ σ H->iV X R τ H v d->bU t d ρ=ok ρ'->(∀a τ',SI X F R τ' ρ' a H->Q a H)->g v σ H Q)
  (rs:aF (bc X.K H1) (nd X.K R1 (λ_=>False) (λ_=>none) H1) q 0 xs items) (M:m_ X F D R1 H1 r) (i:Nat) (x:V) (σ:St) (H:Hp) (L:xs[i]?=some x) (h:lW X F Φ t b R1 H1 r items i σ H) :
  g x σ H λp H2=>oQ X F Φ b { D with nx:=lW X F Φ t b R1 H1 r items (i+1),ct:=lW X F Φ t b R1 H1 r items (i+1),bk:=D.nx } p H2:=by
 obtain⟨R',τ',ρ',U,s,c⟩:=h;obtain⟨d,m,z⟩:=rs.qN L;have l:i<items.length:=by
  by_cases l:i<items.length
  ·exact l
  ·rw[List.getElem?_eq_none (by left)]at m;cases m
 have E:items.drop i=d::items.drop (i+1):=by
  rw[g7 l];rw[List.getElem?_eq_getElem l]at m;cases m;rfl
 rw[E,dC]at c;obtain⟨j,e1,c⟩:=aC c;obtain⟨⟨u,e⟩,e2,c⟩:=aC c;refine B x σ H _ R' τ' ρ' j d U (gL (Rep.mw (s.rep z))) e1 λa I O=>⟨R',I,j,(u,e),O,e2,?_⟩
 cases u with
 |nx=>exact λy Z W n Y J=>⟨W,n,e,Y,s.trans J,c⟩
 |rt d=>cases c;exact M
def nZ{t:Tg}{b:af}{D:Ends}{r:Fo×aX}{items:List DI.D}{n:Nat}(hn:n=items.length)(e:m_ X F D R1 H1 r)(σ:St)(H:Hp)(h:lW X F Φ t b R1 H1 r items n σ H):D.nx σ H:=by
 obtain⟨R',τ',c,g,d,a⟩:=h;subst hn;rw[List.drop_length,dC]at a;cases a;exact e σ H R' τ' g d
def z_(ρ:aX):iM [] ρ=ρ:=by
 unfold iM;apply List.ext_getElem?;intro i;rw[List.getElem?_mapIdx];cases ρ[i]? with
 |none=>rfl
 |some o=>simp
def nY{v:V}{d:DI.D}(b:SI X F R τ ρ σ H)(es:aM H H')(r:b_ X.K (gP X F) R τ fv H H' v d):
  ∃R' τ',(∀p,R p->R' p)/\SI X F R' τ' (if bh bK d then iM fv ρ else ρ) σ H'/\Rep (bc X.K H') (nd X.K R' (λ_=>False) (λ_=>none) H') [] v (aE aI d):=by
 by_cases a:bh bK d=true
 ·rw[cc a];exact ua b es r
 ·rw[cb a];have e:b_ X.K (gP X F) R τ [] H H' v d:=by
   obtain⟨τt,i,c⟩:=r;exact⟨τt,i,Rep.kY (P:=bK) (λ_ _ h=>h) (λk p xs f g h=>by
    cases f with
    |ow=>exact h
    |fz=>exact h
    |al=>cases g
    |sc=>exact h) c (by simpa using a)⟩
  have:=ua b es e;rw[z_]at this;exact this
def wk{ds:List DI.D}(b:SI X F R τ ρ σ H)(es:aM H H')(r:cI X.K (gP X F) R τ fv H H' vs ds):
  ∃R' τ',(∀p,R p->R' p)/\SI X F R' τ' (if aU bK ds then iM fv ρ else ρ) σ H'/\aF (bc X.K H') (nd X.K R' (λ_=>False) (λ_=>none) H') [] 0 vs (aw aI ds):=by
 by_cases a:aU bK ds=true
 ·rw[cc a];exact wj b es r
 ·rw[cb a];have d:cI X.K (gP X F) R τ [] H H' vs ds:=by
   obtain⟨τt,g,c⟩:=r;exact⟨τt,g,aF.kY (P:=bK) (λ_ _ h=>h) (λk p xs f e h=>by
    cases f with
    |ow=>exact h
    |fz=>exact h
    |al=>cases e
    |sc=>exact h) c (by simpa using a)⟩
  have:=wj b es d;rw[z_]at this;exact this
def wiP(X:Cx)(F:aj)(Φ:aT)(p:Nat)(cs:aA):TI:=λσ H a=>∃R τ ρ xs d items,SI X F R τ ρ σ H/\bJ Φ cs ρ=ok xs/\Φ p xs=ok d/\mf d=ok items /\
 ∀J H2 vs,aM H H2->cI X.K (gP X F) R τ (dN cs) H H2 vs xs->J7 X.K J H2 vs xs items->a J H2
def Hs(L:nc X S k Φ){t:Tg}{p:Nat}{b:af}{x:aV}(ht:wR S t tg=true)(hi:S.px.pi p S.sc S.bl iter=some args)(hc:b7 S cs args=true)(yv:Rx iter=true)(Yi:(decide (1100<=p)||gu tg)=true)(hb:iA X x (oQ X F Φ b)):PS X (.For tg iter x [] pos) (qC X F Φ (.fr t (.xu p cs) b)):=by
 obtain⟨g,hg,rM⟩:=vf (F:=F) L ht;have i6:∀y,foldedSetIterable iter X.env y=pure y:=by
  intro y;cases iter<;>first|rfl | (cases yv;done)
 have pi:PI X tg iter (wiP X F Φ p cs):=λpins s σ H Rr I ⟨R,τ,ρ,xs,d,items,B,Z,Y,e,hR⟩ =>
  L.pr.i X _ _ k L.toLk.pX p iter args hi F cs tg Yi (lp L.toLk cs args hc) pins s σ H R τ ρ xs d items I B Z Y e Rr hR
 refine PS.imp (kz L.px L.calm pi hg hb i6) λD σ H W=>?_;obtain⟨R,τ,ρ,r,B,ev,W⟩:=W;obtain⟨⟨items,ρ1⟩,e,ef⟩:=aC ev;obtain⟨xs,Z,e⟩:=aC e;obtain⟨d,Y,e⟩:=aC e;obtain⟨Np,Zv,e⟩:=aC e;cases e;refine⟨R,τ,ρ,xs,d,items,B,Z,Y,Zv,λJ H2 vs e2 Dq U=>?_⟩;obtain⟨R',τ',hR,fM,rs⟩:=wk B e2 Dq;have BE:=W.from (Kp.of e2 hR);refine⟨λi m c H'=>m=items.length - i/\i<=items.length/\lW X F Φ t b R' H2 r items i c H',⟨_,rfl,aa3 _,R',τ',_,fM,Kp.refl R' H2,by rw[hG];exact ef⟩,?_⟩;rintro i m j H1 ⟨rfl,GP,hf⟩;obtain⟨R1,M,O,qy,k1,e1⟩:=id hf;have GH:=k1.Rl rs;have PD:qf X.K H2 vs xs H1:=⟨⟨R',rs,k1.l⟩,λa ys h=>k1.PF h⟩
 by_cases z:i<items.length
 ·refine .inr ⟨U.go i H1 R1 PD GH z,λc H'=>lW X F Φ t b R' H2 r items (i+1) c H',λc H' h=>⟨items.length - (i+1),by left,rfl,z,h⟩,λv H3 hy=>?_⟩;obtain⟨e3,dd,hd,rd⟩:=U.uW i H1 R1 v H3 PD GH z hy;have lH:items.drop i=dd::items.drop (i+1):=by
   rw[g7 z];rw[List.getElem?_eq_getElem z]at hd;cases hd;rfl
  rw[lH,dC]at e1;obtain⟨u,eb,e1⟩:=aC e1;obtain⟨⟨fo,q⟩,e4,e1⟩:=aC e1;have k3:Kp R' H2 R1 H3:=k1.trans (Kp.of e3 λ_ h=>h);refine rM v j H3 _ R1 M O u dd (qy.go e3) (gL rd) eb λc l7 y3=>⟨R1,l7,u,(fo,q),y3,e4,?_⟩
  cases fo with
  |nx=>exact λσ3 H4 R3 E Gu k4=>⟨R3,E,q,Gu,k3.trans k4,e1⟩
  |rt d=>cases e1;exact BE
 ·exact .inl ⟨U.stop i H1 R1 PD GH (by left),nZ (n:=i) (by left) BE j H1 hf⟩
theorem aF.ints{T:m9}{N:jk}:∀(is:ae) {k:bu} {n:Nat},aF T N k n (is.map V.int) (is.map DI.D.int)
 |[],_,_=>.nil
 |i::is,_,_=>.cons (.int i) (aF.ints is)
def L9(L:nc X S k Φ){t:Tg}{it:CI}{b:af}{x:aV}(ht:wR S t tg=true)(B:O8 S it iter=true)(hnp:(gu tg||Ea it)=true)(Y:iA X x (oQ X F Φ b)):PS X (.For tg iter x [] pos) (qC X F Φ (.fr t it b)):=by
 obtain⟨g,hg,rM⟩:=vf (F:=F) L ht;have i6:∀y,foldedSetIterable iter X.env y=pure y:=by
  intro y;cases iter<;>first|rfl | (cases it<;>first|exact(aae B).elim|exact(aae (aH B).2).elim)
 have jr:∀{lo:Int} {n:Nat} {D:Ends} {R:aj} {τ:Addr->Option bu} {ρ:aX} {σ:St} {H H1:Hp} {r:Fo×aX},SI X F R τ ρ σ H->aM H H1->m_ X F D R H r ->
   dC (λd ρ=>bU t d ρ) (λρ=>bE Φ b ρ) ((List.range n).map λ(k:Nat)=>DI.D.int (lo+(k:Int))) ρ=ok r ->
   ∃W:Nat->Nat->L2.St->Hp->Prop,(∃m,W 0 m σ H1)/\∀i m σ H,W i m σ H ->
    ((Cw lo n).stop i H/\D.nx σ H)\/((Cw lo n).go i H/\∃N:L2.St->Hp->Prop,(∀c H',N c H'->∃m',m'<m/\W (i+1) m' c H')/\∀x H',(Cw lo n).uW i H x H'->g x σ H' λσ2 H2=>oQ X F Φ b { D with nx:=N,ct:=N,bk:=D.nx } σ2 H2):=by
  intro lo n D R τ ρ σ H H1 r l e1 u E;have q:aF (bc X.K H1) (nd X.K R (λ_=>False) (λ_=>none) H1) [] 0 ((List.range n).map λ(k:Nat)=>V.int (lo+(k:Int))) ((List.range n).map λ(k:Nat)=>DI.D.int (lo+(k:Int))):=by
   have:=aF.ints (T:=bc X.K H1) (N:=nd X.K R (λ_=>False) (λ_=>none) H1) ((List.range n).map λ(k:Nat)=>lo+(k:Int)) (k:=[]) (n:=0);rw[fb,fb]at this;exact this
  have z:=u.from (Kp.of e1 (R':=R) λ_ h=>h);refine BU (lW X F Φ t b R H1 r _) ⟨R,τ,ρ,l.go e1,Kp.refl R H1,by rw[hG];exact E⟩ (λi c H' SV h=>?_) (λc H' h=>nZ (by simp) z c H' h);exact pL rM q z i (.int (lo+i)) c H' (by rw[List.getElem?_map,List.getElem?_range SV];rfl) h
 intro pins s σ H D I IU;cases it with
 |xu p cs =>
  obtain⟨yv,hz⟩:=aH B;obtain⟨args,ha,PZ⟩:=bt hz;exact Hs L ht ha PZ yv (by rw[Bool.or_comm];exact hnp) Y pins s σ H D I IU
 |jr a =>
  obtain⟨R,τ,ρ,r,l,U,u⟩:=IU;obtain⟨⟨items,ρ1⟩,j,E⟩:=aC U;obtain⟨⟨y,as⟩,hv,hz⟩:=bt B;obtain⟨p,NA,rfl⟩:=cw hv;obtain⟨hz1,PZ⟩:=aH hz;obtain⟨hz3,h2⟩:=aH hz1;obtain⟨hz4,h1⟩:=aH hz3;obtain rfl:y=_:=aad hz4;obtain⟨e,hu,h3⟩:=bt PZ;obtain rfl:as=[e]:=bR hu;have pa:PA X [e] (sH X F Φ [a]):=PA.imp (cy (eZ (F:=F) L.toLk a e h3).1 d7 (cx h3 _ _)) λ_ _ _ h=>by
   have:=fH h;obtain⟨R,τ,ρ,d,l,U,u⟩:=this;exact⟨R,τ,ρ,d,l,U,λv H' e r=>iH (u v H' e r)⟩
  refine kz L.px L.calm (rG (L.gl h1) (L.bl _ (aad h2)) pa (cx h3 _ _)) hg Y i6 pins s σ H D I ?_;obtain⟨d,Z,j⟩:=aC j;cases d<;>try (simp at j;done)
  rename_i n;simp at j;obtain⟨⟨c1,c2⟩,rfl,rfl⟩:=j;have nL:(du:Int)=1000000:=rfl;refine⟨R,τ,ρ,[.int n],l,by show bd (bo Φ a ρ) _=_;rw[Z];rfl,λvs H1 e1 J=>?_⟩;obtain⟨τt,fr,q⟩:=J;cases q.ints1
  ·refine⟨n,rfl,by left,by left,?_⟩;refine jr (lo:=0) l e1 u ?_;simpa using E
 |seq a =>
  obtain⟨R,τ,ρ,r,l,U,u⟩:=IU;obtain⟨⟨items,ρ1⟩,j,E⟩:=aC U;replace B:=aH B;obtain⟨d,Z,j⟩:=aC j;have pe:=(eZ (F:=F) L.toLk a iter B.1).1;cases d<;>try (simp at j;done)
  ·rename_i ds;simp at j;obtain⟨rfl,rfl⟩:=j;refine kz L.px L.calm (yc pe) hg Y i6 pins s σ H D I (tD.intro l Z λv H1 e1 J=>?_);obtain⟨R',τ',hR,fM,M⟩:=nY l e1 J;rw[aE]at M;cases M with
   | @tup _ p xs _ O q =>
    have z:=u.from (Kp.of e1 hR);refine⟨p,rfl,⟨xs,O⟩,Ad (xs:=xs) (lW X F Φ t b R' H1 r (aw aI ds)) ⟨R',τ',_,fM,Kp.refl R' H1,by rw[hG];exact E⟩ (λi c H' _ h=>?_) (λi x c H' hx h=>pL rM q z i x c H' hx h) (λc H' h=>nZ (q.length) z c H' h)⟩;obtain⟨R2,τ2,ρ2,_,kp,_⟩:=h;exact kp.PF O
  ·rename_i f ds;simp at j;obtain⟨rfl,rfl⟩:=j;refine kz L.px L.calm (s_ pe) hg Y i6 pins s σ H D I (tD.intro l Z λv H1 e1 J=>?_);obtain⟨R',τ',hR,fM,M⟩:=nY l e1 J;rw[aE]at M;obtain⟨p,xs,rfl,O,q⟩:=M.qA;have z:=u.from (Kp.of e1 hR);refine⟨p,rfl,⟨xs,O.sq⟩,wm (xs:=xs) (lW X F Φ t b R' H1 r (aw aI ds)) ⟨R',τ',_,fM,Kp.refl R' H1,by rw[hG];exact E⟩ (λi c H' _ h=>?_) (λi x c H' hx h=>pL rM q z i x c H' hx h) (λc H' h=>nZ (q.length) z c H' h)⟩;obtain⟨R2,τ2,ρ2,_,kp,_⟩:=h;exact(kp.nd O).sq
def tP{ρ':aX}{p:Addr}{q:bu}{n:Nd}{o:HO}(i:SI X F R' τ' ρ' σ H1)(es:aM H H1)(hR:∀p,R p->R' p)(d:fS H1 p n)(b:τ' p=some q):Kp R H R' (upd H1 p o):=by
 obtain⟨r,c,j,l⟩:=fS.some d;exact⟨hR,λa u g e=>by
  have ne:a≠p:=λz=>by subst z;rw[i.rt _ (hR _ g)]at b;cases b
  rw[bp ne];exact es _ _ e,λa m e=>by
  have e1:=es _ _ e;have ne:a≠p:=λz=>by subst z;rw[c]at e1;cases e1;exact j _ rfl
  rw[bp ne];exact e1,λa o u e=>by
  have e1:=es _ _ e;have ne:a≠p:=λz=>by subst z;rw[c]at e1;cases e1;exact l _ _ rfl
  rw[bp ne];exact e1⟩
def iV.go{v:V}{d:DI.D}(h:iV X R τ H v d)(e:aM H H'):iV X R τ H' v d :=
 let ⟨τt,h1,h2⟩:=h;⟨τt,λp q z=>let ⟨a,b,c,d⟩:=h1 p q z;⟨a,b,c,aM.ne e d⟩,h2.imp (λ_ _ h=>bc.same e h) λ_ _ _ _ h=>nd.same e h⟩
def Xs(L:nc X S k Φ){i:Nat}(h:nN S i o=true)(c:∀x p,o=.Name x p->nH x=true):∃x p,o=.Name x p/\X.N[i]?=some x/\L2.Loc X.env.scope x/\PE X o (nA i):=by
 cases o<;>try (exact(aae h).elim;done)
 rename_i x p;have a:=c x p rfl;replace h:=aH h;unfold nH at a;simp only[cM,i4]at a;have b:X.N[i]?=some x:=by rw[L.N];exact aad h.1
 have hl:=L.loc h.2;exact⟨x,p,rfl,b,hl,ml b (hl.imp id .inl) a.1.1 a.1.2⟩
def Ag{e:CE}{r:DI.D×aX}{i:Nat}{ds:List DI.D}(h:jD Φ e ρ=ok r)(a:r.2[i]?=some (some (.lst .ow ds))):ρ[i]?=some (some (.lst .ow ds)):=by
 by_cases g:∃j,e=.v j
 ·obtain⟨j,rfl⟩:=g;simp only[jD]at h;split at h
  ·split at h
   ·cases h;by_cases c:i=j
    ·subst c;rw[List.getElem?_set]at a;simp at a
    ·rw[List.getElem?_set_ne (Ne.symm c)]at a;exact a
   ·cases h;exact a
  ·cases h
 ·have h':bd (bo Φ e ρ) (λd=>ok (keep e d ρ))=ok r:=by
   cases e<;>first|exact h|exact absurd ⟨_,rfl⟩ g
  obtain⟨d,_,m⟩:=aC h';cases m;unfold keep at a;split at a
  ·obtain⟨d',l,b⟩:=Aa _ _ _ _ a;split at b
   ·cases d'<;>simp[aE]at b;rename_i f ds';cases f<;>simp[aI]at b
   ·rw[b];exact l
  ·exact a
def L_(L:nc X S k Φ){i:Nat}{e:CE}{x:Str}{v:Expr}{p:Pos}(hn:nN S i (.Name x p)=true)(hx:nH x=true)(he:cg S e v=true)(ET:(p1.endLine==p2.line)=true):PS X (.Expr (.Call (.Attribute (.Name x p) ("append" : Str) p1) [v] [] p2) pos) (qC X F Φ (.app i e)):=by
 obtain⟨_,_,z,hN,hl,Z⟩:=Xs L hn (λy q e=>by cases e;exact hx);cases z;refine PS.imp (nS (DZ ab5 PySem.F.slot_list_append PySem.F.type_list_append Bp Z (cy (sI (F:=F) L.toLk e v he) d7 (cx he _ _)) (hfew:=by rw[cx he];rfl) (hline:=ET) (hs:=cx he _ _))) λD σ H t=>?_;obtain⟨R,τ,ρ,r,B,b,t⟩:=t;obtain⟨Y,rW,b⟩:=aC b;split at b
 ·rename_i ds c;split at b
  ·rename_i hc;cases b;have c:=zI c;obtain⟨a,xs,s,ha,hxl,hta,_⟩:=B.own (Ag rW c);refine⟨.ref a,s,⟨rfl,_,dq.of ha⟩,R,τ,ρ,Y,B,rW,λw H1 R1 J es hR j W=>?_⟩;obtain⟨a1,Wk,E,u,Ya,I,GH⟩:=j.own c;rw[s]at E;cases E;have hz:sizeLine=16777216:=abg;have nL:du=1000000:=rfl;refine⟨a,Wk,w,rfl,rfl,u,by left,?_⟩;obtain⟨d,O⟩:=j.put (m:=ds.length) (g:=λM=>M++[w]) c s u I GH W λU r=>aF.Kn U (by simpa using r);exact t σ _ R1 d O (tP (n:=.l _) j es hR u I)
  ·cases b
 ·cases b
def Hr(L:nc X S k Φ){i:Nat}{c e:CE}{x:Str}{s v:Expr}{p:Pos}(hn:nN S i (.Name x p)=true)(hx:nH x=true)(U:cg S c s=true)(he:cg S e v=true)(Yy:gZ v=false):PS X (.Assign [.Subscript (.Name x p) s p1] v pos) (qC X F Φ (.setI i c e)):=by
 obtain⟨_,_,z,hN,hl,pe⟩:=Xs L hn (λy q e=>by cases e;exact hx);cases z;have hw:swappedStores [.Subscript (.Name x p) s p1] v X.env=pure none:=by cases v<;>rfl
 have W:∀u,assign (.Subscript (.Name x p) s p1) X.env u=(do
   let ov <- holding [u] (eval (.Name x p) X.env)
   let iv <- holding [u,ov] (eval s X.env)
   standAt p1
   holding [u,ov,iv] (setItem ov iv u)
   release [u,ov,iv] []):=by
  intro u;cases s<;>first|rfl | (cases c<;>exact(aae U).elim)
 refine PS.imp (DK (sI (F:=F) L.toLk e v he) (MB pe (eZ (F:=F) L.toLk c s U).1 set_list W) (by first|rfl | (cases v<;>rfl) | (unfold swapsWithSole;exact iu he Yy _ _ _)) hw rfl) λD σ H J=>?_;obtain⟨R,τ,ρ,r,Si,b,J⟩:=J;obtain⟨r1,rW,b⟩:=aC b;obtain⟨n,en,b⟩:=aC b;obtain⟨d,ed,en⟩:=aC en;have en:=IM en;subst en;split at b
 ·rename_i ds t;split at b
  ·rename_i j hj;cases b;have t:=zI t;obtain⟨a,xs,I,W,hxl,hta,_⟩:=Si.own (Ag rW t);refine⟨R,τ,ρ,r1,Si,rW,λw H1 R1 τ1 es hR O rk=>?_⟩;refine⟨.ref a,I,tD.intro O ed λu H2 e2 ru=>?_⟩;cases ru.isInt;have E:=O.go e2;obtain⟨a2,LB,Y,M,X_,Z,HN⟩:=E.own t;rw[I]at Y;cases Y;refine⟨a,LB,n,j,rfl,rfl,M,by rw[X_];exact hj,?_⟩;obtain⟨B,Gu⟩:=E.put (m:=j) (g:=λys=>ys.set j w) t I M Z HN (rk.go e2) λrs r=>aF.setAt (j:=j) rs (by simpa using r);exact J σ _ R1 B Gu (tP (n:=.l _) E (es.trans e2) hR M Z)
  ·cases b
 ·cases b
end
section
variable {X:Cx}{S:Sx}{k:Nat}{F:aj}{Φ:aT}
def Mz(x:Str)(p:Pos):(Expr.Name x p).pos=p:=rfl
def xT{x y:Str}{px d pt t:Pos}{l:Nat}{a b:Expr}(p:env.scope.kind=.function)(n:env.scope.names.lookup x=some .local)(m:env.scope.names.lookup y=some .local)(c:x≠y)(hl:px.line=d.line)
  (s:[a,b].all (foldedForSure 8)=false) (r:[a,b].all (constantsAlone 8)=false) (g:([a,b].any λe=>match e with|.Starred ..=>true|_=>false)=false) :
  swappedStores [.Tuple [.Name x px,.Name y d] l pt] (.Tuple [a,b] k2 t) env=pure (some [x,y]):=by
 have q:env.blockKind=.function:=by unfold Env.blockKind;rw[p];rfl
 have j:env.kindOf x=some .local:=n;have i:env.kindOf y=some .local:=m;have e1:([x,y].eraseDups.length != [x,y].length)=false:=by
  have:¬ (y==x)=true:=by simp;exact λz=>c z.symm
  have h':(y==x)=false:=by simpa using this
  simp[List.eraseDups_cons,List.filter,h',c]
 unfold swappedStores;simp only[q,g,ij,List.filterMap_nil,j,i,hl,Mz,List.head?_cons,nI,Option.getD_some,s,r];simp only[hY,Bool.and_self,if_true];rw[cb (by simp)];refine(acB ?_).trans ?_
 ·intro z;exact aae (g.symm.trans z)
 rw[cb (by
  rw[e1];simp),cb dX,cb dX]
def oY{a:bu}{v:V}{d:DI.D}(h:Rep (bc X.K H) (nd X.K R A τ H) a v d)(hf:bh anyF d=false):iV X R' τ' H v d :=
 ⟨λ_=>none,λ_ _ h=>by simp at h,Rep.without (P:=anyF) (λ_ _ h=>h) (λk k' p xs f hf h=>by cases hf) h hf _⟩
def L8(L:nc X S k Φ){i j:Nat}{a b:CE}{v:Expr}(he:cg S (.tup [a,b]) v=true)(hp:F0 S i j tg v=true):PS X (.Assign [tg] v pos) (qC X F Φ (.par i j a b)):=by
 obtain⟨ts,NF,q1⟩:=bt hp;obtain⟨kt,pt,rfl⟩:=k7 NF;obtain⟨⟨t1,t2⟩,VG,q2⟩:=bt q1;obtain rfl:ts=[t1,t2]:=jl VG;obtain⟨⟨x,px⟩,u,q3⟩:=bt q2;obtain rfl:t1=_:=zd u;obtain⟨⟨y,py⟩,t,q4⟩:=bt q3;obtain rfl:t2=_:=zd t;obtain⟨vs,s,q5⟩:=bt q4;obtain⟨k2,PJ,rfl⟩:=k7 s;obtain⟨⟨ea,eb⟩,q,q6⟩:=bt q5;obtain rfl:vs=[ea,eb]:=jl q
 ·obtain⟨q7,Z⟩:=aH q6;obtain⟨q8,B⟩:=aH q7;obtain⟨q9,E⟩:=aH q8;obtain⟨Xj,I⟩:=aH q9;obtain⟨p,J⟩:=aH Xj;obtain⟨n,d⟩:=aH p;obtain⟨m,e⟩:=aH n;obtain⟨l,M⟩:=aH m;obtain⟨U,O⟩:=aH l;replace U:S.N[i]?=some x:=aad U;replace O:S.N[j]?=some y:=aad O;replace M:=aad M;replace e:=aad e;replace d:=aad d;replace J:=aad J;replace I:=aad I;replace E:=gN E;replace B:=gN B;replace Z:=aad Z;replace he:=aH he;have pa:=sJ (F:=F) L.toLk [a,b] [ea,eb] he.1;refine PS.imp (Mx L.calm L.nd (by rw[L.N];exact U) (by rw[L.N];exact O) M (by rw[L.sc];exact e) (by rw[L.sc];exact d) pa (xT (by rw[L.sc];exact L.fk) (by rw[L.sc];exact e) (by rw[L.sc];exact d) J I E B Z)) λD σ H z=>?_;obtain⟨R,τ,ρ,r,Si,c,z⟩:=z;obtain⟨d1,Y,c⟩:=aC c;obtain⟨d2,W,c⟩:=aC c;simp only[KS]at c;obtain⟨⟨f1,f2,l1,l2⟩,rfl⟩:=c;refine⟨R,τ,ρ,[d1,d2],Si,by show bd (bo Φ a ρ) _=_;rw[Y];show bd (bd (bo Φ b ρ) _) _=_;rw[W];rfl,λvs H1 e1 rv=>?_⟩;obtain⟨τt,fr,rs⟩:=rv;obtain⟨v1,v2,rfl,r1,r2⟩:=rs.two
  ·obtain⟨τ1,S1⟩:=(Si.go e1).set (i:=i) (oY r1 f1) l1;obtain⟨g,S2⟩:=S1.set (i:=j) (oY r2 f2) (by simpa using l2);exact⟨v1,v2,rfl,z _ H1 R g S2 (Kp.of e1 λ_ h=>h)⟩
mutual
theorem xU(L:nc X S k Φ):∀(c:CS) (st:Stmt),qP S c st=true->PS X st (qC X F Φ c)
 |.asg t e,st,h=>by
  obtain⟨⟨GG,v⟩,u,l⟩:=bt h;obtain⟨pos,rfl⟩:=k9 u;obtain⟨tg,I,n⟩:=bt l;obtain rfl:GG=[tg]:=bR I;obtain⟨O,E⟩:=aH n;obtain⟨M,B⟩:=aH O;obtain⟨g,s⟩:=aH M;have g:cg S e v=true:=g;replace B:(isTup v&&isTup tg)=false:=gN B;cases hc:gZ v with
  |false=>exact C4 L g s B (iu g hc _ _ _)
  |true =>
   have E:(!gZ v||isNm tg)=true:=E;rw[hc]at E;obtain⟨x,p,rfl⟩:=nW E;obtain⟨kc,gens,sc,Qy,rfl⟩:=By hc;cases e<;>try (exact(aae g).elim)
   cases t with
   |tp is=>exact(aae s).elim
   |nm i =>
    cases hb:WV S (.Name x p) (.ListComp kc gens sc Qy)with
    |true=>exact Ht L g s (by rw[Km L,hb])
    |false=>exact C4 L g s B (by
      show swapsWith (.ListComp kc gens sc Qy) (some (.Name x p)) pos.line X.env=_;rw[Km L,hb])
 |.par i j a b,st,h=>by
  obtain⟨⟨GG,v⟩,u,l⟩:=bt h;obtain⟨pos,rfl⟩:=k9 u;obtain⟨tg,I,n⟩:=bt l;obtain rfl:GG=[tg]:=bR I;exact L8 L (aH n).1 (aH n).2
 |.ret e,st,h=>by
  obtain⟨z,u,l⟩:=bt h;obtain⟨pos,rfl⟩:=zc u;obtain⟨v,I,n⟩:=bt l;obtain rfl:z=some v:=I;exact L7 L n
 |.rs c,st,h=>λ_ _ _ _ _ _ b8=>by obtain⟨R,τ,ρ,r,Si,J,U⟩:=b8;cases J
 |.ex e,st,h=>by
  obtain⟨v,u,l⟩:=bt h;obtain⟨pos,rfl⟩:=oN u;exact Q2 L (aH l).1 (gN (aH l).2)
 |.mut p i es,st,h=>by
  obtain⟨⟨o,args⟩,ha,l⟩:=bt h;obtain⟨n,B⟩:=aH l;obtain⟨g,s⟩:=aH n;obtain⟨x,pp,rfl,hN,hl,pe⟩:=Xs L g (λy q e=>by cases e;exact s);exact L.pm.m X _ _ k L.toLk.pX L.nd L.xC p st x pp args ha i hN hl pe F es (lp L.toLk es args B)
 |.app i e,st,h=>by
  obtain⟨c,u,l⟩:=bt h;obtain⟨pos,rfl⟩:=oN u;obtain⟨⟨fn,as,ks,p2⟩,I,n⟩:=bt l;obtain rfl:c=_:=q_ I;obtain⟨O,M⟩:=aH n;obtain rfl:ks=[]:=lF O;obtain⟨⟨o,a,p1⟩,v3,q5⟩:=bt M;obtain rfl:fn=_:=u0 v3;obtain⟨q6,q7⟩:=aH q5;obtain⟨v,v4,E⟩:=bt q7;obtain rfl:as=[v]:=bR v4;obtain⟨q8,Z⟩:=aH q6;obtain⟨q9,s⟩:=aH q8;obtain⟨Xj,g⟩:=aH q9;obtain rfl:a=_:=aad Xj;obtain⟨x,p,rfl⟩:∃x p,o=.Name x p:=uj g;exact L_ L g s E Z
 |.setI i k e,st,h=>by
  obtain⟨⟨GG,v⟩,u,l⟩:=bt h;obtain⟨pos,rfl⟩:=k9 u;obtain⟨tg,I,n⟩:=bt l;obtain rfl:GG=[tg]:=bR I;obtain⟨⟨o,ke⟩,v3,O⟩:=bt n;obtain⟨p1,rfl⟩:=k8 v3;obtain⟨M,Z⟩:=aH O;obtain⟨q5,E⟩:=aH M;obtain⟨q6,B⟩:=aH q5;obtain⟨g,s⟩:=aH q6;obtain⟨x,p,rfl⟩:∃x p,o=.Name x p:=uj g;exact Hr L g s B E (gN Z)
 |.ifs c a b,st,h=>by
  obtain⟨⟨t,x,y⟩,u,l⟩:=bt h;obtain⟨pos,rfl⟩:=sC u;obtain⟨n,B⟩:=aH l;obtain⟨g,s⟩:=aH n;exact Q1 L g (gK L a _ s) (gK L b _ B)
 |.Ke c b,st,h=>by
  obtain⟨⟨t,x,y⟩,u,l⟩:=bt h;obtain⟨pos,rfl⟩:=He u;obtain⟨n,B⟩:=aH l;obtain⟨g,s⟩:=aH n;obtain rfl:y=[]:=lF g;exact C3 L s (gK L b _ B)
 |.fr t it b,st,h=>by
  obtain⟨⟨tg,iter,x,y⟩,u,l⟩:=bt h;obtain⟨pos,rfl⟩:=zf u;obtain⟨n,Z⟩:=aH l;obtain⟨O,E⟩:=aH n;obtain⟨M,B⟩:=aH O;obtain⟨g,s⟩:=aH M;obtain rfl:y=[]:=lF g;exact L9 L s B E (gK L b _ Z)
theorem gK(L:nc X S k Φ):∀(cs:af) (Y:aV),ja S cs Y=true->iA X Y (oQ X F Φ cs)
 |[],[],_=>iA.imp sW λD σ H b8=>by obtain⟨R,τ,ρ,r,Si,J,U⟩:=b8;cases J;exact U σ H R τ Si (Kp.refl R H)
 |[],_::_,h=>by exact(aae h).elim
 |_::_,[],h=>by exact(aae h).elim
 |c::cs,st::Y,h=>by
  replace h:=aH h;have g:PS X st (qC X F Φ c):=xU L c st h.1;have s:iA X Y (oQ X F Φ cs):=gK L cs Y h.2;refine iA.imp (dZ g s) λD σ H U=>?_;obtain⟨R,τ,ρ,r,Si,J,U⟩:=U;obtain⟨⟨fo,W⟩,e1,J⟩:=aC J;refine⟨R,τ,ρ,(fo,W),Si,e1,?_⟩;cases fo with
  |nx=>exact λσ' H' R' τ' fM kp=>⟨R',τ',W,r,fM,J,U.from kp⟩
  |rt d=>cases J;exact U
end
end
variable {mg:Str->Option Value}{ps:aq}{qual:Str}
def wo{x:Str}{f:Addr}{j:FuncData}{k:Nat}{N bl:aq}{cs:List (Str×GK)}{px:Px}{B:Nat->Option Str}{m:au}{body:af}
  (Fu:GC K x qual st f j) (n:gV N ps (aO st)) (E_:ja ⟨aO st,N,B,bl,cs,px⟩ body (bM st)=true) (yv:qo px Φ) (NJ:GA px Φ)
  (rO:∀y∈bl,mg y=none) (lI:∀y i,(y,i)∈cs->∃u,mg y=some u/\y_ K i u)
  (xA:∀g y,B g=some y->∃(f:Addr) (j:FuncData) (ps:aq),iB P w K mg base Ce k f j ps (Hv K ps.length (Φ g))/\mg y=some (.ref f)/\PySem.W.keepIn K (.ref f)=true/\Binds K j ps []/\∀ds r,Φ g ds=ok r->ds.length=ps.length)
  (hm:∀ds r,m ds=ok r->ds.length=ps.length/\sQ Φ N.length body ds=ok r):iB P w K mg base Ce (k+1) f j ps (Hv K ps.length m):=by
 refine Fu.ok (N:=N) n (λvs H Q E ⟨_,_,_,h,_⟩=>h) λf_ A outer s H vs Q E hr xw=>?_;obtain⟨F,ds,r,hl,I,er,M⟩:=xw;obtain⟨P_,l⟩:=hm ds r er
 let X:=(jH Ce P w K mg base N qual (aO st) f f_ A outer s H E).zJ
 have L:nc X ⟨aO st,N,B,bl,cs,px⟩ k Φ:=⟨⟨rfl,rfl,n.nd,rfl,hr,rO,λg y h=>⟨xA g y h⟩,lI,yv⟩,λ_=>rfl,PassesOwn.never,n.kind,NJ⟩
 refine⟨oQ X F Φ body,gK L body _ E_,?_⟩;unfold sQ at l;obtain⟨⟨O,t⟩,eb,l⟩:=aC l;have hpl:ps.length<=N.length:=by have:=aaI List.length n.pre;rw[hF]at this;left
 have Y:vs.length=ds.length:=I.length;refine⟨λp=>F p/\H p≠none,λ_=>none,_,(O,t),⟨?_,λi d e=>?_,λ_ _=>rfl,λp h=>h.2,λp h=>.inl h.1,λ_ _ h=>by simp at h,λ_ _ h=>by simp at h,aM.refl H⟩,eb,?_⟩
 ·unfold L2.start;simp[Y]
 ·have U:i<ds.length:=by
   by_cases J:i<ds.length
   ·exact J
   ·rw[List.getElem?_append_right (by simpa using J)]at e;rw[List.getElem?_replicate]at e;split at e<;>simp at e
  rw[List.getElem?_append_left (by simpa using U),List.getElem?_map]at e;have hd:ds[i]?=some d:=by
   cases q:ds[i]? with
   |none=>rw[q]at e;cases e
   |some z=>rw[q]at e;simp at e;rw[e]
  obtain⟨v,hv,rv⟩:=I.get hd;refine⟨v,?_,rv.imp (q:=[0+i]) (q':=[i]) (λ_ _ h=>h) λc p xs f h=>?_⟩
  ·unfold L2.start;rw[List.getElem?_append_left (by rw[b4,Y];exact U),List.getElem?_map,hv];rfl
  ·cases f with
   |ow=>exact nomatch h.2
   |fz=>exact⟨h.1,h.2,h.1.ne⟩
   |al=>exact h.2.elim
   |sc=>exact h
 ·cases O with
  |nx =>
   cases l;exact λZ H' R' τ' fM kp=>M .bP H' fM.same ⟨λ_=>none,λ_ _ h=>by simp at h,.bP⟩
  |rt d =>
   cases l;exact λv H' es ⟨a,b,c⟩=>M v H' es ⟨a,b,c⟩
structure Ent(P:aK)(w:World)(K:ak)(mg:aY)(base:Heap)(k:Nat)(y:Str)(m:au):Prop where
 ex:∃(f:Addr) (fd:FuncData) (ps:aq),iB P w K mg base Ce k f fd ps (Hv K ps.length m)/\mg y=some (.ref f)/\PySem.W.keepIn K (.ref f)=true/\Binds K fd ps []/\∀ds r,m ds=ok r->ds.length=ps.length
def Ent.up{k k':Nat}{y:Str}{m:au}(h:Ent P w K mg base k y m)(a:k<=k'):Ent P w K mg base k' y m:=by
 obtain⟨f,d,ps,c,b⟩:=h.ex;exact⟨f,d,ps,c.mono a,b⟩
def ent{x:Str}{f:Addr}{a:FuncData}{k:Nat}{N bl:aq}{cs:List (Str×GK)}{px:Px}{b:Nat->Option Str}{m:au}{body:af}
  (d:GC K x qual st f a) (hmg:mg x=some (.ref f)) (p:Binds K a ps []) (q:gV N ps (aO st)) (t:ja ⟨aO st,N,b,bl,cs,px⟩ body (bM st)=true) (e:qo px Φ) (s:GA px Φ) (l:∀y∈bl,mg y=none) (n:∀y i,(y,i)∈cs->∃u,mg y=some u/\y_ K i u)
  (j:∀g y,b g=some y->Ent P w K mg base k y (Φ g)) (c:∀ds r,m ds=ok r->ds.length=ps.length/\sQ Φ N.length body ds=ok r):Ent P w K mg base (k+1) x m :=
 ⟨f,a,ps,wo d q t e s l n (λg y h=>(j g y h).ex) c,hmg,d.kp,p,λds r h=>(c ds r h).1⟩
def bB{b:Type}(P:b->Prop):List b->Prop
 |[]=>True
 |a::l=>P a/\bB P l
theorem bB.mem{b:Type}{P:b->Prop}:∀{l:List b},bB P l->∀a∈l,P a
 |[],_,_,h=>by cases h
 |_::_,h,_,hm=>(List.mem_cons.mp hm).elim (λe=>e▸h.1) (bB.mem h.2 _)
theorem bB.tab{c:Type}{P:Nat->c->Prop}:∀{l:List (Nat×c)},bB (λp=>P p.1 p.2) l->∀g y,l.lookup g=some y->P g y
 |[],_,_,_,h=>by cases h
 | (k,b)::l,h,g,y,e=>by
  rw[eG]at e;cases a:g==k with
  |true=>rw[a]at e;cases e;rw[eq_of_beq a];exact h.1
  |false=>rw[a]at e;exact bB.tab h.2 g y e
def bB.two{b a:Type}{P:b->a->Prop}{l:List (b×a)}(h:bB (λp=>P p.1 p.2) l)(y:b)(i:a)(c:(y,i)∈l):P y i:=bB.mem h _ c
def R8{b:Type}{l:List b}(h:l.length=1):∃a,l=[a]:=List.length_eq_one_iff.mp h
def IC{c:Type}{l:List c}(h:l.length=2):∃a b,l=[a,b]:=by
 cases l with
 |nil=>cases h
 |cons a l=>obtain⟨b,rfl⟩:=R8 (Nat.succ.inj h);exact⟨a,b,rfl⟩
def IB{d:Type}{l:List d}(h:l.length=3):∃a b c,l=[a,b,c]:=by
 cases l with
 |nil=>cases h
 |cons a l=>obtain⟨b,c,rfl⟩:=IC (Nat.succ.inj h);exact⟨a,b,c,rfl⟩
def XB{e:Type}{l:List e}(h:l.length=4):∃a b c d,l=[a,b,c,d]:=by
 cases l with
 |nil=>cases h
 |cons a l=>obtain⟨b,c,d,rfl⟩:=IB (Nat.succ.inj h);exact⟨a,b,c,d,rfl⟩
noncomputable def pw:aa->Option (ae)
 |[]=>some []
 |.int i::ds=>(pw ds).map (i :: ·)
 |_::_=>none
theorem pv:∀ns:ae,pw (ns.map D.int)=some ns
 |[]=>rfl
 |n::ns=>by simp[pw,pv ns]
theorem vK:∀{ds:aa} {ns:ae},pw ds=some ns->ds=ns.map D.int
 |[],ns,h=>by simp[pw]at h;subst h;rfl
 |d::ds,ns,h=>by
  cases d<;>simp[pw]at h;obtain⟨b,a,rfl⟩:=h;rw[vK a];rfl
def tH:au
 |[.lst .sc ds]=>match pw ds with
  |some ns=>if ns.length<=63 then ok (.bl true)else none
  |none=>none
 |_=>none
def Iy(h:ns.length<=63):tH [.lst .sc (ns.map D.int)]=ok (.bl true):=by
 simp[tH,pv,h]
def Ep{n:Nat}{b:af}(h:∀ns:ae,ns.length<=63->sQ Φ n b [.lst .sc (ns.map D.int)]=ok (.bl true)):∀ds r,tH ds=ok r->ds.length=1/\sQ Φ n b ds=ok r:=by
 intro ds r e
 match ds,e with
 |[.lst .sc ds],e =>
  simp only[tH]at e;split at e
  ·rename_i ns a;split at e
   ·rename_i hl;cases e;obtain rfl:=vK a;exact⟨rfl,h ns hl⟩
   ·cases e
  ·cases e
def Nf(K:ak)(H:Hp)(a:Addr)(ns:ae)(m:au)(c:m [.lst .sc (ns.map D.int)]=ok (.bl true))(e:Ka H)(d:dq K H a (ns.map V.int)):Hv K 1 m [.ref a] H (λv _=>v=.bl true) λ_ _ _=>False:=by
 refine⟨λ_=>True,_,.bl true,rfl,.cons (.lst ?_ (aF.ints ns)) .nil,c,λv H' _ g=>by obtain⟨τt,_,b⟩:=g;cases b;rfl⟩;rcases d with (h|h)|h
 ·rcases e a with z|⟨o,xs,z⟩
  ·rw[h]at z;cases z
  ·rw[h]at z;cases z
 ·exact .inl h
 ·exact .inr h
section
variable {X:Cx}{pins:av}{σ:St}{H:Hp}{s:Shared}{h':Heap}
def sE(I:Inv X pins σ H s)(hf:∀b∈ch,qq X pins H b)(k:∀b u,b∉ch->s.heap.get? b=some u->h'.get? b=some u):Inv X pins σ H { s with heap:=h',toks:=t' }:=by
 have i:∀b u,H b=some u->b∉ch:=λb u e z=>by rw[(hf b z).1]at e;cases e
 refine I.step (g':=s.gens) (d':=s.drawn) (ch:=ch) (λb c=>⟨(hf b c).2.2.2.1,(hf b c).2.1,(hf b c).2.2.2.2.1,(hf b c).2.2.2.2.2⟩) (λb o _ _ a e _=>k b o a e) (λb o _ _ a e _=>⟨o.slots,k b o a e⟩) (λ_ _ _ _ n=>n)
  (λb o a e=>⟨o,k b o a e⟩) (λ_ _ e=>e) (λ_ _ _ e=>e) (λm g=>?_) (λb u e=>?_) I.bare
 ·obtain⟨o,es,ep,d,r⟩:=g;exact⟨o,es,ep,k _ o (λz=>(hf _ z).2.1 rfl) d,r⟩
 ·exact(I.cD b u e).jn λv=>k b v (i b u e)
def sF{T:Addr}{o:HO}(I:Inv X pins σ H s)(hf:∀b∈ch,qq X pins H b)(k:∀b u,b∉ch->s.heap.get? b=some u->h'.get? b=some u)(g:s.heap.objs.size<=T)(new:c_ (upd H T o) h' T o):
  Inv X pins σ (upd H T o) { s with heap:=h',toks:=t' }:=by
 have l:∀b u,H b=some u->b∉ch:=λb u e z=>by rw[(hf b z).1]at e;cases e
 have d:H T=none:=I.cD.fresh g;have ne:∀b (u:Obj),s.heap.get? b=some u->b≠T:=λb u e z=>absurd (aah e) (by rw[z];exact Nat.not_lt.mpr g);have up:∀b u,H b=some u->upd H T o b=some u:=λb u e=>by rw[bp (d8 e d)];exact e
 refine I.step (g':=s.gens) (d':=s.drawn) (ch:=ch) (λb c=>⟨(hf b c).2.2.2.1,(hf b c).2.1,(hf b c).2.2.2.2.1,(hf b c).2.2.2.2.2⟩) (λb o _ _ a e _=>k b o a e) (λb o _ _ a e _=>⟨o.slots,k b o a e⟩) (λb u _ e n=>by rw[bp (ne b u e)];exact n)
  (λb o a e=>⟨o,k b o a e⟩) (λ_ _ e=>up _ _ e) (λ_ _ _ e=>up _ _ e) (λm j=>?_) (z3 (λb u e=>?_) d new) I.bare
 ·obtain⟨o,es,ep,i,r⟩:=j;exact⟨o,es,ep,k _ o (λz=>(hf _ z).2.1 rfl) i,r⟩
 ·exact(I.cD b u e).jn λv=>k b v (l b u e)
end
def Z1(K:ak)(a b:Addr):It :=
  ⟨λi H=>∃xs c x y,dq K H a xs/\dq K H b c/\xs[i]?=some x/\c[i]?=some y,
   λi H v H'=>∃T x y,(∀xs,dq K H a xs->xs[i]?=some x)/\(∀c,dq K H b c->c[i]?=some y)/\H T=none/\v=.ref T/\H'=upd H T (.tup [x,y]),
   λi H=>∃xs c,dq K H a xs/\dq K H b c/\(xs.length<=i\/c.length<=i)⟩
def nP{T:Addr}{x y:V}{u v:Value}(b:RelV x u)(a:RelV y v)(e:h.get? T=some { cls:=.type "tuple",data:=.seq #[u,v] }):c_ H h T (.tup [x,y]) :=
 ⟨by rw[sizeLine_eq];simp,[u,v],.cons b (.cons a .nil),⟨_,e,rfl,_,rfl⟩⟩
def cV{a b:Addr}{o u:Obj}(e:h.get? a=some o)(c:h.get? b=some u)(d:o.cls≠u.cls):a≠b:=λz=>by
 subst z;rw[e]at c;cases c;exact d rfl
def CP{tp:Pos}{a b z TI TO:Addr}(hTT:TI≠TO)(K2:i1≠i2):
  Turn P w K (.Tuple elts n1 tp) (Z1 K a b) [z,TI,TO,i1,i2] z (λi h=>IsZip h z TI TO .none/\IsPair h TI (.ref i1) (.ref i2)/\(∃x y,IsPair h TO x y)/\h.IsListIter i1 a i/\h.IsListIter i2 b i):=by
 have apart:∀{h:Heap} {x y:Value} {xs t:aW} {i:Nat},IsZip h z TI TO .none->IsPair h TI (.ref i1) (.ref i2)->IsPair h TO x y->h.IsListIter i1 a i->h.IsListIter i2 b i->h.IsList a xs->h.IsList b t->ZipApart z TI TO i1 i2 a b:=by
  intro h x y xs t i d l j l1 l2 ha hb;obtain⟨L,e1,c1,_⟩:=l1;obtain⟨o2,e2,r,_⟩:=l2;obtain⟨oa,U,ca,_⟩:=ha;obtain⟨ob,O,W,_⟩:=hb;exact⟨cV l d (by simp),cV j d (by simp),cV e1 d (by rw[c1];simp),cV e2 d (by rw[r];simp),hTT,cV l e1 (by rw[c1];simp),cV l e2 (by rw[r];simp),cV j e1 (by rw[c1];simp),cV j e2 (by rw[r];simp),K2,
   cV U d (by rw[ca];simp),cV U j (by rw[ca];simp),cV U e1 (by rw[ca,c1];simp),cV U e2 (by rw[ca,r];simp),cV O d (by rw[W];simp),cV O j (by rw[W];simp),cV O e1 (by rw[W,c1];simp),cV O e2 (by rw[W,r];simp)⟩
 refine⟨by simp,λi h st c g=>?_,λi h h' st k=>?_,?_,?_,λA i s Q E st hQ=>wpAny_pyIter_zip st.1 hQ⟩
 ·obtain⟨d,l,⟨x,y,j⟩,⟨L,e1,_,d1⟩,⟨o2,e2,_,d2⟩⟩:=st;simp only[ft,eg,or_false]at g;rcases g with rfl|rfl|rfl|rfl|rfl
  ·exact⟨_,d,λv q=>by cases q⟩
  ·exact⟨_,l,λv q=>by cases q⟩
  ·exact⟨_,j,λv q=>by cases q⟩
  ·exact⟨L,e1,λv q=>by rw[d1]at q;cases q⟩
  ·exact⟨o2,e2,λv q=>by rw[d2]at q;cases q⟩
 ·obtain⟨d,l,⟨x,y,j⟩,l1,l2⟩:=st;exact⟨k z (by simp) _ d,k TI (by simp) _ l,⟨x,y,k TO (by simp) _ j⟩,l1.at λo e=>k i1 (by simp) o e,l2.at λo e=>k i2 (by simp) o e⟩
 ·intro X hP hw hK g i pins s σ H E I M st hg;subst hP hw hK;obtain⟨xs,t,x,y,J,B,ex,ey⟩:=hg;obtain⟨d,l,⟨x0,y0,j⟩,l1,l2⟩:=st;obtain⟨aR,Z,p,_⟩:=I.list J;obtain⟨n,Ck,p',_⟩:=I.list B;obtain⟨u,hu,ru⟩:=Z.get ex;obtain⟨u',KY,ru'⟩:=Ck.get ey;have D:=apart d l j l1 l2 p.isList p'.isList;refine wpAny_pyNext_zip_item D d l j l1 l2 p.isList p'.isList (x:=u) (y:=u') (by simpa using hu) (by simpa using KY) λh1 z1 L a1 b1 t1 PB k1=>⟨_,rfl,?_⟩
  refine wpAny_letOwnedTupleGo_zip z1 λh2 z2 m=>?_;have Y:s.heap.objs.size≠z:=aat (aah d);have kk:∀c o,c∉[z,TI,TO,i1,i2]->s.heap.get? c=some o->h2.get? c=some o:=λc o g e=>by
   simp only[ft,eg,or_false,not_or]at g;exact m.extBut c o g.1 (k1 c o g.1 g.2.2.1 g.2.2.2.1 g.2.2.2.2 e)
  have hT:h2.get? s.heap.objs.size=some { cls:=.type "tuple",data:=.seq #[u,u'] }:=m.extBut _ _ Y t1;have hn:H s.heap.objs.size=none:=I.cD.fresh (aaj _);refine⟨.ref s.heap.objs.size,upd H s.heap.objs.size (.tup [x,y]),sF (s:=s) (h':=h2) (t':=s.toks) I M kk (aaj _) (nP ru ru' hT),rfl,⟨_,x,y,λzs d=>by rw[I.jx d J];exact ex,λzs d=>by rw[I.jx d B];exact ey,hn,rfl,rfl⟩,⟨z2,m.extBut _ _ D.TIz (k1 _ _ D.TIz D.TITO D.TIi1 D.TIi2 l),⟨_,_,m.extBut _ _ D.TOz L⟩,a1.extBut m.extBut D.i1z,b1.extBut m.extBut D.i2z⟩,λc g=>?_⟩;rw[bp]
  ·exact(M c g).1
  ·intro z;subst z;simp only[ft,eg,or_false]at g;rcases g with e|e|e|e|e
   ·exact absurd (aah d) (by rw[<- e];exact aau _)
   ·exact absurd (aah l) (by rw[<- e];exact aau _)
   ·exact absurd (aah j) (by rw[<- e];exact aau _)
   ·obtain⟨_,w,_⟩:=l1;exact absurd (aah w) (by rw[<- e];exact aau _)
   ·obtain⟨_,w,_⟩:=l2;exact absurd (aah w) (by rw[<- e];exact aau _)
 ·intro X hP hw hK g i pins s σ H E I M st hg;subst hP hw hK;obtain⟨xs,t,J,B,hl⟩:=hg;obtain⟨d,l,⟨x0,y0,j⟩,l1,l2⟩:=st;obtain⟨aR,Z,p,_⟩:=I.list J;obtain⟨n,Ck,p',_⟩:=I.list B;have e1:=Z.length;have e2:=Ck.length;refine wpAny_pyNext_zip_end (I.ok.hd g) (apart d l j l1 l2 p.isList p'.isList) d l j l1 l2 p.isList p'.isList (by simp;left) λh1 k1=>⟨rfl,sE (t':=s.toks) I M λc o g e=>?_⟩
  simp only[ft,eg,or_false,not_or]at g;exact k1 c o g.1 g.2.2.1 g.2.2.2.1 g.2.2.2.2 e
variable {ta:TA}
def MA{n p:Pos}(J:Gl X "zip")(E:X.mg "zip" = none)(L:PA X [e1,e2] ta)(hs:∀es,starEach (e1::es) X.env=(false,eval e1 X.env)::starEach es X.env)(O:∀es,starEach (e2::es) X.env=(false,eval e2 X.env)::starEach es X.env):
  PI X (.Tuple elts n1 n) (.Call (.Name "zip" p) [e1,e2] [] pos) (λσ H R=>ta σ H λvs H1=>∃a b,vs=[.ref a,.ref b]/\(∃xs,dq X.K H1 a xs)/\(∃i,dq X.K H1 b i)/\R (Z1 X.K a b) H1):=by
 intro pins s σ H R I h;refine Call_ (d_ I J E boot_zip (aar (dH (L pos pins s σ H _ I h) λU c M=>?_) (hs _) (by rw[O];rfl)));obtain⟨vs,H1,d,y,g⟩:=M;obtain⟨a,b,e,⟨xs,g⟩,⟨i,B⟩,q⟩:=g;subst e;obtain⟨u,v,rfl,x,r⟩:=vals2 y;cases x;cases r;obtain⟨aR,_,p1,_⟩:=d.list g;obtain⟨j,_,p2,_⟩:=d.list B;refine call_zip_2 p1.isList p2.isList λh' z t o l1 l2 sz k=>wpAny_pyIter_zip z ?_;refine⟨c.heap.objs.size+4,[c.heap.objs.size+4,c.heap.objs.size+2,c.heap.objs.size+3,c.heap.objs.size,c.heap.objs.size+1],_,_,H1,rfl,d.kept (t':=c.toks) k,CP (aan (abm _)) (aan (abm _)),⟨z,t,⟨_,_,o⟩,l1,l2⟩,λb l=>?_,q⟩;have m:c.heap.objs.size<=b:=by
  simp only[ft,eg,or_false]at l;rcases l with rfl|rfl|rfl|rfl|rfl<;>first|exact acE .. |exact aaj _
 exact d.yD m (d.cD.fresh m)
def p8(sc:Scope)(bl:aq)(e:Expr):Option (ao):=(fV e).bind λz=>(two z.2).bind λ_=>if z.1=("zip" : Str)/\iD sc z.1=true/\z.1∈bl then some z.2 else none
def r_{sc:Scope}{bl:aq}{e:Expr}(h:p8 sc bl e=some args):∃p pos a b,e=.Call (.Name ("zip" : Str) p) [a,b] [] pos/\args=[a,b]/\iD sc ("zip" : Str)=true/\("zip" : Str)∈bl:=by
 obtain⟨⟨x,as⟩,c,h⟩:=bT h;obtain⟨⟨a,b⟩,hw,h⟩:=bT h;obtain⟨d,h⟩:=gT h;cases h;obtain⟨rfl,i,g⟩:=d;obtain⟨p,pos,rfl⟩:=cw c;obtain rfl:=jl hw;exact⟨p,pos,a,b,rfl,rfl,i,g⟩
def o5{a b:Expr}(h:qT X F Φ cs [a,b]):(∃c d,cs=[c,d]/\PE X a (tD X F Φ c)/\PE X b (tD X F Φ d))/\PA X [a,b] (sH X F Φ cs)/\(∀es,starEach (a::es) X.env=(false,eval a X.env)::starEach es X.env)/\(∀es,starEach (b::es) X.env=(false,eval b X.env)::starEach es X.env):=by
 match cs,h with
 |[c,d],h =>
  obtain⟨j,i,_,g,e,_,_⟩:=h;exact⟨⟨c,d,rfl,j,g⟩,PA.imp (cy j (PA.imp (cy g (PA.imp d7 λ_ _ _ h=>iH h) (e _)) λ_ _ _ h=>fH h) (i _)) λ_ _ _ h=>fH h,i,e⟩
 |[],h=>exact h.elim
 |[_],h=>exact h.2.2.2.elim
 |_::_::_::_,h=>exact h.2.2.2.2.2.2.elim
def Rep.Vd{k:bu}{v:V}{d:D}(e:aM H H')(h:Rep (bc K H) (nd K R (λ_=>False) (λ_=>none) H) k v d):Rep (bc K H') (nd K R (λ_=>False) (λ_=>none) H') k' v d :=
 (Rep.mw h (k':=k')).imp (λ_ _ h=>bc.same e h) λ_ _ _ _ h=>nd.same e h
def G_{p q:Addr}{g:Fl}{a b:aa}:J7 K (Z1 K p q) H2 [.ref p,.ref q] [.lst f a,.lst g b] (aw aI (List.zipWith (λx y=>.tup [x,y]) a b)):=by
 have len:(aw aI (List.zipWith (λx y=>D.tup [x,y]) a b)).length=min a.length b.length:=by rw[aG];simp
 have two:∀{H':Hp} {R':aj},aF (bc K H') (nd K R' (λ_=>False) (λ_=>none) H') [] 0 [.ref p,.ref q] (aw aI [.lst f a,.lst g b]) ->
   ∃xs c,dq K H' p xs/\dq K H' q c/\aF (bc K H') (nd K R' (λ_=>False) (λ_=>none) H') [0] 0 xs (aw aI a)/\aF (bc K H') (nd K R' (λ_=>False) (λ_=>none) H') [1] 0 c (aw aI b):=by
  intro H' R' h;rw[aw,aE,aw,aE,aw]at h;cases h with
  |cons h t=>cases t with
   |cons h' t=>cases h with
    |lst h r=>cases h' with
     |lst h' m=>exact⟨_,_,h.sq,h'.sq,r,m⟩
 refine⟨λi H' R' _ h l=>?_,λi H' R' x L _ h l z=>?_,λi H' R' _ h l=>?_⟩
 ·obtain⟨xs,c,k,j,e,d⟩:=two h;rw[len]at l;have l1:=e.length;have l2:=d.length;rw[aG,b4]at l1 l2;exact⟨xs,c,xs[i]'(by left),c[i]'(by left),k,j,aap _,aap _⟩
 ·obtain⟨xs,c,k,j,e,d⟩:=two h;obtain⟨T,u,v,I,E,B,rfl,rfl⟩:=z;obtain⟨d1,e1,p1⟩:=e.qN (I xs k);obtain⟨J,e2,p2⟩:=d.qN (E c j);have es:aM H' (upd H' T (.tup [u,v])):=aM.upd B;refine⟨es,.tup [d1,J],?_,.tup (bc.of aZ) (.cons (p1.Vd es) (.cons (p2.Vd es) .nil))⟩;rw[aG,List.getElem?_map]at e1 e2 ⊢;obtain⟨c1,s,rfl⟩:=Option.map_eq_some_iff.mp e1;obtain⟨M,n,rfl⟩:=Option.map_eq_some_iff.mp e2;rw[List.getElem?_zipWith,s,n];simp[aE,aw]
 ·obtain⟨xs,c,k,j,e,d⟩:=two h;rw[len]at l;have l1:=e.length;have l2:=d.length;rw[aG,b4]at l1 l2;exact⟨xs,c,k,j,by left⟩
def Ly{n:Nat}(i:Φ n=CA){sc:Scope}{bl:aq}{k:Nat}(L:PX X sc bl k){e:Expr}(he:p8 sc bl e=some args)(z:gu tg=true)(hs:qT X F Φ cs args)
  {pins:av} {s:Shared} {xs:aa} {d:D} (I:Inv X pins σ H s) (U:SI X F R τ ρ σ H) (O:bJ Φ cs ρ=ok xs) (c:Φ n xs=ok d) (M:mf d=ok items) (j:It->Hp->Prop)
  (hR:∀J H2 vs,aM H H2->cI X.K (gP X F) R τ (dN cs) H H2 vs xs->J7 X.K J H2 vs xs items->j J H2) :
  wpAny (model X.prog X.w) X.A (eval e X.env) (λv g=>wpAny (model X.prog X.w) X.A (pyIter v) (Cv X pins σ tg j) X.xe g) X.xe s:=by
 obtain⟨p,pos,a,b,rfl,rfl,E,B⟩:=r_ he;cases tg<;>try (cases z;done)
 obtain⟨_,u,g,m⟩:=o5 hs;refine MA (L.gl E) (L.bl _ B) u g m pins s σ H j I ⟨R,τ,ρ,xs,U,O,λvs H1 e1 l=>?_⟩;have W:=l;obtain⟨τt,Y,t⟩:=l;rw[i]at c;unfold CA at c;split at c
 ·cases c;cases M;obtain⟨v,w,rfl,r,q⟩:=t.two;cases r with
  |lst y _=>cases q with
   |lst x _=>exact⟨_,_,rfl,⟨_,y.sq⟩,⟨_,x.sq⟩,hR _ H1 _ e1 W G_⟩
 ·cases c
abbrev uK(h:Heap)(z TI TO a:Addr)(f:Bool):Prop :=
 h.get? z=some { cls:=.type "zip",dict:=none,data:=.fields #[rawInt a,.bool f,.bool false,.ref TI,.ref TO],slots:=#[] }
variable {oa:Obj}{ys:aW}
section
variable {prog:aK}{w:World}{A:aN}{E:aD}{s:Shared}
def Cz{a:Addr}{o:Obj}{Q:Option Obj->Shared->Prop}(b:s.heap.get? a=some o)(h:Q (some o) s):wpAny (model prog w) A (loadIfAlive a) Q E s:=by
 have h':Q (s.heap.get? a) s:=by rw[b];exact h
 exact λ_ _ _=>h'
def za{z TI TO a:Addr}{f:Bool}{Q:Bool->Shared->Prop}(hz:uK s.heap z TI TO a f)(e:s.heap.get? a=some oa)(c:∀h',uK h' z TI TO a true->Heap.SameBut z s.heap h'->Q false { s with heap:=h' }):
  wpAny (model prog w) A (Builtin.SmallTypes.ownedTupleIsFree (.ref z)) Q E s:=by
 unfold Builtin.SmallTypes.ownedTupleIsFree;refine aaa (aa1 hz rfl (x:=rawInt a) rfl ?_);show wpAny _ _ (loadIfAlive ((a:Int).toNat) >>= _) _ _ _;rw[dV];refine aaa (Cz e ?_);simp only[Option.isNone_some,fy,if_false];refine aaa (aa1 hz rfl (x:=.bool f) rfl ?_);cases f with
 |true =>
  rw[cb (show ¬ ((Value.bool true != Value.bool true)=true) from dX)];exact aaf (c s.heap hz (Heap.SameBut.refl _ _))
 |false =>
  rw[cc (show(Value.bool false != Value.bool true)=true from rfl)];exact aaa (wpAny_setField_rec hz (by simp) λb g d=>aaf (c b g d))
def uV{z TI TO a:Addr}{f:Bool}{xs:aW}{x y:Value}{Q:aD}(D:ZipApart z TI TO i1 i2 l1 l2)
  (hz:uK s.heap z TI TO a f) (q:s.heap.get? a=some oa) (M:IsPair s.heap TI (.ref i1) (.ref i2))
  (u:s.heap.IsListIter i1 l1 k1) (t:s.heap.IsListIter i2 l2 k2) (O:s.heap.IsList l1 xs) (U:s.heap.IsList l2 ys) (n:xs[k1]?=some x) (m:ys[k2]?=some y)
  (r:∀h',uK h' z TI TO a true->h'.IsListIter i1 l1 (k1+1)->h'.IsListIter i2 l2 (k2+1)->IsPair h' s.heap.objs.size x y->h'.objs.size=s.heap.objs.size+1 ->
   (∀c o,c≠z->c≠i1->c≠i2->s.heap.get? c=some o->h'.get? c=some o)->Q (.ref s.heap.objs.size) { s with heap:=h' }) :
  wpAny (model prog w) A (Builtin.«zip.__next__» ⟨[.ref z],[]⟩) (λfin l=>∃v,fin=.done (.ret v)/\Q v l) E s:=by
 show wpAny _ _ (field (.ref z) 2 >>= _) _ _ _;refine aaa (aa1 hz rfl (x:=.bool false) rfl ?_);show wpAny _ _ (field (.ref z) 3 >>= _) _ _ _;refine aaa (aa1 hz rfl (x:=.ref TI) rfl ?_);refine aaa (ab1 M rfl ?_);show wpAny _ _ (Builtin.SmallTypes.ownedTupleIsFree (.ref z) >>= _) _ _ _;refine aaa (za hz q λh₁ J g=>?_);simp only[fy,if_false];refine aaa ?_;rw[<- p5];simp only[lb,List.forIn_nil];refine aaa (aaa (aaF ?_));show wpAny _ _ (Builtin.SmallTypes.nextOf (.ref i1) >>= _) _ _ _;refine aaa (ab9 (u.extBut g.extBut D.i1z) (O.extBut g.extBut D.l1z) n λk L i=>aaf ?_);refine aaf ?_;refine aaa (aaa (aaF ?_));show wpAny _ _ (Builtin.SmallTypes.nextOf (.ref i2) >>= _) _ _ _;refine aaa (ab9 ((t.extBut g.extBut D.i2z).extBut i.extBut D.i12.symm) ((U.extBut g.extBut D.l2z).extBut i.extBut D.l2i1) m λb I j=>aaf ?_);refine aaf ?_;refine aaf ?_;have d:b.objs.size=s.heap.objs.size:=by rw[j.1,i.1,g.1]
 refine aaa (wpAny_newTuple ?_ (by show 2<=_;rw[sizeLine_eq];decide));refine aaf ⟨_,rfl,?_⟩;show Q (.ref b.objs.size) _;have W:∀{c o},b.get? c=some o->c≠b.objs.size:=λe=>aan (aah e);have p:∀c o,c≠z->c≠i1->c≠i2->s.heap.get? c=some o->(b.push { cls:=.type "tuple",data:=.seq #[x,y] }).get? c=some o:=λc o c1 B c3 e=>aag _ (j.extBut _ _ c3 (i.extBut _ _ B (g.extBut _ _ c1 e)));rw[d];refine r _ (aag _ (j.extBut _ _ D.i2z.symm (i.extBut _ _ D.i1z.symm J))) ((L.extBut j.extBut D.i12).at λo e=>aag _ e) (I.at λo e=>aag _ e) ?_ (by rw[Heap.size_push,d]) p;rw[<- d];exact aao _ rfl
def xF{z TI TO a:Addr}{f:Bool}{xs:aW}{Q:Fin->Shared->Prop}(m:A.handled=none)(D:ZipApart z TI TO i1 i2 l1 l2)
  (hz:uK s.heap z TI TO a f) (v:s.heap.get? a=some oa) (B:IsPair s.heap TI (.ref i1) (.ref i2))
  (p:s.heap.IsListIter i1 l1 k1) (y:s.heap.IsListIter i2 l2 k2) (q:s.heap.IsList l1 xs) (I:s.heap.IsList l2 ys) (r:xs[k1]?=none\/ys[k2]?=none)
  (n:∀h' e,(∀c o,c≠z->c≠i1->c≠i2->s.heap.get? c=some o->h'.get? c=some o)->(∃o,h'.get? e=some o/\o.cls=.type "StopIteration")->E (.ref e) { s with heap:=h' }) :
  wpAny (model prog w) A (Builtin.«zip.__next__» ⟨[.ref z],[]⟩) Q E s:=by
 show wpAny _ _ (field (.ref z) 2 >>= _) _ _ _;refine aaa (aa1 hz rfl (x:=.bool false) rfl ?_);show wpAny _ _ (field (.ref z) 3 >>= _) _ _ _;refine aaa (aa1 hz rfl (x:=.ref TI) rfl ?_);refine aaa (ab1 B rfl ?_);show wpAny _ _ (Builtin.SmallTypes.ownedTupleIsFree (.ref z) >>= _) _ _ _;refine aaa (za hz v λh₁ J d=>?_);simp only[fy,if_false];refine aaa ?_;rw[<- p5];simp only[lb,List.forIn_nil];refine aaa (aaa (aaF ?_));show wpAny _ _ (Builtin.SmallTypes.nextOf (.ref i1) >>= _) _ _ _;cases j:xs[k1]? with
 |none =>
  refine aaa (wpAny_nextOf_list_end m (p.extBut d.extBut D.i1z) (q.extBut d.extBut D.l1z) j λb e g k=>?_);exact n b e (λc o c1 l c3 x=>g _ _ l (d.extBut _ _ c1 x)) k
 |some x =>
  have u:ys[k2]?=none:=by rcases r with h|h;rw[j]at h;cases h;exact h
  refine aaa (ab9 (p.extBut d.extBut D.i1z) (q.extBut d.extBut D.l1z) j λb L g=>aaf ?_);refine aaf ?_;refine aaa (aaa (aaF ?_));show wpAny _ _ (Builtin.SmallTypes.nextOf (.ref i2) >>= _) _ _ _;refine aaa (wpAny_nextOf_list_end m ((y.extBut d.extBut D.i2z).extBut g.extBut D.i12.symm) ((I.extBut d.extBut D.l2z).extBut g.extBut D.l2i1) u λi e t k=>?_);exact n i e (λc o c1 l c3 x=>t _ _ c3 (g.extBut _ _ l (d.extBut _ _ c1 x))) k
def oF{z TI TO a:Addr}{f:Bool}{xs:aW}{x y:Value}{Q:Option Value->Shared->Prop}(D:ZipApart z TI TO i1 i2 l1 l2)
  (hz:uK s.heap z TI TO a f) (g:s.heap.get? a=some oa) (t:IsPair s.heap TI (.ref i1) (.ref i2))
  (k:s.heap.IsListIter i1 l1 k1) (j:s.heap.IsListIter i2 l2 k2) (u:s.heap.IsList l1 xs) (v:s.heap.IsList l2 ys) (e:xs[k1]?=some x) (d:ys[k2]?=some y)
  (i:∀h',uK h' z TI TO a true->h'.IsListIter i1 l1 (k1+1)->h'.IsListIter i2 l2 (k2+1)->IsPair h' s.heap.objs.size x y->h'.objs.size=s.heap.objs.size+1 ->
   (∀c o,c≠z->c≠i1->c≠i2->s.heap.get? c=some o->h'.get? c=some o)->Q (some (.ref s.heap.objs.size)) { s with heap:=h' }) :
  wpAny (model prog w) A (pyNext (.ref z)) Q E s:=by
 have b:s.TypeIs (.ref z) "zip":=⟨_,hz,rfl⟩
 unfold pyNext;exact aaa (aca (aaL (name:=Str.ofString "__next__") b abA
  (aaM abA b PySem.F.entry_zip_next
   (uV D hz g t k j u v e d λh' r q p n m l=>aaf (i h' r q p n m l)) (PySem.F.args_zip_next_1 _))))
def qz{z TI TO a:Addr}{f:Bool}{xs:aW}{Q:Option Value->Shared->Prop}(k:A.handled=none)(D:ZipApart z TI TO i1 i2 l1 l2)
  (hz:uK s.heap z TI TO a f) (n:s.heap.get? a=some oa) (t:IsPair s.heap TI (.ref i1) (.ref i2))
  (r:s.heap.IsListIter i1 l1 k1) (q:s.heap.IsListIter i2 l2 k2) (u:s.heap.IsList l1 xs) (v:s.heap.IsList l2 ys) (g:xs[k1]?=none\/ys[k2]?=none)
  (p:∀h',(∀c o,c≠z->c≠i1->c≠i2->s.heap.get? c=some o->h'.get? c=some o)->Q none { s with heap:=h' }):wpAny (model prog w) A (pyNext (.ref z)) Q E s:=by
 have d:s.TypeIs (.ref z) "zip":=⟨_,hz,rfl⟩
 unfold pyNext;refine aaa (aca (aaL (name:=Str.ofString "__next__") d abA
  (aaM abA d PySem.F.entry_zip_next (xF k D hz n t r q u v g λh' e j l=>?_) (PySem.F.args_zip_next_1 _))))
 obtain⟨o,i,m⟩:=l;refine aaa (wpAny_isInstance (T:="StopIteration") (b:=true) ⟨o,i,m⟩ isSubtype_stop ?_);exact aaf (p _ j)
end
def Lw:typeLookup (.type "zip") "__len__" = pure none:=by rw[typeLookup_type,builtinLookup_eq_fast];kernel_rfl
def Qr:typeLookup (.type "zip") "__length_hint__" = pure none:=by rw[typeLookup_type,builtinLookup_eq_fast];kernel_rfl
section
variable {prog:aK}{w:World}{A:aN}{E:aD}{s:Shared}
def G7{z:Addr}(b:s.TypeIs (.ref z) "zip"){Q:Bool->Shared->Prop}(h:Q true s):wpAny (model prog w) A (Builtin.List.listLengthHint (.ref z)) Q E s:=by
 unfold Builtin.List.listLengthHint;refine aaa (wpAny_specialOf b Lw ?_);refine wpAny_ite_split (λa=>absurd a (by decide)) (λ_=>?_);refine wpAny_ite_split (λa=>absurd a (by decide)) (λ_=>?_);refine aaa (wpAny_specialOf b Qr ?_);exact aaf h
end
structure Zl(h:Heap)(z TI TO i1 i2 l1 l2 S:Addr)(xs ys:aW)(i:Nat):Prop where
 st:(IsZip h z TI TO .none/\∃a b,IsPair h TO a b)\/∃a f oa,uK h z TI TO a f/\h.get? a=some oa/\S<a
 ti:IsPair h TI (.ref i1) (.ref i2)
 w1:h.IsListIter i1 l1 i
 w2:h.IsListIter i2 l2 i
 q1:h.IsList l1 xs
 q2:h.IsList l2 ys
structure Below(z TI TO i1 i2 l1 l2 S:Addr):Prop where
 D:ZipApart z TI TO i1 i2 l1 l2
 z:z<S
 TI:TI<S
 TO:TO<S
 i1:i1<S
 i2:i2<S
 l1:l1<S
 l2:l2<S
section
variable {prog:aK}{w:World}{A:aN}{E:aD}{s:Shared}{z TI TO i1 i2 l1 l2 S:Addr}{xs ys:aW}{i:Nat}
def Zl.keep(B:Below z TI TO i1 i2 l1 l2 S)(Z:Zl h z TI TO i1 i2 l1 l2 S xs ys i)(c:∀b o,b≠S->h.get? b=some o->h'.get? b=some o):Zl h' z TI TO i1 i2 l1 l2 S xs ys i:=by
 have n:∀{b},b<S->b≠S:=λh=>aan h;refine⟨?_,c _ _ (n B.TI) Z.ti,Z.w1.at λo e=>c _ o (n B.i1) e,Z.w2.at λo e=>c _ o (n B.i2) e,Z.q1.at λo e=>c _ o (n B.l1) e,Z.q2.at λo e=>c _ o (n B.l2) e⟩;rcases Z.st with ⟨g,a,b,d⟩|⟨a,f,oa,g,d,j⟩
 ·exact .inl ⟨c _ _ (n B.z) g,a,b,c _ _ (n B.TO) d⟩
 ·exact .inr ⟨a,f,oa,c _ _ (n B.z) g,c _ _ (aat j) d,j⟩
def G5{x y:Value}{Q:Option Value->Shared->Prop}(B:Below z TI TO i1 i2 l1 l2 S)(Z:Zl s.heap z TI TO i1 i2 l1 l2 S xs ys i)(t:S<s.heap.objs.size)(p:xs[i]?=some x)(m:ys[i]?=some y)
  (r:∀h',Zl h' z TI TO i1 i2 l1 l2 S xs ys (i+1)->IsPair h' s.heap.objs.size x y->h'.objs.size=s.heap.objs.size+1->(∀c o,c≠z->c≠TO->c≠i1->c≠i2->s.heap.get? c=some o->h'.get? c=some o)->Q (some (.ref s.heap.objs.size)) { s with heap:=h' }) :
  wpAny (model prog w) A (pyNext (.ref z)) Q E s:=by
 have D:=B.D;rcases Z.st with ⟨j,a,b,u⟩|⟨a,f,oa,j,q,d⟩
 ·refine wpAny_pyNext_zip_item D j Z.ti u Z.w1 Z.w2 Z.q1 Z.q2 p m λh' g v k b1 t1 l k1=>r h' ?_ t1 l k1;exact⟨.inr ⟨s.heap.objs.size,false,_,g,t1,t⟩,k1 _ _ D.TIz D.TITO D.TIi1 D.TIi2 Z.ti,k,b1,Z.q1.at λo e=>k1 _ o D.l1z D.l1TO D.l1i1 D.l1i2 e,Z.q2.at λo e=>k1 _ o D.l2z D.l2TO D.l2i1 D.l2i2 e⟩
 ·refine oF D j q Z.ti Z.w1 Z.w2 Z.q1 Z.q2 p m λh' g k b1 t1 l k1=>r h' ?_ t1 l λc o c1 _ c3 c4 e=>k1 c o c1 c3 c4 e;have n:∀{b},b<S->a≠b:=λh=>aat (abZ h d);exact⟨.inr ⟨a,true,oa,g,k1 _ _ (n B.z) (n B.i1) (n B.i2) q,d⟩,k1 _ _ D.TIz D.TIi1 D.TIi2 Z.ti,k,b1,Z.q1.at λo e=>k1 _ o D.l1z D.l1i1 D.l1i2 e,Z.q2.at λo e=>k1 _ o D.l2z D.l2i1 D.l2i2 e⟩
def G8{Q:Option Value->Shared->Prop}(j:A.handled=none)(B:Below z TI TO i1 i2 l1 l2 S)(Z:Zl s.heap z TI TO i1 i2 l1 l2 S xs ys i)(g:xs[i]?=none\/ys[i]?=none)
  (l:∀h',(∀c o,c≠z->c≠TO->c≠i1->c≠i2->s.heap.get? c=some o->h'.get? c=some o)->Q none { s with heap:=h' }):wpAny (model prog w) A (pyNext (.ref z)) Q E s:=by
 have D:=B.D;rcases Z.st with ⟨d,a,b,p⟩|⟨a,f,oa,d,m,n⟩
 ·exact wpAny_pyNext_zip_end j D d Z.ti p Z.w1 Z.w2 Z.q1 Z.q2 g l
 ·exact qz j D d m Z.ti Z.w1 Z.w2 Z.q1 Z.q2 g λh' k=>l h' λc o c1 _ c3 c4 e=>k c o c1 c3 c4 e
end
structure UQ(xs ys:aW)(lo:Addr)(h:Heap)(as:bj):Prop where
 above:∀a∈as,lo<a
 nd:as.Nodup
 pairs:∀(j:Nat) (a:Addr),as[j]?=some a->∃x y,xs[j]?=some x/\ys[j]?=some y/\IsPair h a x y
section
variable {prog:aK}{w:World}{A:aN}{s:Shared}{R:Result->Shared->Prop}{z TI TO i1 i2 l1 l2 S:Addr}{xs ys:aW}
def G4(hh:A.handled=none)(B:Below z TI TO i1 i2 l1 l2 S)(hn:min xs.size ys.size<=sizeLine)(res:Value) 
  (hR:∀h' tk d c as,(∀b o,b≠S->b≠z->b≠TO->b≠i1->b≠i2->h₁.get? b=some o->h'.get? b=some o)->h'.get? S=some { cls:=.type "list",dict:=none,data:=.seq d c,slots:=#[] }->as.length=min xs.size ys.size->UQ xs ys S h' as ->
   d.toList=as.map Value.ref->R (.ok (.ret res)) { s with heap:=h',toks:=tk }) :
  ∀(k i:Nat) (h:Heap) (tk c:Nat) (d:aW) (as:bj),min xs.size ys.size - i=k->i<=min xs.size ys.size->Zl h z TI TO i1 i2 l1 l2 S xs ys i->(∀b o,b≠S->b≠z->b≠TO->b≠i1->b≠i2->h₁.get? b=some o->h.get? b=some o) ->
   h.get? S=some { cls:=.type "list",dict:=none,data:=.seq d c,slots:=#[] }->d.toList=as.map Value.ref->as.length=i->UQ xs ys S h as ->
   codeAny (model prog w) A (.builtin "list.extend.loop" ⟨[.ref S,.ref z,res],[]⟩) R { s with heap:=h,toks:=tk }:=by
 have nz:S≠z:=aat B.z;have nO:S≠TO:=aat B.TO;have n1:S≠i1:=aat B.i1;have n2:S≠i2:=aat B.i2;have p:∀{a:Addr},S<a->a≠z/\a≠TO/\a≠i1/\a≠i2:=λh=>⟨aat (abZ B.z h),aat (abZ B.TO h),aat (abZ B.i1 h),aat (abZ B.i2 h)⟩
 intro k;induction k with
 |zero =>
  intro i h tk c d as hk hi Z EW J M I l;refine abx PySem.F.entry_extend_loop ?_;rw[Around.under_plainId PySem.F.plain_extend_loop _];show wpAny _ A.in1 (pyNext (.ref z) >>= _) _ _ _;have vZ:xs[i]?=none\/ys[i]?=none:=by
   rcases Nat.le_total xs.size ys.size with q|q
   ·exact .inl (Array.getElem?_eq_none (by left))
   ·exact .inr (Array.getElem?_eq_none (by left))
  refine aaa (G8 (s:={ s with heap:=h,toks:=tk }) (A:=A.in1) hh B Z vZ λh' U=>?_);refine aaf (hR h' tk d c as (λb o L E v u t e=>U b o E v u t (EW b o L E v u t e)) (U S _ nz nO n1 n2 J) (by left) ⟨l.above,l.nd,λj a g=>?_⟩ M);obtain⟨x,y,e1,e2,W⟩:=l.pairs j a g;obtain⟨a1,a2,a3,Y⟩:=p (l.above a (aas g));exact⟨x,y,e1,e2,U a _ a1 a2 a3 Y W⟩
 |succ k ih =>
  intro i h tk c d as hk hi Z EW J M I l;have gH:i<min xs.size ys.size:=by left
  have hx:xs[i]?=some (xs[i]'(by left)):=abk _;have hy:ys[i]?=some (ys[i]'(by left)):=abk _;have r:d.size=i:=by rw[<- gA,M,b4,I]
  have YU:S<h.objs.size:=aah J;refine abx PySem.F.entry_extend_loop ?_;rw[Around.under_plainId PySem.F.plain_extend_loop _];show wpAny _ A.in1 (pyNext (.ref z) >>= _) _ _ _;refine aaa (G5 (s:={ s with heap:=h,toks:=tk }) B Z YU hx hy λh' Z' ht hz O=>?_);dsimp only at ht hz O ⊢;have BP:=O S _ nz nO n1 n2 J;have up:∀b o,b≠S->h'.get? b=some o->(h'.update S (Obj.mapSeq (·.push (Value.ref h.objs.size)))).get? b=some o:=λb o m e=>(aa2 _ _ (ab0 m)).trans e;show wpAny _ A.in1 (updateSeq S (·.push (Value.ref h.objs.size)) >>= _) _ _ _;refine aaa ?_;refine acm BP rfl (aaf ⟨plainId_quiet PySem.F.plain_extend_loop _,ih (i+1) _ tk _ (d.push (Value.ref h.objs.size)) (as++[h.objs.size]) (by left) gH (Z'.keep B up)
   (λb o L E v u t e=>up b o L (O b o E v u t (EW b o L E v u t e))) (abb _ BP rfl) (by rw[Array.toList_push,M,f6];rfl) (by rw[c8,I];rfl) ⟨?_,?_,?_⟩⟩) (by rw[r];left) (by show(d.push (Value.ref h.objs.size)).size<=sizeLine+1;rw[Array.size_push,r];left)
  ·intro a n;rcases List.mem_append.mp n with n|n
   ·exact l.above a n
   ·rw[List.mem_singleton.mp n];exact YU
  ·refine List.nodup_append.mpr ⟨l.nd,List.nodup_cons.mpr ⟨List.not_mem_nil,ab3⟩,λa n b m e=>?_⟩;rw[List.mem_singleton.mp m]at e;subst e;obtain⟨j,g⟩:=List.mem_iff_getElem?.mp n;obtain⟨_,_,_,_,e⟩:=l.pairs j _ g;exact absurd (aah e) (aau _)
  ·intro j b g;rcases Nat.lt_trichotomy j as.length with q|q|q
   ·rw[List.getElem?_append_left q]at g;obtain⟨x',y',e1,e2,W⟩:=l.pairs j b g;have m:=l.above b (aas g);obtain⟨a1,a2,a3,Y⟩:=p m;exact⟨x',y',e1,e2,up b _ (aat m) (O b _ a1 a2 a3 Y W)⟩
   ·subst q;have m:h.objs.size=b:=by simpa using g
    subst m;exact⟨_,_,by rw[I];exact hx,by rw[I];exact hy,up _ _ (aat YU) ht⟩
   ·have SN:(as++[h.objs.size])[j]?=none:=List.getElem?_eq_none (by rw[c8,hL];left);rw[SN]at g;exact nk g
def AW(y:A.handled=none)(B:Below z TI TO i1 i2 l1 l2 S)(hn:min xs.size ys.size<=sizeLine)(Z:Zl s.heap z TI TO i1 i2 l1 l2 S xs ys 0)(t:IsZip s.heap z TI TO .none)(res:Value)(d:Nat)(q:s.heap.get? S=some { cls:=.type "list",data:=.seq #[] d })
  (hR:∀h' v g c as,(∀b o,b≠S->b≠z->b≠TO->b≠i1->b≠i2->s.heap.get? b=some o->h'.get? b=some o)->h'.get? S=some { cls:=.type "list",dict:=none,data:=.seq g c,slots:=#[] }->as.length=min xs.size ys.size->UQ xs ys S h' as ->
   g.toList=as.map Value.ref->R (.ok (.ret res)) { s with heap:=h',toks:=v }) :
  wpAny (model prog w) A.in1 (Builtin.List.listExtendWith (.ref S) (.ref z) res)
   (λfin i=>match fin with|.done f=>R (.ok f) i|.again c'=>c'.quiet=true/\codeAny (model prog w) A c' R i) (λe i=>R (.error e) i) s:=by
 have k:S≠z:=aat B.z;have p:s.TypeIs (.ref z) "zip":=⟨_,t,rfl⟩
 unfold Builtin.List.listExtendWith;refine aaa (wpAny_typeOf (T:="zip") p ?_);have l:Builtin.List.listSameRef (.ref S) (.ref z)=false:=by simp[Builtin.List.listSameRef,k]
 have J:(Value.type "zip" == Value.type "list")=false:=by decide
 have I:(Value.type "zip" == Value.type "tuple")=false:=by decide
 simp only[l,J,I,Bool.or_false,fy,if_false];refine aaa (wpAny_pyIter_zip t ?_);refine aaa (aaF (G7 p ?_));refine wpAny_ite_split (λ_=>?_) (λu=>absurd rfl u);refine aaa (wpAny_rule ?_);refine aaa ?_;show wpAny _ _ (updateSeq S (·.push .none) >>= λ_=>updateSeq S (·.pop)) _ _ _;refine aaa (acm q rfl ?_);have m:=abb (Obj.mapSeq (·.push Value.none)) q rfl;refine acm (hz:=by seq_fits) m rfl ?_;have L:=abb (Obj.mapSeq (·.pop)) m rfl;have r:∀b o,b≠S->s.heap.get? b=some o->((s.heap.update S (Obj.mapSeq (·.push Value.none))).update S (Obj.mapSeq (·.pop))).get? b=some o:=λb o n e=>(aa2 _ _ (ab0 n)).trans ((aa2 _ _ (ab0 n)).trans e);refine aaf ⟨plainId_quiet PySem.F.plain_extend_loop _,?_⟩;exact G4 y B hn res (s:=s) (h₁:=s.heap) hR (min xs.size ys.size) 0 _ s.toks _ #[] [] (Nat.sub_zero _) (aa3 _) (Z.keep B r) (λb o l _ _ _ _ e=>r b o l e) L rfl rfl ⟨(λ_ E=>nomatch E),ab3,λj a x=>by simp at x⟩
def G6(n:A.handled=none)(B:Below z TI TO i1 i2 l1 l2 S)(hn:min xs.size ys.size<=sizeLine)(Z:Zl s.heap z TI TO i1 i2 l1 l2 S xs ys 0)(y:IsZip s.heap z TI TO .none)(i:s.heap.get? S=some { cls:=.type "list",data:=.seq #[] })
  (hR:∀h' g a c as,(∀b o,b≠S->b≠z->b≠TO->b≠i1->b≠i2->s.heap.get? b=some o->h'.get? b=some o)->h'.get? S=some { cls:=.type "list",dict:=none,data:=.seq a c,slots:=#[] }->as.length=min xs.size ys.size->UQ xs ys S h' as ->
   a.toList=as.map Value.ref->R (.ok (.ret .none)) { s with heap:=h',toks:=g }) :
  wpAny (model prog w) A.in1 (Builtin.«list.__init__» ⟨[.ref S,.ref z],[]⟩)
   (λfin d=>match fin with|.done f=>R (.ok f) d|.again c'=>c'.quiet=true/\codeAny (model prog w) A c' R d) (λe d=>R (.error e) d) s:=by
 show wpAny _ _ (do let old <- Builtin.List.listItems (.ref S);Builtin.List.listUpdate (.ref S) (λ_=>#[]);letGo old.toList.reverse;Builtin.List.listExtendWith (.ref S) (.ref z) .none) _ _ s;refine aaa ?_;unfold Builtin.List.listItems;refine aaa (ab1 i rfl (aaf ?_));show wpAny _ _ (updateSeq S (λ_=>#[]) >>= λ_=>letGo (#[]:aW).toList.reverse >>= λ_=>Builtin.List.listExtendWith (.ref S) (.ref z) .none) _ _ s;refine aaa (acm i rfl ?_);have l:=abb (Obj.mapSeq (λ_=>(#[]:aW))) i rfl;have j:∀b o,b≠S->s.heap.get? b=some o->(s.heap.update S (Obj.mapSeq (λ_=>(#[]:aW)))).get? b=some o :=
  λb o p e=>(aa2 _ _ (ab0 p)).trans e
 refine aaa (wpAny_letGo ?_);refine AW n B hn (Z.keep B j) (j _ _ (aan B.z) y) .none _ l λh' g a c as m E hl q x=>?_;exact hR h' g a c as (λb o k v u t r e=>m b o k v u t r (j b o k e)) E hl q x
end
section
variable {prog:aK}{w:World}{A:aN}{E:aD}{s:Shared}{z TI TO i1 i2 l1 l2:Addr}{xs ys:aW}
def G9{Q:aD}(u:A.handled=none)(D:ZipApart z TI TO i1 i2 l1 l2)(hn:min xs.size ys.size<=sizeLine)(hz:IsZip s.heap z TI TO .none)(r:IsPair s.heap TI (.ref i1) (.ref i2)){a b:Value}(q:IsPair s.heap TO a b)(p:s.heap.IsListIter i1 l1 0)(j:s.heap.IsListIter i2 l2 0)(m:s.heap.IsList l1 xs)(l:s.heap.IsList l2 ys)
  (v:∀h' k d c as,(∀b o,b≠z->b≠TO->b≠i1->b≠i2->s.heap.get? b=some o->h'.get? b=some o)->h'.get? s.heap.objs.size=some { cls:=.type "list",dict:=none,data:=.seq d c,slots:=#[] }->as.length=min xs.size ys.size->UQ xs ys s.heap.objs.size h' as ->
   d.toList=as.map Value.ref->Q (.ref s.heap.objs.size) { s with heap:=h',toks:=k }) :
  wpAny (model prog w) A (call (.type "list") [.ref z]) Q E s:=by
 refine callType_codes (Q₁:=λi g=>i=.ref s.heap.objs.size/\g={ s with heap:=s.heap.push { cls:=.type "list",data:=.seq #[] } }) PySem.F.called_list (PySem.F.typeCall_list_1 _) PySem.F.entry_list_init
  (code_list_new _ ⟨rfl,rfl⟩) λi g h₁=>?_
 obtain⟨rfl,rfl⟩:=h₁;have n:(s.heap.push { cls:=.type "list",data:=.seq #[] }).get? s.heap.objs.size=some { cls:=.type "list",data:=.seq #[] }:=aao _ rfl;have up:∀b o,s.heap.get? b=some o->(s.heap.push { cls:=.type "list",data:=.seq #[] }).get? b=some o:=λb o e=>aag _ e;have B:Below z TI TO i1 i2 l1 l2 s.heap.objs.size:=⟨D,aah hz,aah r,aah q,(by obtain⟨_,e,_⟩:=p;exact aah e),(by obtain⟨_,e,_⟩:=j;exact aah e),(by obtain⟨_,e,_⟩:=m;exact aah e),(by obtain⟨_,e,_⟩:=l;exact aah e)⟩
 refine⟨⟨_,n,rfl⟩,PySem.F.args_list_init_2 _ _,G6 (A:=A.in1) u B hn ⟨.inl ⟨up _ _ hz,a,b,up _ _ q⟩,up _ _ r,p.at λo e=>up _ o e,j.at λo e=>up _ o e,m.at λo e=>up _ o e,l.at λo e=>up _ o e⟩ (up _ _ hz) n λh' k d c as t M hl x L=>?_⟩;exact⟨rfl,v h' k d c as (λb o j J I y e=>t b o (aan (aah e)) j J I y (up b o e)) M hl x L⟩
end
noncomputable def ka(ns:ae):Int:=ns.getD (argBest (λi j=>decide (ns.getD i 0<ns.getD j 0)) (ns.length - 1)) 0
noncomputable abbrev Xc(f:ae->Int)(K:ak)(xs:ah)(H:Hp)(Q:VK):Prop:=∃(p:Addr) (ns:ae),xs=[.ref p]/\dq K H p (ns.map V.int)/\0<ns.length/\Q (.int (f ns)) H
def zL(a:Vals (ns.map V.int) aR)(i:Nat)(v:Value)(b:aR[i]?=some v):∃t,v=.int (ns.getD i 0) t:=by
 have hlen:aR.length=ns.length:=by have:=a.length;simpa using this.symm
 have e:i<aR.length:=(List.getElem?_eq_some_iff.mp b).1;obtain⟨u,c,d⟩:=a.get (i:=i) (x:=.int (ns.getD i 0)) (by rw[List.getElem?_map,List.getElem?_eq_getElem (by left)];simp[List.getD,show i<ns.length by left]);rw[b]at c;cases c;exact d
def B6(l:X.calm=true):fY X (.builtin "min") (Xc ka X.K):=by
 intro pins s σ H xs x Q I r h;obtain⟨p,ns,rfl,j,y,q⟩:=h;obtain⟨u,rfl,d⟩:=r.one;cases d;obtain⟨aR,a,g,z⟩:=I.list j;have hlen:aR.length=ns.length:=by have:=a.length;simpa using this.symm
 refine call_min_walk (lE (df g) λs₂ e st n m=>?_);subst e;refine⟨_,_,_,_,_,_,_,rfl,Walks.list (A:=X.A.in1) (I.ok.hd l) _ p m aR.toArray,st,n,by simp;left,CmpOf.ints_lt (λi=>ns.getD i 0) (λi v b=>zL a i v (by simpa using b)),λv h' c b k=>?_⟩;obtain⟨t,rfl⟩:=zL a _ v (by simpa using b);exact⟨.int (ka ns),H,I.kept (t':=c) (lD k),⟨t,by rw[hlen];rfl⟩,q⟩
def RU(f:ae->Int)(xs:aa):O D:=match xs with
 |[]=>none
 |x::xs=>match xs with
  |[]=>match x with
   |.lst _ ds=>match intsOf ds with
    |some ns=>if 0<ns.length then ok (.int (f ns))else none
    |none=>none
   |_=>none
  |_::_=>none
abbrev minD:au:=RU ka
def MX{g:ae->Int}{xs:aa}{d:D}(h:RU g xs=ok d):∃(f:Fl) (ns:ae),xs=[.lst f (ns.map D.int)]/\0<ns.length/\d=.int (g ns):=by
 cases xs with
 |nil=>cases h
 |cons x t=>cases t with
  |cons _ _=>cases h
  |nil =>
   cases x<;>first|exact nk h | (cases h;done)|skip
   rename_i f ds;have h:(match intsOf ds with|some ns=>if 0<ns.length then ok (D.int (g ns))else none|none=>none)=ok d:=h;cases a:intsOf ds with
   |none=>rw[a]at h;exact nk h
   |some ns =>
    rw[a]at h;obtain⟨c,b⟩:=mz h;cases dJ a;exact⟨f,ns,rfl,c,b.symm⟩
def dY(f:Str)(sc:Scope)(bl:aq)(e:Expr):Option (ao):=(fV e).bind λz=>(one z.2).bind λ_=>if z.1=f/\iD sc z.1=true/\z.1∈bl then some z.2 else none
def gk{f:Str}{sc:Scope}{bl:aq}{e:Expr}(h:dY f sc bl e=some args):∃p pos a,e=.Call (.Name f p) [a] [] pos/\args=[a]/\iD sc f=true/\f∈bl:=by
 obtain⟨⟨x,as⟩,b,h⟩:=bT h;obtain⟨a,hw,h⟩:=bT h;obtain⟨c,h⟩:=gT h;cases h;obtain⟨rfl,g,d⟩:=c;obtain⟨p,pos,rfl⟩:=cw b;obtain rfl:=bR hw;exact⟨_,_,_,rfl,rfl,g,d⟩
def KJ{g:String}{q:ae->Int}(E:(g:Str) ≠ "__name__")(B:((g:Str)==("__debug__" : Str))=false)(call:∀{X:Cx},X.calm=true->fY X (.builtin g) (Xc q X.K))(boot:bootBuiltins (g:Str)=some (.builtin g)):Cc (dY (g:Str)) (RU q):=by
 intro Φ n j X M bl k L e args m F cs b;obtain⟨p,pos,a,rfl,rfl,z,y⟩:=gk m;cases cs with
 |nil=>exact b.elim
 |cons c cs=>cases cs with
  |cons _ _=>exact b.2.2.2.elim
  |nil =>
   have x:PA X [a] (sH X F Φ [c]):=PA.imp (cy b.1 (PA.imp d7 λ_ _ _ h=>iH h) (b.2.1 _)) λ_ _ _ h=>fH h;have this:PE X (.Call (.Name (g:Str) p) [a] [] pos) (tD X F Φ (.cL n [c])):=by
    refine PE.imp (eI (call L.calm) (L.gl z) (L.bl _ y) boot x (he:=b.2.1 _) (hn:=E) (hdb:=B)) λσ H Q l=>?_;obtain⟨R,τ,ρ,d,J,i,l⟩:=l;obtain⟨xs,I,i⟩:=aC i;rw[j]at i;obtain⟨f,ns,rfl,hl,rfl⟩:=MX i;refine⟨R,τ,ρ,_,J,I,λvs H1 e1 u=>?_⟩;obtain⟨τt,O,t⟩:=u;obtain⟨v,rfl,s⟩:=t.one;cases s with
    |lst h r=>cases r.ofInts;exact⟨_,ns,rfl,h.sq,hl,l _ H1 e1 .int⟩
   exact⟨this,cK this λ_=>rfl⟩
abbrev MY:=@KJ "min" ka (by decide) (by decide) B6 PyProof.Rows.boot_min
def Inv.Sb{pins:av}{s:Shared}(I:Inv X pins σ H s)(k:∀b u,s.heap.get? b=some u->h'.get? b=some u)(up:∀b u,H b=some u->H' b=some u)
  (a:∀b u,H' b=some u->H b=some u\/(s.heap.objs.size<=b/\c_ H' h' b u)):Inv X pins σ H' { s with heap:=h',toks:=t' }:=by
 refine I.step (g':=s.gens) (d':=s.drawn) (ch:=[]) (λb g=>nomatch g) (λb o _ _ _ e _=>k b o e) (λb o _ _ _ e _=>⟨o.slots,k b o e⟩) (λb u _ e n=>?_)
  (λb o _ e=>⟨o,k b o e⟩) (λ_ _ e=>up _ _ e) (λ_ _ _ e=>up _ _ e) (λm d=>?_) (λb u e=>?_) I.bare
 ·cases q:H' b with
  |none=>rfl
  |some v =>
   rcases a b v q with z|⟨z,_⟩
   ·rw[n]at z;exact nk z
   ·exact absurd (aah e) (Nat.not_lt.mpr z)
 ·obtain⟨o,es,ep,c,r⟩:=d;exact⟨o,es,ep,k _ o c,r⟩
 ·rcases a b u e with e|⟨_,e⟩
  ·exact(I.cD b u e).jn (k b)
  ·exact e
def qL(H:Hp):List (Addr×V×V)->Hp
 |[]=>H
 |q::r=>upd (qL H r) q.1 (.tup [q.2.1,q.2.2])
theorem lC{H:Hp}{b:Addr}{u:HO}(e:H b=some u):∀{r:List (Addr×V×V)},(∀q∈r,H q.1=none)->qL H r b=some u
 |[],_=>e
 |q::r,h=>by
  have c:b≠q.1:=λz=>by rw[z,h q kq]at e;cases e
  show upd (qL H r) q.1 _ b=_;rw[bp c];exact lC e λq a=>h q (aai _ a)
theorem zT{H:Hp}:∀{r:List (Addr×V×V)},(r.map (·.1)).Nodup->∀q∈r,qL H r q.1=some (.tup [q.2.1,q.2.2])
 |[],_,_,h=>nomatch h
 |q'::r,hn,q,h=>by
  show upd (qL H r) q'.1 _ q.1=_;have a:=List.nodup_cons.mp hn;rcases List.mem_cons.mp h with rfl|h
  ·exact aZ
  ·have:q.1≠q'.1:=λz=>a.1 (by show q'.1∈_;rw[<- z];exact aax h);rw[bp this];exact zT a.2 q h
theorem vR{H:Hp}{b:Addr}{u:HO}:∀{r:List (Addr×V×V)},qL H r b=some u->H b=some u\/∃q∈r,q.1=b/\u=.tup [q.2.1,q.2.2]
 |[],e=>.inl e
 |q::r,e=>by
  replace e:upd (qL H r) q.1 (.tup [q.2.1,q.2.2]) b=some u:=e;by_cases z:b=q.1
  ·subst z;rw[aZ]at e;cases e;exact .inr ⟨q,aak,rfl,rfl⟩
  ·rw[bp z]at e;rcases vR e with h|⟨q',c,a⟩
   ·exact .inl h
   ·exact .inr ⟨q',aai _ c,a⟩
def tLZ(K:ak)(ta:TA):TE:=λσ H Q=>ta σ H λvs H1=>∃a b xs ys,vs=[.ref a,.ref b]/\dq K H1 a xs/\dq K H1 b ys /\
 ∀(l:Addr) (r:List (Addr×V×V)),H1 l=none->(∀q∈r,H1 q.1=none)->(r.map (·.1)).Nodup->l∉r.map (·.1)->r.map (·.2)=xs.zip ys->Q (.ref l) (upd (qL H1 r) l (.lst (r.map λq=>V.ref q.1)))
def HZ{p:Pos}(hc:X.calm=true)(P8:Gl X "list")(YA:X.mg "list" = none)(hg:Gl X "zip")(L:X.mg "zip" = none)(ha:PA X [e1,e2] ta)(hs:∀es,starEach (e1::es) X.env=(false,eval e1 X.env)::starEach es X.env)(Yj:∀es,starEach (e2::es) X.env=(false,eval e2 X.env)::starEach es X.env):
  PE X (.Call (.Name "list" p') [.Call (.Name "zip" p) [e1,e2] [] pos] [] pos') (tLZ X.K ta):=by
 intro pins s σ H Q I h;refine aaJ (d_ I P8 YA boot_list ?_);refine aar ?_;show wpAny _ _ (spliced ((false,eval (.Call (.Name "zip" p) [e1,e2] [] pos) X.env)::backTo pos' (starEach [] X.env))) _ _ s;refine abv ?_;refine Call_ (d_ I hg L boot_zip (aar (dH (ha pos pins s σ H _ I h) λus d b8=>?_) (hs _) (by rw[Yj];rfl)));obtain⟨vs,H1,n,g,E⟩:=b8;obtain⟨a,b,xs,ys,e,E,q2,l⟩:=E;subst e;obtain⟨u,v,rfl,ru,rv⟩:=vals2 g;cases ru;cases rv;obtain⟨aR,rx,p1,hz1⟩:=n.list E;obtain⟨i,ry,p2,PZ⟩:=n.list q2;refine call_zip_2 p1.isList p2.isList λh' z t o l1 l2 sz k=>abz ?_;have GO:h'.IsList a aR.toArray:=p1.isList.at λo e=>k _ o e;have BF:h'.IsList b i.toArray:=p2.isList.at λo e=>k _ o e;have cls:∀{x y:Addr} {o u:Obj},h'.get? x=some o->h'.get? y=some u->o.cls≠u.cls->x≠y:=λh1 h2 h3=>cV h1 h2 h3;have al:@LT.lt Nat _ a d.heap.objs.size:=by obtain⟨_,e,_⟩:=p1.isList;exact aah e
 have bl:@LT.lt Nat _ b d.heap.objs.size:=by obtain⟨_,e,_⟩:=p2.isList;exact aah e
 have D:ZipApart (d.heap.objs.size+4) (d.heap.objs.size+2) (d.heap.objs.size+3) d.heap.objs.size (d.heap.objs.size+1) a b:=by
  constructor<;>first|exact aan (by left)|exact aat (by left)
 have lx:=rx.length;have ly:=ry.length;have hn:min aR.toArray.size i.toArray.size<=sizeLine:=by simp;left
 refine G9 (s:={ d with heap:=h' }) (n.ok.hd hc) D hn z t o l1 l2 GO BF λU tk W c as M O hl m gJ=>?_;dsimp only at M O m ⊢;have hlen:as.length=(xs.zip ys).length:=by rw[hl,nR];simp;left
 have keep:∀b o,d.heap.get? b=some o->U.get? b=some o:=λb o e=>by
  have:@LT.lt Nat _ b d.heap.objs.size:=aah e;exact M b o (aan (by left)) (aan (by left)) (aan (by left)) (aan (by left)) (k b o e)
 have fresh:∀c,d.heap.objs.size<=c->H1 c=none:=λc h=>n.cD.fresh h;have hS5:h'.objs.size=d.heap.objs.size+5:=sz
 let r:List (Addr×V×V):=as.zip (xs.zip ys)
 have g:r.map (·.1)=as:=List.map_fst_zip (by left);have r2:r.map (·.2)=xs.zip ys:=List.map_snd_zip (by left);have B:∀c∈as,@LT.lt Nat _ h'.objs.size c:=m.above;have Y:∀q∈r,H1 q.1=none:=λq l=>fresh _ (by have:=B q.1 (by rw[<- g];exact aax l);left);have ET:H1 h'.objs.size=none:=fresh _ (by left);have VJ:h'.objs.size∉r.map (·.1):=by rw[g];exact λz=>absurd (B _ z) (aau _)
 have GN:(r.map (·.1)).Nodup:=by rw[g];exact m.nd
 have Z:(as.map V.ref)=r.map λq=>V.ref q.1:=by rw[<- g,fb];rfl
 refine⟨.ref h'.objs.size,upd (qL H1 r) h'.objs.size (.lst (r.map λq=>V.ref q.1)),?_,rfl,l _ r ET Y GN VJ r2⟩;refine Inv.Sb (s:=d) (t':=tk) n keep (λb u e=>?_) λb u e=>?_
 ·rw[bp λz=>by rw[z,ET]at e;cases e];exact lC e Y
 ·by_cases zb:b=h'.objs.size
  ·subst zb;rw[aZ]at e;cases e;refine .inr ⟨by left,?_,W.toList,c,?_,by rw[oC];exact O⟩
   ·rw[<- Z,b4,hlen,nR];left
   ·rw[<- Z,gJ];clear gJ Z m hl hlen g B GN r r2 Y VJ O M keep;induction as with
    |nil=>exact .nil
    |cons a as ih=>exact .cons rfl ih
  ·rw[bp zb]at e;rcases vR e with e|⟨q,l,rfl,rfl⟩
   ·exact .inl e
   ·have L:q.1∈as:=by rw[<- g];exact aax l
    refine .inr ⟨by have:=B _ L;left,?_⟩;obtain⟨j,hj⟩:=List.mem_iff_getElem?.mp l;have VM:as[j]?=some q.1/\(xs.zip ys)[j]?=some q.2:=by
     have:=List.getElem?_zip_eq_some.mp hj;exact this
    obtain⟨x,y,ex,ey,hp⟩:=m.pairs j q.1 VM.1;obtain⟨e1,e2⟩:xs[j]?=some q.2.1/\ys[j]?=some q.2.2:=List.getElem?_zip_eq_some.mp VM.2;obtain⟨u1,Yg,W8⟩:=rx.get e1;obtain⟨u2,J,W7⟩:=ry.get e2;rw[List.getElem?_toArray,Yg]at ex;rw[List.getElem?_toArray,J]at ey;cases ex;cases ey;exact nP W8 W7 hp
noncomputable def pairD(x y:D):D:=.tup [x,y]
def R4(xs:aa):O D:=match two xs with
 |some z=>match z.1 with
  |.lst _ a=>match z.2 with
   |.lst _ b=>ok (.lst .ow (aw bg (List.zipWith pairD a b)))
   |_=>none
  |_=>none
 |none=>none
def M6{x y d:D}(h:R4 [x,y]=ok d):∃f a g b,x=.lst f a/\y=.lst g b/\d=.lst .ow (aw bg (List.zipWith pairD a b)):=by
 cases x<;>first|exact nk h | (cases h;done)|skip
 cases y<;>first|exact nk h | (cases h;done)|skip
 cases h;exact⟨_,_,_,_,rfl,rfl,rfl⟩
def F5(sc:Scope)(bl:aq)(e:Expr):Option (ao):=(fV e).bind λz=>(one z.2).bind λi=>if z.1=("list" : Str)/\iD sc z.1=true/\z.1∈bl then p8 sc bl i else none
def F4{sc:Scope}{bl:aq}{e:Expr}(h:F5 sc bl e=some args):∃p pos i,e=.Call (.Name ("list" : Str) p) [i] [] pos/\iD sc ("list" : Str)=true/\("list" : Str)∈bl/\p8 sc bl i=some args:=by
 obtain⟨⟨x,as⟩,c,h⟩:=bT h;obtain⟨a,hw,h⟩:=bT h;obtain⟨d,b⟩:=gT h;obtain⟨rfl,j,g⟩:=d;obtain⟨p,pos,rfl⟩:=cw c;obtain rfl:=bR hw;exact⟨p,pos,a,rfl,j,g,b⟩
theorem vx{T:m9}{N:jk}(c:∀k k' p xs f,N k p xs f->N k' p xs f):∀{r:List (Addr×V×V)} {xs ys:ah} {a b:aa} {k1 k2 k:bu} {n1 d n:Nat},aF T N k1 n1 xs a->aF T N k2 d ys b->r.map (·.2)=xs.zip ys->(∀q∈r,T q.1 [q.2.1,q.2.2])->aF T N k n (r.map λq=>V.ref q.1) (List.zipWith pairD a b)
 |[],xs,ys,a,b,_,_,_,_,_,_,r1,r2,e,_=>by
  have l1:=r1.length;have l2:=r2.length;have l:=aaI List.length e;rw[nR]at l;have:List.zipWith pairD a b=[]:=List.eq_nil_of_length_eq_zero (by rw[List.length_zipWith];simp at l;left);rw[this];exact .nil
 |q::r,xs,ys,a,b,k1,k2,k,n1,d,n,r1,r2,e,ht=>by
  cases r1 with
  |nil=>cases e
  |cons t t1=>cases r2 with
   |nil=>cases e
   |cons s t2 =>
    have e1:q.2=(_,_):=(aa_ e).1;have e2:=(aa_ e).2;refine .cons (.tup (ht q aak) ?_) (vx c t1 t2 e2 λq m=>ht q (aai _ m));rw[e1];have j:=Rep.jd (T':=T) (N':=N) (g:=id) (λ_ _ h=>h) c t (0::n::k);have i:=Rep.jd (T':=T) (N':=N) (g:=id) (λ_ _ h=>h) c s (1::n::k);rw[fB]at j i;exact .cons j (.cons i .nil)
theorem gQ(g:Fl->Fl):∀a b:aa,aw g (List.zipWith pairD a b)=List.zipWith pairD (aw g a) (aw g b)
 |[],_=>by cases ‹aa› <;> rfl
 |_::_,[]=>rfl
 |x::a,y::b=>by
  show aE g (pairD x y)::aw g (List.zipWith pairD a b)=_;rw[gQ g a b];rfl
def RZ:Cc F5 R4:=by
 intro Φ n t X sc bl k L e args he F cs hs;obtain⟨p,pos,i,rfl,h1,h2,u⟩:=F4 he;obtain⟨p',pos',a,b,rfl,rfl,h3,h4⟩:=r_ u;obtain⟨⟨c,d,rfl,_,_⟩,pa,O,M⟩:=o5 hs;have this:PE X (.Call (.Name ("list" : Str) p) [.Call (.Name ("zip" : Str) p') [a,b] [] pos'] [] pos) (tD X F Φ (.cL n [c,d])):=by
  refine PE.imp (HZ L.calm (L.gl h1) (L.bl _ h2) (L.gl h3) (L.bl _ h4) pa O M) λσ H Q m=>?_;obtain⟨R,τ,ρ,d',E,j,m⟩:=m;obtain⟨xs,bZ,j⟩:=aC j;rw[t]at j;refine⟨R,τ,ρ,xs,E,bZ,λvs H1 e1 Z=>?_⟩;obtain⟨τt,J,Y⟩:=Z;have hl:∃x y,xs=[x,y]:=by
   unfold R4 at j;cases hw:two xs with
   |none=>rw[hw]at j;exact nk j
   |some z=>exact⟨z.1,z.2,jl hw⟩
  obtain⟨x,y,rfl⟩:=hl;obtain⟨f,da,g,db,rfl,rfl,rfl⟩:=M6 j;obtain⟨v,w,rfl,W,U⟩:=Y.two;cases W with
  |lst hx ax=>cases U with
   |lst hy ay =>
    refine⟨_,_,_,_,rfl,hx.sq,hy.sq,λl r hl I hn VJ u=>m _ _ ?_ ?_⟩
    ·intro b o e;have B:=e1 b o e;rw[bp λz=>by rw[z,hl]at B;cases B];exact lC B I
    ·have s:aM H1 (upd (qL H1 r) l (.lst (r.map λq=>V.ref q.1))):=λb o e=>by
      rw[bp λz=>by rw[z,hl]at e;cases e];exact lC e I
     refine b_.qK (e1.free hl) (e1.trans s) aZ ?_;rw[gQ];refine vx nd.pK ((ax.fX E J (k':=[]) (n':=0)).imp (λ_ _ h=>bc.same s h) λ_ _ _ _ h=>nd.same s h) ((ay.fX E J (k':=[]) (n':=0)).imp (λ_ _ h=>bc.same s h) λ_ _ _ _ h=>nd.same s h) u λq m=>?_;have BE:q.1≠l:=λz=>VJ (by rw[<- z];exact aax m);exact bc.of (by rw[bp BE];exact zT hn q m)
 exact⟨this,cK this λ_=>rfl⟩
theorem aF.FI{T:m9}{N:jk}{k:bu}:∀(j:Nat) {n:Nat} {vs:ah} {ds:aa},aF T N k n vs ds->aF T N k (n+j) (vs.drop j) (ds.drop j)
 |0,_,_,_,h=>h
 |j+1,_,_,_,.nil=>.nil
 |j+1,n,_,_,.cons h t=>by
  rw[show n+(j+1)=n+1+j by left];exact aF.FI j t
theorem aF.Ki{T:m9}{N:jk}{k:bu}:∀(j:Nat) {n:Nat} {vs:ah} {ds:aa},aF T N k n vs ds->aF T N k n (vs.take j) (ds.take j)
 |0,_,_,_,_=>by rw[List.take_zero,List.take_zero];exact .nil
 |j+1,_,_,_,.nil=>.nil
 |j+1,n,_,_,.cons h t=>.cons h (aF.Ki j t)
noncomputable def QC(b:Bool)(e:Expr):Option Expr:=match e with
 |.Slice a c st _=>match st with
  |none=>match b with
   |true=>match c with
    |none=>a
    |some _=>none
   |false=>match a with
    |none=>c
    |some _=>none
  |some _=>none
 |_=>none
def Hg{b:Bool}{e k:Expr}(h:QC b e=some k):∃p,e=.Slice (if b then some k else none) (if b then none else some k) none p:=by
 cases e<;>first|exact nk h | (cases h;done)|skip
 rename_i a c st p;cases st with
 |some _=>cases h
 |none=>cases b with
  |true=>cases c with
   |some _=>cases h
   |none=>cases h;exact⟨p,rfl⟩
  |false=>cases a with
   |some _=>cases h
   |none=>cases h;exact⟨p,rfl⟩
def p9(b:Bool)(_:Scope)(_:aq)(e:Expr):Option (ao):=(xI e).bind λz=>(QC b z.2).bind λk=>some [z.1,k]
def sf{b:Bool}{sc:Scope}{bl:aq}{e:Expr}(h:p9 b sc bl e=some args):∃a k p pos,e=.Subscript a (.Slice (if b then some k else none) (if b then none else some k) none p) pos/\args=[a,k]:=by
 obtain⟨⟨a,s⟩,c,h⟩:=bT h;obtain⟨k,hw,h⟩:=bT h;cases h;obtain⟨pos,rfl⟩:=k8 c;obtain⟨p,rfl⟩:=Hg hw;exact⟨a,k,p,pos,rfl,rfl⟩
section
open PySem.SeqAt
open PySem.AutoSeq1 (wpAny_loadPart')
open PySem.MeetsSeq PySem.MeetsSeq2 PySem.MeetsSeq3
def Dy(A:aN)(s:Shared)(a:Int)(t:Tok)(c:Int)(u:Tok)(prog:aK)(w:World)(E:aD)(Q:aD)(h:Q (.bool (decide (a ≥ c))) s):wpAny (model prog w) A (richCompare .GtE (.int a t) (.int c u)) Q E s :=
 (PyProof.Rows.ge_int h:wpAny (model prog w) A (compareOp .GtE (.int a t) (.int c u)) Q E s)
def IA{vs ws:az}{b:ae}{m n:Nat}(e:IntsAre vs ns)(d:IntsAre ws b)(hz:vs.zip ws=[])(hl:ns.length+n=b.length+m):(!HT.lexLt ns b)=decide (m ≥ n):=by
 cases e with
 |nil=>cases d with
  |nil=>simp only[gI]at hl;exact(aaN (by left)).symm
  |cons c u h=>simp only[gI,cz]at hl;exact(aa9 (by left)).symm
 |cons a t h=>cases d with
  |nil=>simp only[gI,cz]at hl;exact(aaN (by left)).symm
  |cons c u h=>rw[jA]at hz;cases hz
def qB(l b:Addr)(items p:aW)(n n2:Nat)(dd Y:Option Addr)(sl Z:Array (Option Value))(ns B:ae)(U:IntsAre items.toList ns)(O:IntsAre p.toList B):
  Meets (Builtin.«tuple.__ge__» ⟨[.ref l,.ref b],[]⟩) (λ_ R s=>s.heap.get? l=some { cls:=.type "tuple",dict:=dd,data:=.seq items n,slots:=sl }/\s.heap.get? b=some { cls:=.type "tuple",dict:=Y,data:=.seq p n2,slots:=Z }/\R (.ok (.ret (.bool (!HT.lexLt ns B)))) s) :=
 .of_wp λprog w A R s h=>by
  obtain⟨E,g,d,v,z⟩:=s;obtain⟨hl,hb,h⟩:=h;have f2:=abK;have z1:items.size=ns.length:=by rw[<- U.length];simp
  have z2:p.size=B.length:=by rw[<- O.length];simp
  wp_walk using wpAny_loadPart' hl,wpAny_loadPart' hb,wpAny_forIn_list _ (λrest b I=>b.1=none/\I=⟨E,g,d,v,z⟩/\∃(vs ws:az) (j r:ae),rest=vs.zip ws/\IntsAre vs j/\IntsAre ws r/\j.length+p.size=r.length+items.size/\R (.ok (.ret (.bool (!HT.lexLt j r)))) ⟨E,g,d,v,z⟩) _
  case turn =>
   rintro ⟨y,x⟩ rest b I ⟨J,rfl,vs,ws,j,r,i,L,M,hlen,hR⟩;cases L with
   |nil=>rw[List.zip_nil_left]at i;cases i
   |cons a t m=>cases M with
    |nil=>rw[pl]at i;cases i
    |cons c u k =>
     rw[jA]at i;injection i with X8 EO
     injection X8 with hy hx
     subst hy hx;rw[HT.d9]at hR;simp only[cz]at hlen;obtain⟨e,he,W⟩:=HT.wA A.in1 ⟨E,g,d,v,z⟩ a t c u;refine aaa (he prog w _ _ ?_);cases e with
     |true =>
      rw[cc (W.mp rfl)]at hR
      wp_walk
      exact⟨rfl,rfl,_,_,_,_,EO,m,k,by left,hR⟩
     |false =>
      have kB:¬ a=c:=λq=>absurd (W.mpr q) aae;rw[cb kB,show(!decide (a<c))=decide (a ≥ c) by by_cases q:a<c<;>simp[q]<;>left]at hR;have Ym:=Dy A.in1 ⟨E,g,d,v,z⟩ a t c u prog w
      wp_walk using Ym
      exact⟨_,rfl,by simpa using hR⟩
  case fin =>
   rintro ⟨b1,b2⟩ I ⟨J,rfl,vs,ws,j,r,i,L,M,hlen,hR⟩;simp only at J;subst J;rw[IA L M i.symm hlen]at hR
   wp_walk
   exact⟨_,rfl,by simpa [Builtin.Tuple.tupleCompareSizes]using hR⟩
  case h=>exact⟨rfl,rfl,items.toList,p.toList,ns,B,rfl,U,O,by left,h⟩
end
def Rn(K:ak):R2:=λx y H Q=>∃a b ns c,x=.ref a/\y=.ref b/\bc K H a (ns.map V.int)/\bc K H b (c.map V.int)/\Q (.bl (!HT.lexLt ns c)) H
def D4(L:X.A.units<cLine):kW X (compareOp .GtE) (Rn X.K):=by
 intro pins s σ H x y v u Q I t r h;obtain⟨a,b,ns,e,rfl,rfl,O,M,q⟩:=h;cases t;cases r;obtain⟨aR,B,⟨⟨W,U,data,p⟩,i,k,n,j⟩,_⟩:=I.tuple O;obtain⟨E,z,⟨⟨Y,l,data2,m⟩,g,d,J,c⟩,_⟩:=I.tuple M;simp only at k j d c;subst k j d c;exact richCompare_meets_room (op:=.GtE) ⟨_,i,rfl⟩ ⟨_,g,rfl⟩ PySem.F.slot_tuple_ge PySem.F.entry_tuple_ge (PySem.F.args_tuple_ge_2 _ _) (qB a b aR.toArray E.toArray n J U l p m ns e (intsAre_of B) (intsAre_of z))
  ⟨i,g,show Value.bool (!HT.lexLt ns e)≠Value.notImplemented/\EP X pins σ Q (.bool (!HT.lexLt ns e)) s from⟨(λx=>nomatch x),⟨.bl _,H,I,rfl,q⟩⟩⟩ L
def Qc(xs:aa):O D:=match two xs with
 |some z=>match z.1 with
  |.tup a=>match z.2 with
   |.tup b=>match intsOf a with
    |some ns=>match intsOf b with
     |some c=>ok (.bl (!HT.lexLt ns c))
     |none=>none
    |none=>none
   |_=>none
  |_=>none
 |none=>none
def Oe{x y d:D}(h:Qc [x,y]=ok d):∃ns c:ae,x=.tup (ns.map D.int)/\y=.tup (c.map D.int)/\d=.bl (!HT.lexLt ns c):=by
 cases x<;>first|exact nk h | (cases h;done) | (cases y<;>first|exact nk h | (cases h;done)|skip)
 rename_i a b;have h:(match intsOf a with|some ns=>(match intsOf b with|some c=>ok (D.bl (!HT.lexLt ns c))|none=>none)|none=>none)=ok d:=h;cases e:intsOf a with
 |none=>rw[e]at h;exact nk h
 |some ns=>cases g:intsOf b with
  |none=>rw[e,g]at h;cases h
  |some c =>
   rw[e,g]at h;cases h;exact⟨ns,c,by rw[dJ e],by rw[dJ g],rfl⟩
def F9(_:Scope)(_:aq)(e:Expr):Option (ao):=(CL e).bind λz=>(one z.2.2).bind λr=>if z.2.1=[.GtE]then some [z.1,r]else none
def F8{sc:Scope}{bl:aq}{e:Expr}(h:F9 sc bl e=some args):∃l r p,e=.Compare l [.GtE] [r] p/\args=[l,r]:=by
 obtain⟨⟨l,d,c⟩,a,h⟩:=bT h;obtain⟨r,hw,h⟩:=bT h;obtain⟨b,h⟩:=gT h;cases h;obtain rfl:=b;obtain⟨p,rfl⟩:=sD a;obtain rfl:=bR hw;exact⟨l,r,p,rfl,rfl⟩
def TX:Cc F9 Qc:=by
 intro Φ n t X sc bl k L e args W F cs q;obtain⟨l,r,p,rfl,rfl⟩:=F8 W;have z:X.A.units<cLine:=by have:=L.room.units;left
 cases cs with
 |nil=>exact q.elim
 |cons c cs=>cases cs with
  |nil=>exact q.2.2.2.elim
  |cons c' cs=>cases cs with
   |cons _ _=>exact q.2.2.2.2.2.2.elim
   |nil =>
    obtain⟨E,_,_,B,_,_,_⟩:=q;have j:∀{σ:St} {H:Hp} {R:aj} {τ:Addr->Option bu} {ρ:aX} {d:D} {Q:VK},SI X F R τ ρ σ H->bo Φ (.cL n [c,c']) ρ=ok d->(∀b H2,d=.bl b->aM H H2->Q (.bl b) H2)->Ho (Rn X.K) (tD X F Φ c) (tD X F Φ c') σ H Q:=by
     intro σ H R τ ρ d Q i g a;obtain⟨xs,m,g⟩:=aC g;obtain⟨x,Z,m⟩:=aC m;obtain⟨ys,s,m⟩:=aC m;cases m;obtain⟨y,Y,s⟩:=aC s;cases s;rw[t]at g;obtain⟨ns,U,rfl,rfl,rfl⟩:=Oe g;refine tD.intro i Z λv H1 e1 O=>tD.intro (i.go e1) Y λu H2 e2 M=>?_;obtain⟨_,_,p1⟩:=O.go e2;obtain⟨_,_,p2⟩:=M;cases p1 with
     |tup t1 J=>cases p2 with
      |tup t2 I =>
       cases J.ofInts;cases I.ofInts;exact⟨_,_,ns,U,rfl,rfl,t1,t2,a _ H2 rfl (e1.trans e2)⟩
    refine⟨PE.imp (tq (D4 z) E B (Ec _)) λσ H Q a=>?_,PT.imp (sV (D4 z) E B (Ec _)) λσ H Q a=>?_⟩
    ·obtain⟨R,τ,ρ,d,i,g,a⟩:=a;exact j i g λb H2 e es=>a _ H2 es (by subst e;exact .bl)
    ·obtain⟨R,τ,ρ,b,i,g,a⟩:=a;obtain⟨d,ed,et⟩:=aC g;refine j i ed λb' H2 e es=>?_;subst e;cases et;exact⟨_,rfl,a H2 es⟩
section
variable {prog:aK}{w:World}{A:aN}{E:aD}{s:Shared}
theorem vP{fin:Bool}{Q:Bool->Shared->Prop}:∀{aR d:az} {ns c:ae} (i:Nat),IntsAre aR ns->IntsAre d c->fin=decide (aR.length<d.length)->Q (HT.lexLt ns c) s->PySem.W.KatLex prog w A true fin Q (aR.zip d) i s
 |_,_,_,_,i,.nil,.nil,hf,h=>by subst hf;exact h
 |_,_,_,_,i,.nil,.cons _ _ _,hf,h=>by subst hf;exact h
 |_,_,_,_,i,.cons _ _ _,.nil,hf,h=>by subst hf;exact h
 |_,_,_,_,i,.cons (ns:=ns) a t h1,.cons (ns:=c) b u h2,hf,h=>by
  rw[HT.d9]at h;refine PySem.W.kat_cons (wpAny_eqBool_int (PySem.W.kat_go (λe=>?_) λe=>?_))
  ·have e:a=b:=by simpa using e
   rw[cc e]at h;exact PySem.W.kat_yes (vP (i+1) h1 h2 (by rw[hf];simp) h)
  ·have e:¬ a=b:=by simpa using e
   rw[cb e]at h;refine PySem.W.kat_no ?_;rw[Bool.true_and];cases i==0 with
   |true=>exact oneLt_int h
   |false=>exact PySem.W.kat_one _ _ (lt_int h)
end
noncomputable def gY(ns:ae):D:=.tup (ns.map D.int)
theorem aF.UO{T:m9}{N:jk}{q:bu}:∀{n:Nat} {vs ws:ah} {ds es:aa},aF T N q n vs ds->aF T N q (n+ds.length) ws es->aF T N q n (vs++ws) (ds++es)
 |_,_,_,_,_,.nil,h=>h
 |n,_,_,_,_,.cons (ds:=ds) h t,h'=>.cons h (aF.UO t (by
   rw[cz,la ds.length 1,<- Nat.add_assoc]at h';exact h'))
def Hu{p a:Addr}{ys:ah}{o:HO}(b:H p=some (.lst xs))(h:bc K H a ys):bc K (upd H p o) a ys:=by
 rcases h with (h|⟨c,h⟩)|h
 ·exact .inl (.inl (by rw[bp (λz=>by subst z;rw[b]at h;cases h)];exact h))
 ·exact .inl (.inr ⟨c,by rw[bp (λz=>by subst z;rw[b]at h;cases h)];exact h⟩)
 ·exact .inr h
def zK{n i:Nat}{xs:aa}{r:Fo×aX}(a:yi Φ n i (pq cs xs ρ)=ok r)(c:aU bK xs=false):∃d d',ρ[i]?=some (some d)/\Φ n (d::xs)=ok d'/\r=(.nx,ρ.set i (some d')):=by
 unfold pq at a;rw[cb (by rw[c];exact dX)]at a;unfold yi at a;split at a
 ·rename_i d b;obtain⟨d',g,e⟩:=aC a;cases e;exact⟨d,d',b,g,rfl⟩
 ·cases a
def Eh{n i:Nat}{xs:aa}{r:Fo×aX}(a:yi Φ n i (pq cs xs ρ)=ok r)(b:aU bK xs=true):∃d d',Φ n (d::aw aI xs)=ok d':=by
 unfold pq at a;rw[cc b]at a;unfold yi at a;split at a
 ·rename_i d e;obtain⟨d',c,g⟩:=aC a;exact⟨d,d',c⟩
 ·cases a
def MI:D->Option (aa)
 |.lst f ds=>if cO f then some ds else none
 |_=>none
def D0{d:D}(h:MI d=some ds):d=.lst .ow ds:=by
 cases d<;>first|exact nk h | (cases h;done)|skip
 rename_i f es;have h:(if cO f then some es else none)=some ds:=h;cases f<;>first | (cases h;rfl) | (cases h;done)
def yE(xs:aa):O D:=match two xs with
 |some z=>match MI z.1 with
  |some ds=>match MI z.2 with
   |some es=>if aU anyF es=false/\ds.length+es.length<=du then ok (.lst .ow (ds++es))else none
   |none=>none
  |none=>none
 |none=>none
def Ae{x y d:D}(h:yE [x,y]=ok d):∃ds es,x=.lst .ow ds/\y=.lst .ow es/\aU anyF es=false/\ds.length+es.length<=du/\d=.lst .ow (ds++es):=by
 have h:(match MI x with|some ds=>(match MI y with|some es=>if aU anyF es=false/\ds.length+es.length<=du then ok (.lst .ow (ds++es))else none|none=>none)|none=>none)=ok d:=h;cases a:MI x with
 |none=>rw[a]at h;exact nk h
 |some ds=>cases b:MI y with
  |none=>rw[a,b]at h;cases h
  |some es =>
   rw[a,b]at h;obtain⟨⟨g,e⟩,c⟩:=mz h;exact⟨ds,es,D0 a,D0 b,g,e,c.symm⟩
def ze(m:Str)(st:Stmt):Option (Expr×ao):=(U_ st).bind λc=>(xJ c).bind λz=>(CN z.1).bind λy=>if y.2.1=m/\z.2.2.1.isEmpty=true/\(y.2.2.endLine==z.2.2.2.line)=true then some (y.1,z.2.1)else none
def oM{m:Str}{as:ao}(h:ze m st=some (o,as)):∃p1 p2 pos,st=.Expr (.Call (.Attribute o m p1) as [] p2) pos/\(p1.endLine==p2.line)=true:=by
 obtain⟨c,g,h⟩:=bT h;obtain⟨⟨f,k,j,p2⟩,e,h⟩:=bT h;obtain⟨⟨i,a,p1⟩,d,h⟩:=bT h;obtain⟨b,h⟩:=gT h;cases h;obtain⟨pos,rfl⟩:=oN g;obtain rfl:=q_ e;obtain rfl:=u0 d;obtain rfl:=RP b.2.1;obtain rfl:=b.1;exact⟨p1,p2,pos,rfl,b.2.2⟩
def Ga(_:Scope)(_:aq)(st:Stmt):Option (Expr×ao):=(ze ("extend" : Str) st).bind λz=>(one z.2).bind λ_=>some z
def OM{n:Nat}(e:Φ n=yE){sc:Scope}{bl:aq}{k:Nat}(L:PX X sc bl k)(hN:X.N.Nodup)(xA:∀x,X.fn x=true){x:Str}(he:Ga sc bl st=some (.Name x pos,args))
  {i:Nat} (hi:X.N[i]?=some x) (hl:L2.Loc X.env.scope x) (pe:PE X (.Name x pos) (nA i)) (hs:qT X F Φ cs args):PS X st (qC X F Φ (.mut n i cs)):=by
 obtain⟨⟨o,as⟩,h1,he⟩:=bT he;obtain⟨v,h2,he⟩:=bT he;cases he;obtain rfl:=bR h2;obtain⟨p1,p2,pos',rfl,ET⟩:=oM h1;cases cs with
 |nil=>exact hs.elim
 |cons c cs=>cases cs with
  |cons _ _=>exact hs.2.2.2.elim
  |nil =>
   refine PS.imp (nS (DZ ab5 PySem.F.slot_list_extend PySem.F.type_list_extend Bn pe (cy hs.1 d7 (hs.2.1 _)) (hfew:=by rw[hs.2.1];rfl) (hline:=ET) (hs:=hs.2.1 _))) λD σ H I=>?_;obtain⟨R,τ,ρ,r,O,p,I⟩:=I;obtain⟨xs,M,p⟩:=aC p;obtain⟨y,ey,M⟩:=aC M;cases M;have z:∃ds es,y=.lst .ow es/\ρ[i]?=some (some (.lst .ow ds))/\aU anyF es=false/\ds.length+es.length<=du/\r=(.nx,ρ.set i (some (.lst .ow (ds++es)))):=by
    cases B:aU bK [y]with
    |true =>
     obtain⟨d,d',h⟩:=Eh p B;rw[e]at h;obtain⟨ds,es,_,j,_⟩:=Ae h;cases y<;>first|exact nk j | (cases j;done)|skip
     rename_i f Qf;cases f<;>cases j
    |false =>
     obtain⟨d,d',h,h',rfl⟩:=zK p B;rw[e]at h';obtain⟨ds,es,rfl,rfl,j,h4,rfl⟩:=Ae h';exact⟨ds,es,rfl,h,j,h4,rfl⟩
   obtain⟨ds,es,rfl,J,hf,hc,rfl⟩:=z;obtain⟨a,xs,E,ha,hxl,hta,_⟩:=O.own J;refine⟨.ref a,E,⟨rfl,_,dq.of ha⟩,tD.intro O ey λu H1 e1 ru=>?_⟩;have t:=O.go e1;obtain⟨a1,Wk,Y,q,Ya,Z,GH⟩:=t.own J;rw[E]at Y;cases Y;obtain⟨τt,fr,rp⟩:=ru;obtain⟨b,U,rfl,hb,W⟩:=rp.qA;have B:sizeLine=16777216:=abg;have nL:du=1000000:=rfl;have hzl:=W.length;refine⟨a,b,Wk,U,rfl,rfl,q,hb.1,by left,?_⟩;obtain⟨s,xh⟩:=t.put (m:=0) (g:=λys=>ys++U) (v:=.int 0) (d:=.int 0) J E q Z GH ⟨λ_=>none,λ_ _ h=>by simp at h,.int 0⟩ λrs _=>aF.UO rs (W.without (P:=anyF) (λ_ _ h=>Hu q h) (λ_ _ _ _ _ h=>by cases h) hf _ _);exact I σ _ R s xh (tP (n:=.l _) t e1 (λ_ h=>h) q Z)
def Z2(K:ak)(a:Addr):It :=
  ⟨λi H=>∃xs x,dq K H a xs/\xs[i]?=some x,
   λi H v H'=>∃T x,(∀xs,dq K H a xs->xs[i]?=some x)/\H T=none/\v=.ref T/\H'=upd H T (.tup [.int i,x]),
   λi H=>∃xs,dq K H a xs/\xs.length<=i⟩
def A2{L:Pos}{a e it:Addr}(B:e≠it):
  Turn P w K (.Tuple elts n1 L) (Z2 K a) [e,it] e (λi h=>(∃old,IsEnum h e it (i:Int) old)/\h.IsListIter it a i):=by
 refine⟨by simp,λi h st c b=>?_,λi h h' st k=>?_,?_,?_,λA i s Q E st hQ=>?_⟩
 ·obtain⟨⟨old,d⟩,⟨O,e1,_,d1⟩⟩:=st;simp only[ft,eg,or_false]at b;rcases b with rfl|rfl
  ·exact⟨_,d,λv q=>by cases q⟩
  ·exact⟨O,e1,λv q=>by rw[d1]at q;cases q⟩
 ·obtain⟨⟨old,d⟩,l1⟩:=st;exact⟨⟨old,k e (by simp) _ d⟩,l1.at λo z=>k it (by simp) o z⟩
 ·intro X r hw t b i pins s σ H E I j st n;subst r hw t;obtain⟨xs,x,g,J⟩:=n;obtain⟨⟨old,d⟩,l1⟩:=st;obtain⟨aR,m,p,_⟩:=I.list g;obtain⟨u,Y,M⟩:=m.get J;refine wpAny_pyNext_enum_item d l1 p.isList (x:=u) (by simpa using Y) B λh1 e1 a1 t1 PB k1=>⟨_,rfl,?_⟩
  refine wpAny_letOwnedTupleGo_enum e1 λy e2 l=>?_;have Zt:s.heap.objs.size≠e:=aat (aah d);have U:∀c o,c∉[e,it]->s.heap.get? c=some o->y.get? c=some o:=λc o b z=>by
   simp only[ft,eg,or_false,not_or]at b;exact l.extBut c o b.1 (k1 c o b.1 b.2 z)
  have hT:y.get? s.heap.objs.size=some { cls:=.type "tuple",data:=.seq #[.int i s.toks,u] }:=l.extBut _ _ Zt t1;have Z:H s.heap.objs.size=none:=I.cD.fresh (aaj _);have ci:((i+1:Nat):Int)=(i:Int)+1:=by push_cast;rfl
  refine⟨.ref s.heap.objs.size,upd H s.heap.objs.size (.tup [.int i,x]),sF (s:=s) (h':=y) (t':=s.toks+1) I j U (aaj _) (nP ⟨_,rfl⟩ M hT),rfl,⟨_,x,λzs W=>by rw[I.jx W g];exact J,Z,rfl,rfl⟩,⟨⟨u,by rw[ci];exact e2⟩,a1.extBut l.extBut B.symm⟩,λc b=>?_⟩;rw[bp]
  ·exact(j c b).1
  ·intro z;subst z;simp only[ft,eg,or_false]at b;rcases b with z|z
   ·exact absurd (aah d) (by rw[<- z];exact aau _)
   ·obtain⟨_,w,_⟩:=l1;exact absurd (aah w) (by rw[<- z];exact aau _)
 ·intro X r hw t b i pins s σ H E I j st n;subst r hw t;obtain⟨xs,g,hl⟩:=n;obtain⟨⟨old,d⟩,l1⟩:=st;obtain⟨aR,m,p,_⟩:=I.list g;have e1:=m.length;refine wpAny_pyNext_enum_end (I.ok.hd b) d l1 p.isList (by simp;left) λh1 k1=>⟨rfl,sE (t':=s.toks) I j λc o b z=>?_⟩
  simp only[ft,eg,or_false,not_or]at b;exact k1 c o b.2 z
 ·obtain⟨⟨old,d⟩,_⟩:=st;exact ab6 d hQ
def si:bootBuiltins "enumerate" = some (.type "enumerate"):=by decide +kernel
def HX{l p:Pos}(t:Gl X "enumerate")(r:X.mg "enumerate" = none)(v:PA X [e1] ta)(hs:∀es,starEach (e1::es) X.env=(false,eval e1 X.env)::starEach es X.env):
  PI X (.Tuple elts n1 l) (.Call (.Name "enumerate" p) [e1] [] pos) (λσ H R=>ta σ H λvs H1=>∃a,vs=[.ref a]/\(∃xs,dq X.K H1 a xs)/\R (Z2 X.K a) H1):=by
 intro pins s σ H R I h;refine Call_ (d_ I t r si (aar (dH (v pos pins s σ H _ I h) λy c x=>?_) (hs _) rfl));obtain⟨vs,H1,d,n,g⟩:=x;obtain⟨a,e,⟨xs,g⟩,q⟩:=g;subst e;obtain⟨u,rfl,m⟩:=vals1 n;cases m;obtain⟨aR,_,p1,_⟩:=d.list g;refine call_enumerate_list p1.isList λh' z l1 sz k=>ab6 z ?_;refine⟨c.heap.objs.size+1,[c.heap.objs.size+1,c.heap.objs.size],_,_,H1,rfl,d.kept (t':=c.toks) k,A2 (acC _),⟨⟨_,z⟩,l1⟩,λb i=>?_,q⟩;have j:c.heap.objs.size<=b:=by
  simp only[ft,eg,or_false]at i;rcases i with rfl|rfl<;>first|exact acE .. |exact aaj _
 exact d.yD j (d.cD.fresh j)
noncomputable def br(k:Nat):aa->aa
 |[]=>[]
 |x::xs=>.tup [.int k,x]::br (k+1) xs
theorem iP:∀(a:aa) (k i:Nat),(br k a)[i]?=(a[i]?).map λx=>.tup [.int ((k+i:Nat):Int),x]
 |[],k,i=>by simp[br]
 |x::xs,k,0=>by simp[br]
 |x::xs,k,i+1=>by
  rw[br,List.getElem?_cons_succ,List.getElem?_cons_succ,iP xs (k+1) i,show k+1+i=k+(i+1) by left]
theorem iO:∀(a:aa) (k:Nat),(br k a).length=a.length
 |[],k=>rfl
 |x::xs,k=>by rw[br,cz,cz,iO xs]
def zF{a:Expr}(h:qT X F Φ cs [a]):PA X [a] (sH X F Φ cs)/\(∀es,starEach (a::es) X.env=(false,eval a X.env)::starEach es X.env):=by
 match cs,h with
 |[c],h =>
  obtain⟨d,b,_,_⟩:=h;exact⟨PA.imp (cy d (PA.imp d7 λ_ _ _ h=>iH h) (b _)) λ_ _ _ h=>fH h,b⟩
 |[],h=>exact h.elim
 |_::_::_,h=>exact h.2.2.2.elim
def CB{p:Addr}{a:aa}:J7 K (Z2 K p) H2 [.ref p] [.lst f a] (aw aI (br 0 a)):=by
 have len:(aw aI (br 0 a)).length=a.length:=by rw[aG,b4,iO]
 have two:∀{H':Hp} {R':aj},aF (bc K H') (nd K R' (λ_=>False) (λ_=>none) H') [] 0 [.ref p] (aw aI [.lst f a]) ->
   ∃xs,dq K H' p xs/\aF (bc K H') (nd K R' (λ_=>False) (λ_=>none) H') [0] 0 xs (aw aI a):=by
  intro H' R' h;rw[aw,aE,aw]at h;cases h with
  |cons h t=>cases h with
   |lst h r=>exact⟨_,h.sq,r⟩
 refine⟨λi H' R' _ h d=>?_,λi H' R' x l _ h d g=>?_,λi H' R' _ h d=>?_⟩
 ·obtain⟨xs,c,b⟩:=two h;rw[len]at d;have l1:=b.length;rw[aG,b4]at l1;exact⟨xs,xs[i]'(by left),c,aap _⟩
 ·obtain⟨xs,c,b⟩:=two h;obtain⟨T,u,k,j,rfl,rfl⟩:=g;obtain⟨d1,e1,p1⟩:=b.qN (k xs c);have es:aM H' (upd H' T (.tup [.int i,u])):=aM.upd j;refine⟨es,.tup [.int i,d1],?_,.tup (bc.of aZ) (.cons (.int _) (.cons (p1.Vd es) .nil))⟩;rw[aG,List.getElem?_map]at e1 ⊢;obtain⟨c1,e,rfl⟩:=Option.map_eq_some_iff.mp e1;rw[iP,e];simp[aE,aw]
 ·obtain⟨xs,c,b⟩:=two h;rw[len]at d;have l1:=b.length;rw[aG,b4]at l1;exact⟨xs,c,by left⟩
noncomputable def j9(n:Int):ae:=(List.range n.toNat).map λ(k:Nat)=>(k:Int)
def Na(xs:aa):O D:=match one xs with
 |some x=>match x with
  |.int n=>if n<=du /\ -du<=n then ok (.lst .ow ((j9 n).map D.int))else none
  |_=>none
 |none=>none
def M_{xs:aa}{d:D}(h:Na xs=ok d):∃n:Int,xs=[.int n]/\n<=du /\ -du<=n/\d=.lst .ow ((j9 n).map D.int):=by
 unfold Na at h;cases hw:one xs with
 |none=>rw[hw]at h;exact nk h
 |some x =>
  obtain rfl:=bR hw;rw[hw]at h;cases x<;>first|exact nk h | (cases h;done)|skip
  rename_i n;obtain⟨⟨c,b⟩,a⟩:=mz h;exact⟨n,rfl,c,b,a.symm⟩
def AB(sc:Scope)(bl:aq)(e:Expr):Option (ao):=match fV e with
 |some z=>match one z.2 with
  |some i=>if z.1=("list" : Str)/\iD sc z.1=true/\z.1∈bl then dY ("range" : Str) sc bl i else none
  |none=>none
 |none=>none
def F6{sc:Scope}{bl:aq}{e:Expr}(h:AB sc bl e=some args):∃p pos i,e=.Call (.Name ("list" : Str) p) [i] [] pos/\iD sc ("list" : Str)=true/\("list" : Str)∈bl/\dY ("range" : Str) sc bl i=some args:=by
 unfold AB at h;cases d:fV e with
 |none=>rw[d]at h;exact nk h
 |some z =>
  obtain⟨x,as⟩:=z;rw[d]at h;obtain⟨p,pos,rfl⟩:=cw d;have b:(match one as with|some i=>if x=("list" : Str)/\iD sc x=true/\x∈bl then dY ("range" : Str) sc bl i else none|none=>none)=some args:=h;clear h;cases hw:one as with
  |none=>rw[hw]at b;exact nk b
  |some a =>
   rw[hw]at b;have c:(if x=("list" : Str)/\iD sc x=true/\x∈bl then dY ("range" : Str) sc bl a else none)=some args:=b;clear b;obtain rfl:=bR hw;by_cases g:x=("list" : Str)/\iD sc x=true/\x∈bl
   ·rw[cc g]at c;obtain⟨rfl,j,b⟩:=g;exact⟨_,_,_,rfl,j,b,c⟩
   ·rw[cb g]at c;cases c
def tLR(ta:TA):TE:=λσ H Q=>ta σ H λvs H1=>∃n:Int,vs=[.int n]/\n<=du /\ -du<=n/\∀l,H1 l=none->Q (.ref l) (upd H1 l (.lst ((j9 n).map V.int)))
theorem uY:∀{ns:ae} {a:az},a.length=ns.length->(∀(i:Nat) (u:Value),a[i]?=some u->∃t,u=.int (ns.getD i 0) t)->Vals (ns.map V.int) a
 |[],[],_,_=>.nil
 |[],_::_,h,_=>by simp at h
 |_::_,[],h,_=>by simp at h
 |n::ns,u::a,h,hu=>.cons (hu 0 u rfl) (uY (by simpa using h) λi v b=>hu (i+1) v b)
def Bi{p:Pos}(O:X.calm=true)(P8:Gl X "list")(Z:X.mg "list" = none)(M:Gl X "range")(E:X.mg "range" = none)(U:PA X [e1] ta)(hs:starEach [e1] X.env=[(false,eval e1 X.env)]):
  PE X (.Call (.Name "list" p') [.Call (.Name "range" p) [e1] [] pos] [] pos') (tLR ta):=by
 intro pins s σ H Q I h;refine aaJ (d_ I P8 Z boot_list ?_);refine aar ?_;show wpAny _ _ (spliced ((false,eval (.Call (.Name "range" p) [e1] [] pos) X.env)::backTo pos' (starEach [] X.env))) _ _ s;refine abv ?_;refine Call_ (d_ I M E boot_range (aar (dH (U pos pins s σ H _ I h) λus a Y=>?_) hs rfl));obtain⟨vs,H1,g,q,v⟩:=Y;obtain⟨n,e,n1,y,B⟩:=v;subst e;have Xv:n<=1000000:=n1;have x:-1000000<=n:=y;cases q with
 |cons r m =>
  cases m;obtain⟨t,rfl⟩:=r;refine call_range_1 (abz ?_);have e2:Builtin.Range.rangeSize 0 n 1=((n.toNat:Nat):Int):=by rw[rangeSize_one];split<;>left
  refine call_list_range (g.ok.hd O) (IsRange.new ..) (small_one (by left) (by left) (by left) (by left)) e2 (by left) λh' l d c' J W j=>?_;have keep:∀b o,a.heap.get? b=some o->h'.get? b=some o:=λb o e=>J b o (aag _ e);have c:d.size=n.toNat:=j.1;refine⟨.ref _,upd H1 _ (.lst ((j9 n).map V.int)),g.laid (t':=l) keep ?_ ⟨?_,d.toList,c',?_,?_⟩,rfl,B _ (g.cD.fresh ?_)⟩
  ·show a.heap.objs.size<=(a.heap.push _).objs.size;simp[Heap.push]
  ·rw[sizeLine_eq];simp[j9];left
  ·refine uY (by simp[j9,c]) λi u z=>?_;have k:d[i]?=some u:=by simpa using z
   have L:i<n.toNat:=by rw[<- c];exact(Array.getElem?_eq_some_iff.mp k).1
   obtain⟨t,rfl⟩:=j.2 i u k;refine⟨t,?_⟩;have:(j9 n).getD i 0=(i:Int):=by unfold j9;simp[List.getD,L]
   rw[this];congr 1;left
  ·rw[oC];exact W
  ·show a.heap.objs.size<=(a.heap.push _).objs.size;simp[Heap.push]
def R5:Cc AB Na:=by
 intro Φ n r X sc bl k L e args J F cs j;obtain⟨p,pos,i,rfl,W,U,I⟩:=F6 J;obtain⟨p',pos',a,rfl,rfl,O,M⟩:=gk I;cases cs with
 |nil=>exact j.elim
 |cons c cs=>cases cs with
  |cons _ _=>exact j.2.2.2.elim
  |nil =>
   have y:PA X [a] (sH X F Φ [c]):=PA.imp (cy j.1 (PA.imp d7 λ_ _ _ h=>iH h) (j.2.1 _)) λ_ _ _ h=>fH h;have this:PE X (.Call (.Name ("list" : Str) p) [.Call (.Name ("range" : Str) p') [a] [] pos'] [] pos) (tD X F Φ (.cL n [c])):=by
    refine PE.imp (Bi L.calm (L.gl W) (L.bl _ U) (L.gl O) (L.bl _ M) y (j.2.1 _)) λσ H Q s=>?_;obtain⟨R,τ,ρ,d,Z,q,s⟩:=s;obtain⟨xs,Y,q⟩:=aC q;rw[r]at q;obtain⟨m,rfl,E,B,rfl⟩:=M_ q;refine⟨R,τ,ρ,_,Z,Y,λvs H1 e1 x=>?_⟩;obtain⟨τt,fr,u⟩:=x;obtain⟨v,rfl,t⟩:=u.one;cases t;refine⟨m,rfl,E,B,λl hl=>s _ _ ?_ ?_⟩
    ·intro b o e;have g:=e1 b o e;rw[bp λz=>by rw[z,hl]at g;cases g];exact g
    ·refine b_.qK (e1.free hl) (λb o e=>?_) aZ (my _);have g:=e1 b o e;rw[bp λz=>by rw[z,hl]at g;cases g];exact g
   exact⟨this,cK this λ_=>rfl⟩
section
variable {α β:Type}
noncomputable def cJ:aL->List α->ae->Option α
 |c'::cs,v::vs,c=>if c'=c then some v else cJ cs vs c
 |_,_,_=>none
noncomputable def setC:aL->List α->ae->α->List α
 |c'::cs,v'::vs,c,v=>(if c'=c then v else v')::setC cs vs c v
 |_,_,_,_=>[]
noncomputable def dw(cs:aL)(c:ae):aL:=if c∈cs then cs else cs++[c]
noncomputable def xf(cs:aL)(as:List α)(c:ae)(a:α):List α:=if c∈cs then as else as++[a]
def cq(cs:aL)(vs:List α)(c:ae)(v:α):List α:=if c∈cs then setC cs vs c v else vs++[v]
end
section
variable {zs:List (ae×Addr×Value)}{c:ae}
theorem mJ:∀(zs:List (ae×Addr×Value)) (c:ae),(atKey zs c).map (·.2)=cJ (zs.map (·.1)) (zs.map (·.2.2)) c
 |[],_=>rfl
 |z::zs,c=>by
  have a:=mJ zs c;unfold atKey at a ⊢;rw[List.find?_cons];show _=if z.1=c then some z.2.2 else cJ (zs.map (·.1)) (zs.map (·.2.2)) c
  by_cases e:z.1=c
  ·rw[lZ e,cc e];rfl
  ·rw[fu e,cb e];exact a
theorem fq:∀(zs:List (ae×Addr×Value)) (c:ae),(atKey zs c).isSome=true ↔ c∈zs.map (·.1)
 |[],c=>by simp[atKey]
 |z::zs,c=>by
  have a:=fq zs c;unfold atKey at a ⊢;rw[List.find?_cons,dx,ft];by_cases e:z.1=c
  ·rw[lZ e];simp[e]
  ·rw[fu e];rw[a];exact⟨.inr,λh=>h.resolve_left λz=>e z.symm⟩
def mV(a:Addr)(v:Value):(storedH zs c a v).map (·.1)=dw (zs.map (·.1)) c:=by
 unfold storedH dw;by_cases h:c∈zs.map (·.1)
 ·rw[cc ((fq zs c).mpr h),cc h,fb];refine aay λz _=>?_;show(putAt c v z).1=z.1;unfold putAt;split<;>rfl
 ·rw[cb (λz=>h ((fq zs c).mp z)),cb h,f6];rfl
def vj(a:Addr)(v:Value):(storedH zs c a v).map (·.2.1)=xf (zs.map (·.1)) (zs.map (·.2.1)) c a:=by
 unfold storedH xf;by_cases h:c∈zs.map (·.1)
 ·rw[cc ((fq zs c).mpr h),cc h,fb];refine aay λz _=>?_;show(putAt c v z).2.1=z.2.1;unfold putAt;split<;>rfl
 ·rw[cb (λz=>h ((fq zs c).mp z)),cb h,f6];rfl
theorem vB(v:Value):∀zs:List (ae×Addr×Value),(zs.map (putAt c v)).map (·.2.2)=setC (zs.map (·.1)) (zs.map (·.2.2)) c v
 |[]=>rfl
 |z::zs=>by
  show(putAt c v z).2.2::((zs.map (putAt c v)).map (·.2.2))=(if z.1=c then v else z.2.2)::setC (zs.map (·.1)) (zs.map (·.2.2)) c v;rw[vB v zs];unfold putAt;by_cases e:z.1=c
  ·rw[cc e,cc e]
  ·rw[cb e,cb e]
def vi(a:Addr)(v:Value):(storedH zs c a v).map (·.2.2)=cq (zs.map (·.1)) (zs.map (·.2.2)) c v:=by
 unfold storedH cq;by_cases h:c∈zs.map (·.1)
 ·rw[cc ((fq zs c).mpr h),cc h];exact vB v zs
 ·rw[cb (λz=>h ((fq zs c).mp z)),cb h,f6];rfl
end
theorem uX{c:ae}{v:V}{u:Value}(r:RelV v u):∀{cs:aL} {xs:ah} {a:az},Vals xs a->Vals (setC cs xs c v) (setC cs a c u)
 |[],_,_,h=>by cases h<;>exact .nil
 |c'::cs,_,_,h=>by
  cases h with
  |nil=>exact .nil
  |cons h t =>
   refine .cons ?_ (uX r t);show RelV (if c'=c then v else _) (if c'=c then u else _);by_cases e:c'=c
   ·rw[cc e,cc e];exact r
   ·rw[cb e,cb e];exact h
theorem qZ{v:V}{u:Value}(r:RelV v u):∀{xs:ah} {a:az},Vals xs a->Vals (xs++[v]) (a++[u])
 |_,_,.nil=>.cons r .nil
 |_,_,.cons h t=>.cons h (qZ r t)
def CH{cs:aL}{a:az}(h:Vals xs a){c:ae}{v:V}{u:Value}(r:RelV v u):Vals (cq cs xs c v) (cq cs a c u):=by
 unfold cq;by_cases e:c∈cs
 ·rw[cc e,cc e];exact uX r h
 ·rw[cb e,cb e];exact qZ r h
theorem oK:∀{cs:aL} {xs:ah} {a:az} (_:Vals xs a) (c:ae),uP (cJ cs xs c) (cJ cs a c)
 |[],_,_,_,_=>by cases ‹Vals _ _› <;> exact True.intro
 |c'::cs,_,_,h,c=>by
  cases h with
  |nil=>exact True.intro
  |cons h t =>
   show uP (if c'=c then some _ else _) (if c'=c then some _ else _);by_cases e:c'=c
   ·rw[cc e,cc e];exact h
   ·rw[cb e,cb e];exact oK t c
section
variable {X:Cx}{pins:av}{σ:St}{H:Hp}{s:Shared}{p b:Addr}{cs:aL}{as:bj}{xs:ah}{ep:Nat}{c:ae}{A:aN}{E:aD}
theorem items_int:∀{c:ae} {aR:az},Vals (c.map V.int) aR->ItemsAre (intKind X.prog X.w) c aR
 |[],_,h=>by cases h;exact .nil
 |i::c,_,h=>by
  cases h with
  |cons h t =>
   obtain⟨t',rfl⟩:=h;exact .cons (by simp[intKind,Value.isInt]) (items_int t)
def tQ(I:Inv X pins σ H s)(h:bc X.K H b (c.map V.int)):(tupleKind (intKind X.prog X.w)).is s.heap c b:=by
 obtain⟨aR,a,⟨o,g,e,n,d⟩,_⟩:=I.tuple h;exact⟨o,aR.toArray,n,g,e,d,by simpa using items_int a⟩
def ue(I:Inv X pins σ H s)(h:H p=some (.ext (DO p cs as xs ep)))(k:fO (bc X.K H) as cs):
  ∃(zs:List (ae×Addr×Value)) (o:Obj) (es:Array DictEntry),zs.map (·.1)=cs/\zs.map (·.2.1)=as/\Vals xs (zs.map (·.2.2))/\s.heap.get? p=some o/\o.ExactDict/\o.data=.dict es ep /\
   s.heap.DictOfH (tupleKind (intKind X.prog X.w)) p zs/\es.toList=zs.map (entryOfKey (tupleKind (intKind X.prog X.w)))/\cs.length<=sizeLine/\(p==sysModules)=false:=by
 obtain⟨⟨zs,o,es,e1,e2,q,d,a,i,g,n,hl,m⟩,_⟩:=(show c_ H s.heap p (.ext (DO p cs as xs ep)) from I.cD p _ h)
 refine⟨zs,o,es,e1,e2,q,d,a,i,⟨o,es,ep,d,a,i,g,λz l=>?_,by rw[e1];exact n⟩,g,hl,m⟩;obtain⟨j,e⟩:=List.mem_iff_getElem?.mp l;exact tQ I (k.tup j z.2.1 z.1 (by rw[<- e2,List.getElem?_map,e];rfl) (by rw[<- e1,List.getElem?_map,e];rfl))
def dict_cls(I:Inv X pins σ H s)(h:H p=some (.ext (DO p cs as xs ep))):s.TypeIs (.ref p) "dict" /\ ∀b,Value.ref p=.ref b->∃a,s.heap.get? b=some a/\a.dict=none:=by
 obtain⟨⟨g,o,es,e1,e2,i,e,d,_⟩,_⟩:=(show c_ H s.heap p (.ext (DO p cs as xs ep)) from I.cD p _ h)
 exact⟨⟨o,e,d.1⟩,λb q=>by cases q;exact⟨o,e,d.2.1⟩⟩
def JO{d:V}{r:Value}{Q:aD}(n:A.units+1<cLine)(I:Inv X pins σ H s)(h:H p=some (.ext (DO p cs as xs ep)))(k:fO (bc X.K H) as cs)(x:bc X.K H b (c.map V.int))(m:RelV d r)(y:∀e g,Inv X pins σ H g->RelV ((cJ cs xs c).getD d) e->Q e g):
  wpAny (model X.prog X.w) A (call (.builtin "dict.get") [.ref p,.ref b,r]) Q E s:=by
 obtain⟨j,o,es,e1,e2,z,L,J,M,i,_,hl,t⟩:=ue I h k;refine call_meetsIn PySem.F.slot_dict_get i.typeIs PySem.F.entry_dict_get (PySem.F.args_dict_get_3 _ _ _) (meetsH_dict_get_default (tupleKind (intKind X.prog X.w)) p b t r) ⟨acs n,c,j,tQ I x,i,y _ _ (I.tok _) ?_⟩;rw[mJ,e1];have a:=oK (cs:=cs) z c;cases q:cJ cs xs c with
 |none =>
  rw[q]at a;rw[uP.none_of a];exact m
 |some v =>
  rw[q]at a;obtain⟨u,B,l⟩:=uP.some_of a;rw[B];exact l
def yL{v:V}{r:Value}{Q:Unit->Shared->Prop}(u:A.units+1<cLine)(I:Inv X pins σ H s)(h:H p=some (.ext (DO p cs as xs ep)))(k:fO (bc X.K H) as cs)(g:bc X.K H b (c.map V.int))(l:RelV v r)(gH:cs.length<sizeLine)
  (B:∀i j,Inv X pins σ (upd H p (.ext (DO p (dw cs c) (xf cs as c b) (cq cs xs c v) i))) j->Q () j) :
  wpAny (model X.prog X.w) A (setItem (.ref p) (.ref b) r) Q E s:=by
 obtain⟨d,o,es,e1,e2,e3,ho,hx,hd,dd,_,hl,y⟩:=ue I h k;have t:d.length<=sizeLine:=by rw[<- e1,b4]at hl;exact hl
 refine wpAny_setItem_heap (hsz:=t) (acs u) (tQ I g) dd λh' ZG EM=>?_;obtain⟨q,Qf,i,e,O,M,L,_,J⟩:=ZG;refine B i _ (I.write (x:=p) (by rw[h];exact True.intro) (λb q g z=>(EM.2 b g).trans z) ⟨q,e⟩ ⟨⟨storedH d c b r,q,Qf,?_,?_,?_,e,O,M,L,?_,?_,y⟩,⟨q,e⟩,?_⟩)
 ·rw[mV,e1]
 ·rw[vj,e1,e2]
 ·rw[vi,e1];exact CH e3 l
 ·rw[<- e1,<- mV (zs:=d) (c:=c) b r];exact J
 ·unfold dw;split
  ·exact hl
  ·rw[c8,hL];left
 ·rintro h1 VS ⟨U8,m,a,f1,Z,Y,W,U⟩ n;exact⟨U8,m,a,f1,Z,Y,n _ W,U⟩
def Ia:PE X (.Dict [] [] pos) (λ_ H Q=>∀p,H p=none->Q (.ref p) (upd H p (.ext (DO p [] [] [] 0)))):=λpins s σ H Q I h=>by
 have r:sysModules<s.heap.objs.size:=abZ (by decide) (show mainGlobals<s.heap.objs.size from(I.mod.glob.keeps I.bk).lt);refine wpAny_Dict_empty ⟨.ref s.heap.objs.size,_,I.laid (a:=s.heap.objs.size) (o:=.ext (DO s.heap.objs.size [] [] [] 0)) (t':=s.toks) (λ_ _ q=>aag _ q) (aaj _) ?_,rfl,h _ (I.cD.fresh (aaj _))⟩;have e:(s.heap.push { cls:=.type "dict",data:=.dict #[] }).get? s.heap.objs.size=some { cls:=.type "dict",data:=.dict #[] }:=aao _ rfl;refine⟨⟨[],_,#[],rfl,rfl,.nil,e,⟨rfl,rfl,rfl⟩,rfl,rfl,ab3,aa3 _,beq_eq_false_iff_ne.mpr (ab0 (aan r))⟩,⟨_,e⟩,?_⟩;rintro u v ⟨t,g,d,n,m,l,k,j⟩ i;exact⟨t,g,d,n,m,l,i _ k,j⟩
end
def jS{k:bu}{v:V}{d:D}(h:Rep T N k v d)(hf:bh anyF d=false):Rep T N' k' v d:=by
 have:=Rep.gen (T':=T) (N':=N') (g:=id) (P:=anyF) (C:=λ_ _=>True) (I:=λ_ _=>True) (λ_ _ h=>h) trivial (λ_ _ e=>e) (λ_ _ _ _ e _=>e) (λk k' p xs f _ a _=>nomatch a) h (k':=k') trivial hf;rw[fB]at this;exact this
theorem oX{T:m9}{N:jk}:∀{cs:aL} {k:bu} {n:Nat} {xs:ah} {ds:aa} (_:aF T N k n xs ds) (c:ae),(cJ cs xs c=none/\cJ cs ds c=none)\/∃v d k',cJ cs xs c=some v/\cJ cs ds c=some d/\Rep T N k' v d/\d∈ds
 |[],_,_,_,_,_,_=>by cases ‹aF _ _ _ _ _ _› <;> exact .inl ⟨rfl,rfl⟩
 |c'::cs,_,_,_,_,r,c=>by
  cases r with
  |nil=>exact .inl ⟨rfl,rfl⟩
  | @cons _ _ v d vs ds h t =>
   by_cases e:c'=c
   ·exact .inr ⟨v,d,_,aa4 e,aa4 e,h,aak⟩
   ·have e1:∀{b:Type} (a:b) (l:List b),cJ (c'::cs) (a::l) c=cJ cs l c:=λa l=>acB e;rw[e1,e1];rcases oX (cs:=cs) t c with h|⟨v',d',k',m,j,i,g⟩
    ·exact .inl h
    ·exact .inr ⟨v',d',k',m,j,i,aai _ g⟩
theorem rQ{p:Fl->Bool}:∀{ds:aa},aU p ds=false->∀d∈ds,bh p d=false
 |[],_,_,h=>nomatch h
 |d::ds,h,d',hd=>by
  have h:=D3 h;rcases List.mem_cons.mp hd with rfl|hd
  ·exact h.1
  ·exact rQ h.2 d' hd
theorem vy{T:m9}{N:jk}{c:ae}{v:V}{d:D}(a:∀k,Rep T N k v d):∀{cs:aL} {k:bu} {n:Nat} {xs:ah} {ds:aa},aF T N k n xs ds->aF T N k n (setC cs xs c v) (setC cs ds c d)
 |[],_,_,_,_,r=>by cases r<;>exact .nil
 |c'::cs,_,_,_,_,r=>by
  cases r with
  |nil=>exact .nil
  |cons h t =>
   refine .cons ?_ (vy a t);show Rep _ _ _ (if c'=c then v else _) (if c'=c then d else _);by_cases e:c'=c
   ·rw[cc e,cc e];exact a _
   ·rw[cb e,cb e];exact h
theorem rq{T:m9}{N:jk}{v:V}{d:D}(a:∀k,Rep T N k v d):∀{k:bu} {n:Nat} {xs:ah} {ds:aa},aF T N k n xs ds->aF T N k n (xs++[v]) (ds++[d])
 |_,_,_,_,.nil=>.cons (a _) .nil
 |_,_,_,_,.cons h t=>.cons h (rq a t)
def Dv{c:ae}{v:V}{d:D}(a:∀k,Rep T N k v d){cs:aL}{k:bu}{n:Nat}(r:aF T N k n xs ds):aF T N k n (cq cs xs c v) (cq cs ds c d):=by
 unfold cq;by_cases e:c∈cs
 ·rw[cc e,cc e];exact vy a r
 ·rw[cb e,cb e];exact rq a r
def Ez{cs:aL}(k:fO T as cs){b:Addr}{c:ae}(n:T b (c.map V.int)):fO T (xf cs as c b) (dw cs c):=by
 unfold xf dw;by_cases e:c∈cs
 ·rw[cc e,cc e];exact k
 ·rw[cb e,cb e];refine⟨by rw[c8,c8,k.len];rfl,λj a c' d g=>?_⟩;by_cases l:j<as.length
  ·rw[List.getElem?_append_left l]at d;rw[List.getElem?_append_left (by rw[<- k.len];exact l)]at g;exact k.tup j a c' d g
  ·rw[List.getElem?_append_right (by left)]at d;rw[List.getElem?_append_right (by rw[<- k.len];left),<- k.len]at g;cases i:j - as.length with
   |zero =>
    rw[i]at d g;cases d;cases g;exact n
   |succ m=>rw[i]at d;cases d
def b_.newD{p:Addr}(e:H p=none)(hl:H' p=some (.ext (DO p [] [] [] 0))):b_ K G R τ fv H H' (.ref p) (.cX .ow [] []):=by
 refine⟨λq=>if q=p then some []else none,λq k d=>?_,.cX (ep:=0) (as:=[]) (xs:=[]) ⟨hl,by simp⟩ ⟨rfl,λj a c h=>by simp at h⟩ .nil⟩;by_cases b:q=p
 ·subst b;exact e
 ·simp[b]at d
noncomputable def FK(xs:aa):O D:=match xs with
 |[]=>ok (.cX .ow [] [])
 |_::_=>none
noncomputable def um(_:Scope)(_:aq)(e:Expr):Option (ao):=match e with
 |.Dict [] [] _=>some []
 |_=>none
def JJ:Cc um FK:=by
 intro Φ n c X m bl k L e args a F cs j;have l:∃pos,e=.Dict [] [] pos/\args=[]:=by
  unfold um at a;split at a
  ·cases a;exact⟨_,rfl,rfl⟩
  ·cases a
 obtain⟨pos,rfl,rfl⟩:=l;cases cs with
 |cons _ _=>exact j.elim
 |nil =>
  have this:PE X (.Dict [] [] pos) (tD X F Φ (.cL n [])):=by
   refine PE.imp (Ia (X:=X) (pos:=pos)) λσ H Q g p i=>?_;obtain⟨R,τ,ρ,d,q,b,g⟩:=g;have b:Φ n []=ok d:=b;rw[c]at b;cases b;exact g _ _ (aM.upd i) (b_.newD i aZ)
  exact⟨this,cK this λ_=>rfl⟩
noncomputable def three{d:Type}:List d->Option (d×d×d)
 |[a,b,c]=>some (a,b,c)
 |_=>none
def vd{e:Type}{l:List e}{z:e×e×e}(h:three l=some z):l=[z.1,z.2.1,z.2.2]:=by
 rcases l with _|⟨a,_|⟨b,_|⟨c,_|⟨d,l⟩⟩⟩⟩<;>cases h;rfl
noncomputable def ir:D->Option (aL×aa)
 |.cX _ cs vs=>some (cs,vs)
 |_=>none
def keyOf:D->Option (ae)
 |.tup a=>intsOf a
 |_=>none
def lP{d:D}{z:aL×aa}(h:ir d=some z):∃f,d=.cX f z.1 z.2:=by
 cases d<;>first | (cases h;done) | (cases h;exact⟨_,rfl⟩)
def pk{d:D}{c:ae}(h:keyOf d=some c):d=.tup (c.map D.int):=by
 cases d<;>first | (cases h;done)|skip
 rw[dJ (show intsOf _=some c from h)]
def FP(xs:aa):O D:=match two xs with
 |some z=>match ir z.1 with
  |some d=>match keyOf z.2 with
   |some c=>match cJ d.1 d.2 c with
    |some v=>if bh anyF v=false then ok v else none
    |none=>none
   |none=>none
  |none=>none
 |none=>none
def JL{xs:aa}{r:D}(h:FP xs=ok r):∃f cs vs c,xs=[.cX f cs vs,.tup (c.map D.int)]/\cJ cs vs c=some r/\bh anyF r=false:=by
 unfold FP at h;cases g:two xs with
 |none=>rw[g]at h;cases h
 |some z =>
  rw[g]at h;have h:(match ir z.1 with|some d=>(match keyOf z.2 with|some c=>(match cJ d.1 d.2 c with|some v=>if bh anyF v=false then ok v else none|none=>none)|none=>none)|none=>none)=ok r:=h;cases e:ir z.1 with
  |none=>rw[e]at h;cases h
  |some d =>
   rw[e]at h;have h:(match keyOf z.2 with|some c=>(match cJ d.1 d.2 c with|some v=>if bh anyF v=false then ok v else none|none=>none)|none=>none)=ok r:=h;cases b:keyOf z.2 with
   |none=>rw[b]at h;cases h
   |some c =>
    rw[b]at h;have h:(match cJ d.1 d.2 c with|some v=>if bh anyF v=false then ok v else none|none=>none)=ok r:=h;cases a:cJ d.1 d.2 c with
    |none=>rw[a]at h;cases h
    |some v =>
     rw[a]at h;obtain⟨i,rfl⟩:=mz (show(if bh anyF v=false then ok v else none)=ok r from h);obtain⟨f,e1⟩:=lP e;exact⟨f,d.1,d.2,c,by rw[jl g,e1,pk b],a,i⟩
def Xf(K:ak):R2:=λx y H Q=>∃p b cs as xs ep c v,x=.ref p/\y=.ref b/\H p=some (.ext (DO p cs as xs ep))/\fO (bc K H) as cs/\bc K H b (c.map V.int)/\cJ cs xs c=some v/\Q v H
def IG(m:X.A.units+1<cLine):Lr X (Xf X.K):=by
 intro value slice pins s σ H x y v u Q I k j h n;obtain⟨p,b,cs,as,xs,ep,c,w,rfl,rfl,t,z,E,B,q⟩:=h;cases k;cases j;obtain⟨g,o,es,e1,e2,J,O,M,U,e,_,hl,W⟩:=ue I t z;have a:=oK (cs:=cs) J c;rw[B]at a;obtain⟨u,L,l⟩:=uP.some_of a;have:(atKey g c).map (·.2)=some u:=by rw[mJ,e1];exact L
 obtain⟨q',d,rfl⟩:=Option.map_eq_some_iff.mp this;exact ab8 (x:=q'.2) e.typeIs PySem.F.slot_dict_getitem.lookup
  (wpAny_getItem_heap (Q:=λr i=>r=q'.2/\EP X pins σ Q r i) (acs m) (tQ I E) e d ⟨rfl,w,H,I.tok _,l,q⟩) n
def yQ(_:Scope)(_:aq)(e:Expr):Option (ao):=match xI e with
 |some z=>some [z.1,z.2]
 |none=>none
def O2:Cc yQ FP:=by
 intro Φ n i X sc bl k L e args a F cs p;unfold yQ at a;cases l:xI e with
 |none=>rw[l]at a;cases a
 |some z =>
  rw[l]at a;cases a;obtain⟨pos,rfl⟩:=k8 l;obtain⟨⟨c1,s,rfl,p1,p2⟩,_⟩:=o5 p;have this:PE X (.Subscript z.1 z.2 pos) (tD X F Φ (.cL n [c1,s])):=by
   refine PE.imp (Kz (IG (EK L.room)) p1 p2 p.2.2.2.2.2.1) λσ H Q j=>?_;obtain⟨R,τ,ρ,d,t,g,j⟩:=j;obtain⟨xs,b,g⟩:=aC g;rw[i]at g;obtain⟨f,cs,vs,c,rfl,q,hf⟩:=JL g;obtain⟨x,ex,b⟩:=aC b;obtain⟨ys,U,b⟩:=aC b;obtain⟨y,ey,Zg⟩:=aC U;cases Zg;cases b;refine tD.intro t ex λv H1 e1 J=>tD.intro (t.go e1) ey λu H2 e2 I=>?_;obtain⟨E,f1,O⟩:=J;obtain⟨B,f2,M⟩:=I;cases O with
   |cX Z hk Y=>cases M with
    |tup W SA =>
     cases SA.ofInts;rcases oX Y c with ⟨_,m⟩|⟨w,d',k',g1,r,g3,_⟩
     ·rw[q]at m;cases m
     ·rw[q]at r;cases r;refine⟨_,_,_,_,_,_,c,w,rfl,rfl,e2 _ _ Z.dat,hk.imp λ_ _ h=>bc.same e2 h,W,g1,j w H2 (e1.trans e2) ⟨λ_=>none,λ_ _ h=>by simp at h,?_⟩⟩;exact(jS (N':=nd X.K R (kN (gP X F) τ (iE (.cL n [c1,s]))) (λ_=>none) H1) (k':=[]) g3 hf).imp (λ_ _ h=>bc.same e2 h) λ_ _ _ _ h=>nd.same e2 h
  exact⟨this,cK this λ_=>rfl⟩
def wH(xs:aa):O D:=match three xs with
 |some z=>match ir z.1 with
  |some d=>match keyOf z.2.1 with
   |some c=>if aU anyF d.2=false/\bh anyF z.2.2=false then ok ((cJ d.1 d.2 c).getD z.2.2)else none
   |none=>none
  |none=>none
 |none=>none
def FQ{xs:aa}{r:D}(h:wH xs=ok r):∃f cs vs c x,xs=[.cX f cs vs,.tup (c.map D.int),x]/\aU anyF vs=false/\bh anyF x=false/\r=(cJ cs vs c).getD x:=by
 unfold wH at h;cases e:three xs with
 |none=>rw[e]at h;cases h
 |some z =>
  rw[e]at h;have h:(match ir z.1 with|some d=>(match keyOf z.2.1 with|some c=>if aU anyF d.2=false/\bh anyF z.2.2=false then ok ((cJ d.1 d.2 c).getD z.2.2)else none|none=>none)|none=>none)=ok r:=h;cases b:ir z.1 with
  |none=>rw[b]at h;cases h
  |some d =>
   rw[b]at h;have h:(match keyOf z.2.1 with|some c=>if aU anyF d.2=false/\bh anyF z.2.2=false then ok ((cJ d.1 d.2 c).getD z.2.2)else none|none=>none)=ok r:=h;cases a:keyOf z.2.1 with
   |none=>rw[a]at h;cases h
   |some c =>
    rw[a]at h;obtain⟨⟨i,g⟩,rfl⟩:=mz (show(if aU anyF d.2=false/\bh anyF z.2.2=false then ok ((cJ d.1 d.2 c).getD z.2.2)else none)=ok r from h);obtain⟨f,e1⟩:=lP b;exact⟨f,d.1,d.2,c,z.2.2,by rw[vd e,e1,pk a],i,g,rfl⟩
def uo(_:Scope)(_:aq)(e:Expr):Option (ao):=(ze ("get" : Str) (.Expr e ⟨0,0,0,0⟩)).bind λz=>(two z.2).bind λy=>if isNm z.1=true then some [z.1,y.1,y.2]else none
def yR{sc:Scope}{bl:aq}{e:Expr}(h:uo sc bl e=some args):∃x p p1 p2 a b,e=.Call (.Attribute (.Name x p) ("get" : Str) p1) [a,b] [] p2/\args=[.Name x p,a,b]/\(p1.endLine==p2.line)=true:=by
 obtain⟨⟨o,as⟩,g,h⟩:=bT h;obtain⟨⟨a,b⟩,d,h⟩:=bT h;obtain⟨c,h⟩:=gT h;cases h;obtain⟨x,p,rfl⟩:=nW c;obtain rfl:=jl d;obtain⟨p1,p2,pos,e1,hl⟩:=oM g;cases e1;exact⟨x,p,p1,p2,a,b,rfl,rfl,hl⟩
def Bj{x:Str}{p:Pos}{a b:Expr}{l:TE}(L:X.A.units+1<cLine)(M:PE X (.Name x p) l)(Y:PA X [a,b] ta)(m:∀es,starEach (a::es) X.env=(false,eval a X.env)::starEach es X.env)(s2:∀es,starEach (b::es) X.env=(false,eval b X.env)::starEach es X.env)(hl:(p1.endLine==p2.line)=true):
  PE X (.Call (.Attribute (.Name x p) ("get" : Str) p1) [a,b] [] p2) (λσ H Q=>l σ H λv H1=>∃q cs as xs ep,v=.ref q/\H1 q=some (.ext (DO q cs as xs ep))/\ta σ H1 λys H2=>∃k c z,ys=[.ref k,z]/\H2 q=some (.ext (DO q cs as xs ep))/\fO (bc X.K H2) as cs/\bc X.K H2 k (c.map V.int)/\Q ((cJ cs xs c).getD z) H2):=by
 intro pins s σ H Q I h;refine wpAny_Call_method rfl (by rw[m,s2];rfl) hl PySem.F.plainAttrs_dict PySem.F.slot_dict_get PySem.F.type_dict_get (dH (M pins s σ H _ I h) λu d j=>?_);obtain⟨v,H1,r,t,q,cs,as,xs,ep,ex,U,E⟩:=j;subst ex;obtain rfl:u=Value.ref q:=t;obtain⟨t1,t2⟩:=dict_cls r U;refine⟨t1,t2,?_⟩;have n:=Y p2 pins d σ H1 _ r E;rw[m]at n ⊢;refine Calls.callWith_builtin (by show(false||(backTo p2 (starEach [b] X.env)).any (·.1))=false;rw[s2];rfl) (aci ?_);refine dH n λus s3 j=>?_;obtain⟨ys,H2,I2,y,k,c,z,Z,i,O,W,B⟩:=j;subst Z;obtain⟨w1,w2,rfl,g,e⟩:=vals2 y;cases g;exact JO L I2 i O W e λw' s4 I4 J=>⟨_,H2,I4,J,B⟩
def JM:Cc uo wH:=by
 intro Φ n j X sc bl k L e args he F cs r;obtain⟨x,p,p1,p2,a,b,rfl,rfl,hl⟩:=yR he;cases cs with
 |nil=>exact r.elim
 |cons u cs =>
  obtain⟨h0,_,_,VI⟩:=r;obtain⟨⟨c1,t,rfl,_,_⟩,Y,J,I⟩:=o5 VI;have this:PE X (.Call (.Attribute (.Name x p) ("get" : Str) p1) [a,b] [] p2) (tD X F Φ (.cL n [u,c1,t])):=by
   refine PE.imp (Bj (EK L.room) h0 Y J I hl) λσ H Q l=>?_;obtain⟨R,τ,ρ,d,z,i,l⟩:=l;obtain⟨xs,g,i⟩:=aC i;rw[j]at i;obtain⟨f,cs,vs,c,y,rfl,hf,hy,rfl⟩:=FQ i;obtain⟨x0,ex,g⟩:=aC g;obtain⟨ys,Z,g⟩:=aC g;cases g;refine tD.intro z ex λv H1 e1 O=>?_;obtain⟨E,f1,W⟩:=O;cases W with
   |cX s hk hr =>
    refine⟨_,_,_,_,_,rfl,s.dat,R,τ,ρ,_,z.go e1,Z,λus H2 e2 M=>?_⟩;obtain⟨B,f2,U⟩:=M;obtain⟨u1,u2,rfl,W8,W7⟩:=U.two;obtain⟨_,_,rfl,ht,SA⟩:=W8.LG;cases SA.ofInts;refine⟨_,c,u2,rfl,e2 _ _ s.dat,hk.imp λ_ _ h=>bc.same e2 h,ht,?_⟩;refine l _ H2 (e1.trans e2) ⟨λ_=>none,λ_ _ h=>by simp at h,?_⟩;rcases oX hr c with ⟨q,m⟩|⟨w,d',k',q,m,g3,g4⟩
    ·rw[q,m];exact jS (T:=bc X.K H2) W7 hy
    ·rw[q,m];exact(jS (N':=nd X.K R (kN (gP X F) τ (iE (.cL n [u,c1,t]))) (λ_=>none) H1) (k':=[]) g3 (rQ hf _ g4)).imp (λ_ _ h=>bc.same e2 h) λ_ _ _ _ h=>nd.same e2 h
  exact⟨this,cK this λ_=>rfl⟩
def wF(xs:aa):O D:=match three xs with
 |some z=>match z.1 with
  |.cX f cs vs=>match keyOf z.2.2 with
   |some c=>if cO f=true/\bh anyF z.2.1=false/\cs.length<du then ok (.cX .ow (dw cs c) (cq cs vs c z.2.1))else none
   |none=>none
  |_=>none
 |none=>none
def wD{d:D}{xs:aa}{r:D}(h:wF (d::xs)=ok r):∃cs vs c x,d=.cX .ow cs vs/\xs=[x,.tup (c.map D.int)]/\bh anyF x=false/\cs.length<du/\r=.cX .ow (dw cs c) (cq cs vs c x):=by
 unfold wF at h;cases b:three (d::xs)with
 |none=>rw[b]at h;cases h
 |some z =>
  rw[b]at h;have e0:=vd b;obtain⟨d',x,y⟩:=z;obtain⟨rfl,rfl⟩:d=d'/\xs=[x,y]:=aa_ e0;cases d<;>first | (cases h;done)|skip
  rename_i f cs vs;have h:(match keyOf y with|some c=>if cO f=true/\bh anyF x=false/\cs.length<du then ok (D.cX .ow (dw cs c) (cq cs vs c x))else none|none=>none)=ok r:=h;cases a:keyOf y with
  |none=>rw[a]at h;cases h
  |some c =>
   rw[a]at h;obtain⟨⟨g,e,hl⟩,rfl⟩:=mz (show(if cO f=true/\bh anyF x=false/\cs.length<du then ok (D.cX .ow (dw cs c) (cq cs vs c x))else none)=ok r from h);cases f<;>first | (cases g;done)|exact⟨cs,vs,c,x,rfl,by rw[pk a],e,hl,rfl⟩
def uk(_:Scope)(_:aq)(st:Stmt):Option (Expr×ao):=(CO st).bind λz=>(one z.1).bind λt=>(xI t).bind λy=>some (y.1,[z.2,y.2])
def yP{sc:Scope}{bl:aq}(h:uk sc bl st=some (o,args)):∃v i pos' pos,st=.Assign [.Subscript o i pos'] v pos/\args=[v,i]:=by
 obtain⟨⟨d,v⟩,c,h⟩:=bT h;obtain⟨t,b,h⟩:=bT h;obtain⟨⟨e,i⟩,a,h⟩:=bT h;cases h;obtain rfl:=bR b;obtain⟨pos,rfl⟩:=k9 c;obtain⟨pos',rfl⟩:=k8 a;exact⟨v,i,pos',pos,rfl,rfl⟩
mutual
theorem any_map(g:Fl->Fl):∀d:D,bh anyF (aE g d)=bh anyF d
 |.bP=>rfl
 |.bl _=>rfl
 |.int _=>rfl
 |.str _=>rfl
 |.tup ds=>qe g ds
 |.lst _ ds=>rfl
 |.cX _ _ ds=>rfl
theorem qe(g:Fl->Fl):∀ds:aa,aU anyF (aw g ds)=aU anyF ds
 |[]=>rfl
 |d::ds=>by show(bh _ _||aU _ _)=(bh _ d||aU _ ds);rw[any_map g d,qe g ds]
end
mutual
theorem yY:∀d:D,bh anyF d=false->bh bK d=false
 |.bP,_=>rfl
 |.bl _,_=>rfl
 |.int _,_=>rfl
 |.str _,_=>rfl
 |.tup ds,h=>AR ds h
 |.lst _ ds,h=>nomatch h
 |.cX _ _ ds,h=>nomatch h
theorem AR:∀ds:aa,aU anyF ds=false->aU bK ds=false
 |[],_=>rfl
 |d::ds,h=>by
  have h:=D3 h;show(bh _ d||aU _ ds)=false;rw[yY d h.1,AR ds h.2];rfl
end
theorem any_ints:∀c:ae,aU anyF (c.map D.int)=false
 |[]=>rfl
 |i::c=>any_ints c
def L0{i:Expr}{l:Nat}:swapsWith value (some (.Subscript o i pos')) l env=pure false:=by
 unfold swapsWith;cases value<;>rfl
def DJ{x:Str}{j:Pos}{i:Expr}{e to g:TE}(L:X.A.units+1<cLine)(J:PE X value e)(M:PE X (.Name x j) to)(U:PE X i g):
  PS X (.Assign [.Subscript (.Name x j) i pos'] value pos) (λD σ H=>e σ H λv H1=>to σ H1 λo H2=>g σ H2 λy a=>∃q b cs as xs ep c,o=.ref q/\y=.ref b/\a q=some (.ext (DO q cs as xs ep))/\fO (bc X.K a) as cs/\bc X.K a b (c.map V.int)/\cs.length<sizeLine /\
   ∀d,D.nx σ (upd a q (.ext (DO q (dw cs c) (xf cs as c b) (cq cs xs c v) d)))):=by
 intro pins s σ H D I h;refine wpAny_Assign_Subscript (dH (J pins s σ H _ I h) λr l ⟨v,H1,I1,p,B⟩=>dH (M pins l σ H1 _ I1 B) λu k ⟨o,H2,I2,n,z⟩=>dH (U pins k σ H2 _ I2 z) λE s3 b8=>?_) L0;obtain⟨y,a,I3,m,q,b,cs,as,xs,ep,c,eo,Z,W,O,Y,hl,t⟩:=b8;subst eo Z;obtain rfl:u=Value.ref q:=n;obtain rfl:E=Value.ref b:=m;exact yL L I3 W O Y p hl λd s4 I4=>⟨σ,_,I4,t d⟩
def SI.RD{i:Nat}{cs:aL}(d:SI X F R τ ρ σ H)(c:ρ[i]?=some (some (.cX .ow cs ds))):
  ∃p as xs ep,σ[i]?=some (some (.ref p))/\H p=some (.ext (DO p cs as xs ep))/\τ p=some [i]/\fO (bc X.K H) as cs/\aF (bc X.K H) (nd X.K R (λ_=>False) τ H) [i] 0 xs ds:=by
 obtain⟨v,b,a⟩:=d.rep i _ c;cases a with
 |cX h k r=>exact⟨_,_,_,_,b,h.1,h.2,k,r⟩
def JI{n:Nat}(j:Φ n=wF){sc:Scope}{bl:aq}{k:Nat}(L:PX X sc bl k)(hN:X.N.Nodup)(xA:∀x,X.fn x=true){x:Str}(he:uk sc bl st=some (.Name x pos,args))
  {i:Nat} (hi:X.N[i]?=some x) (hl:L2.Loc X.env.scope x) (pe:PE X (.Name x pos) (nA i)) (hs:qT X F Φ cs args):PS X st (qC X F Φ (.mut n i cs)):=by
 obtain⟨v,ix,p1,p2,rfl,rfl⟩:=yP he;obtain⟨⟨c1,c2,rfl,h1,h2⟩,_⟩:=o5 hs;refine PS.imp (DJ (EK L.room) h1 pe h2) λD σ H W=>?_;obtain⟨R,τ,ρ,r,E,z,W⟩:=W;obtain⟨xs,s,z⟩:=aC z;obtain⟨y,ey,s⟩:=aC s;obtain⟨ys,kE,s⟩:=aC s;cases s;obtain⟨a,ek,Zg⟩:=aC kE;cases Zg;have O:∃cs vs c,a=.tup (c.map DI.D.int)/\ρ[i]?=some (some (.cX .ow cs vs))/\bh anyF y=false/\cs.length<du/\r=(.nx,ρ.set i (some (.cX .ow (dw cs c) (cq cs vs c y)))):=by
  cases l:aU bK [y,a]with
  |true =>
   obtain⟨d,d',h⟩:=Eh z l;rw[j]at h;obtain⟨cs,vs,c,x',_,e1,e2,_⟩:=wD h;have B:aE aI y=x'/\aE aI a=.tup (c.map DI.D.int):=by
    have:=aa_ e1;exact⟨this.1,(aa_ this.2).1⟩
   have a1:bh bK y=false:=yY y (by rw[<- any_map aI y,B.1];exact e2);have a2:bh bK a=false:=yY a (by rw[<- any_map aI a,B.2];exact any_ints c);have:aU bK [y,a]=false:=by show(bh bK y||(bh bK a||false))=false;rw[a1,a2];rfl
   rw[this]at l;cases l
  |false =>
   obtain⟨d,d',h,h',rfl⟩:=zK z l;rw[j]at h';obtain⟨cs,vs,c,x',rfl,e1,e2,B,rfl⟩:=wD h';cases e1;exact⟨cs,vs,c,rfl,h,e2,B,rfl⟩
 obtain⟨cs,vs,c,rfl,Y,Z,hc,rfl⟩:=O;obtain⟨p,as,g,ep,U,hd,ht,hk,M⟩:=E.RD Y;refine tD.intro E ey λu H1 e1 ru=>⟨.ref p,U,tD.intro (E.go e1) ek λw H2 e2 lY=>?_⟩
 obtain⟨τ1,f1,q1⟩:=ru;obtain⟨τ2,f2,q2⟩:=lY;cases q2 with
 | @tup _ b _ _ hb SA =>
  cases SA.ofInts;have es:=e1.trans e2;have J:=E.go es;have e:=es _ _ hd;have nL:du=1000000:=rfl;have l:sizeLine=16777216:=abg;refine⟨p,b,cs,as,g,ep,c,rfl,rfl,e,hk.imp λ_ _ h=>bc.same es h,hb,by left,λAk=>?_⟩;have t:fS H2 p (.d cs as g ep):=e;have rk:iV X R τ H2 u y:=oY ((jS (N':=nd X.K R (λ_=>False) τ H1) (k':=[]) q1 Z).imp (λ_ _ h=>bc.same e2 h) λ_ _ _ _ h=>nd.same e2 h) Z;obtain⟨p',UM,U8,ae2,q,GQ,ht',hk',ya⟩:=J.RD Y;rw[U]at q;cases q;rw[e]at GQ;obtain⟨I,Gu⟩:=J.Rv (m:=0) (n':=.d (dw cs c) (xf cs as c b) (cq cs g c u) Ak) (o:=.ext (DO p (dw cs c) (xf cs as c b) (cq cs g c u) Ak)) (d1:=.cX .ow (dw cs c) (cq cs vs c y)) (xs':=cq cs g c u) (ds':=cq cs vs c y) Y U t ht (M.imp (λ_ _ h=>bc.same es h) λ_ _ _ _ h=>nd.same es h) rk aZ
   (λhN r=>.cX hN (Ez ((hk.imp λ_ _ h=>bc.same es h).imp λ_ _ h=>C5 t h) (C5 t hb)) r) (λM r=>Dv (λk=>jS r Z) M)
  exact W σ _ R I Gu (tP J es (λ_ h=>h) t ht)
end DI
end
section
namespace DI
open PySem PySem.Spec PyProof.Rows L2 PySem.W
noncomputable def runK{b:Type}(n:Nat)(lt:Nat->Nat->Bool):KasT b->Option b
 |.ret a=>some a
 |.ask i j k=>if i<n/\j<n then runK n lt (k (lt i j))else none
theorem Dn{d:Type}{b:Nat->Nat->(Bool->Shared->Prop)->Shared->Prop}{lt:Nat->Nat->Bool}{s:Shared}{n:Nat}(f:∀i j C,i<n->j<n->C (lt i j) s->b i j C s){Q:d->Shared->Prop}{a:d}(e:Q a s):
  ∀(t:KasT d),runK n lt t=some a->t.kasWp b Q s
 |.ret _,h=>by cases h;exact e
 |.ask i j k,h=>by
  unfold runK at h;by_cases c:i<n/\j<n
  ·rw[cc c]at h;exact f i j _ c.1 c.2 (Dn f e _ h)
  ·rw[cb c]at h;cases h
theorem run_eq{b:Type}{n:Nat}{lt a:Nat->Nat->Bool}(h:∀i j,i<n->j<n->lt i j=a i j):∀t:KasT b,runK n lt t=runK n a t
 |.ret _=>rfl
 |.ask i j k=>by
  unfold runK;by_cases c:i<n/\j<n
  ·rw[cc c,cc c,h i j c.1 c.2,run_eq h]
  ·rw[cb c,cb c]
structure Arr(p:Array Nat)(n:Nat):Prop where
 sz:p.size=n
 pm:p.toList.Perm (List.range n)
noncomputable def IP(x:Nat):aP->List (aP)
 |[]=>[[x]]
 |y::l=>(x::y::l)::(IP x l).map (y :: ·)
def tj:aP->List (aP)
 |[]=>[[]]
 |x::l=>(tj l).flatMap (IP x)
theorem zO{x:Nat}{b:aP}:∀a:aP,a++x::b∈IP x (a++b)
 |[]=>by cases b<;>simp[IP]
 |y::a=>aai _ (aax (zO a))
theorem rL:∀{l m:aP},m.Perm l->m∈tj l
 |[],m,h=>by rw[h.eq_nil];simp[tj]
 |x::l,m,h=>by
  obtain⟨a,b,rfl⟩:=List.append_of_mem (h.symm.subset aak);exact List.mem_flatMap.mpr ⟨a++b,rL ((List.perm_middle.symm.trans h).cons_inv),zO a⟩
theorem vG{b:Type}(f:Nat->b):∀{l:List b} {m:aP},l.Perm (m.map f)->∃a:aP,a.Perm m/\l=a.map f
 |[],m,h=>⟨[],by rw[List.map_eq_nil_iff.mp h.symm.eq_nil],rfl⟩
 |x::l,m,h=>by
  obtain⟨y,c,rfl⟩:=List.mem_map.mp (h.subset aak);obtain⟨a,e,d⟩:=vG f (h.trans ((List.perm_cons_erase c).map f)).cons_inv;exact⟨y::a,(e.cons y).trans (List.perm_cons_erase c).symm,by rw[d];rfl⟩
noncomputable def Xx(a:aP)(i j:Nat):Bool:=decide (a.getD i 0<a.getD j 0)
def Q6(n:Nat)(a:aP):Bool:=match runK n (Xx a) (kas_sort n)with
 |some p=>p.toList.isPerm (List.range n)&&p.toList.map (λi=>a.getD i 0)==List.range n
 |none=>false
def sorts:∀n,n<7->2<=n->∀σ∈tj (List.range n),Q6 n σ=true:=by decide +kernel
end DI
end
section
namespace DI
open PySem PySem.Spec PyProof.Rows L2
def qS(h:Heap)(vs:az)(nss:aL):Prop:=vs.length=nss.length/\∀(i:Nat) (ns:ae),nss[i]?=some ns->∃t a,vs[i]?=some (.ref t)/\IsTup h t a.toArray/\IntsAre a ns
variable {h:Heap}{nss:aL}{vs:az}
def qS.mono{h':Heap}(k:∀b o,h.get? b=some o->h'.get? b=some o)(t:qS h vs nss):qS h' vs nss :=
 ⟨t.1,λi c e=>let ⟨a,aR,e1,⟨o,ho,r⟩,e3⟩:=t.2 i c e;⟨a,aR,e1,⟨o,k _ _ ho,r⟩,e3⟩⟩
def qS.mem(t:qS h vs nss){v:Value}(f:v∈vs):∃a b e,v=.ref a/\IsTup h a b.toArray/\IntsAre b e:=by
 obtain⟨i,c⟩:=List.mem_iff_getElem?.mp f;have hl:i<nss.length:=by rw[<- t.1];exact(List.getElem?_eq_some_iff.mp c).1
 obtain⟨a,b,d,j,g⟩:=t.2 i _ (aap hl);rw[c]at d;cases d;exact⟨a,b,_,rfl,j,g⟩
section
variable {prog:aK}{w:World}{A:aN}{E:aD}{s:Shared}
theorem pN:∀{vs:az} {nss:aL} {Q:List (Option Value)->Shared->Prop},qS s.heap vs nss->(∀fs:List (Option Value),fs.length=vs.length->(∀f∈fs,∀v,f=some v->∃n t,v=.int n t)->Q fs s)->wpAny (model prog w) A (vs.mapM firstOfTuple') Q E s
 |[],_,_,_,h=>by rw[List.mapM_nil];exact aaf (h [] rfl λ_ h=>nomatch h)
 |v::vs,[],_,t,_=>by have:=t.1;simp at this
 |v::vs,ns::nss,Q,t,h=>by
  obtain⟨a,r,e,⟨o,d,l,n,k⟩,g⟩:=t.2 0 ns rfl;cases e;rw[List.mapM_cons];refine aaa ?_;rw[PySem.W.kas_first_eq];refine aaa (PySem.W.Looks.here (show PySem.W.Looks (model prog w) s.heap (typeOf (.ref a)) o.cls from(PySem.W.Looks.ld d).andThen .now) ?_);rw[l,cb (by first|decide|simp)];refine aaa (listItems_at d k (aaf ?_));refine aaa (pN (vs:=vs) (nss:=nss) ⟨by simpa using t.1,λi j e=>t.2 (i+1) j e⟩ λfs p m=>aaf (h _ (by simp[p]) λf c v b=>?_));rcases List.mem_cons.mp c with rfl|c
  ·cases g with
   |nil=>simp at b
   |cons u q g=>simp at b;exact⟨_,_,b.symm⟩
  ·exact m f c v b
def Lq(κ:SortKind):Prop:=κ=tuples' true\/κ=general'\/κ=oneType'
def kind_any{Q:SortKind->Shared->Prop}(t:qS s.heap vs nss)(G:vs≠[])(h:∀C,Lq C->Q C s):wpAny (model prog w) A (keyKind' vs.toArray) Q E s:=by
 obtain⟨e,d,rfl⟩:∃e d,vs=e::d:=by
  cases vs with
  |nil=>exact absurd rfl G
  |cons e d=>exact⟨e,d,rfl⟩
 rw[kat_kind_eq,mX,map_eq_pure_bind];refine aaa (aaa (pN t λfs hl D=>aaf ?_));by_cases j:(fs.toArray.all λx=>x.isSome)=true
 ·rw[cc j];refine aaa (wpAny_rule ?_);obtain⟨c,J,p⟩:∃c:az,fs=c.map some/\∀v∈c,∃n t,v=.int n t:=by
   clear h hl t;induction fs with
   |nil=>exact⟨[],rfl,λ_ h=>nomatch h⟩
   |cons f fs H =>
    simp only[m2,gc,cM]at j;obtain⟨c,N,L⟩:=H (λf y=>D f (aai _ y)) (by simpa using j.2);cases f with
    |none=>simp at j
    |some v =>
     exact⟨v::c,by rw[N];rfl,λu l=>by
      rcases List.mem_cons.mp l with rfl|l
      ·exact D _ aak _ rfl
      ·exact L u l⟩
  subst J;obtain⟨i,g,rfl⟩:∃i g,c=i::g:=by
   cases c with
   |nil=>simp at hl
   |cons a b=>exact⟨a,b,rfl⟩
  have q:(((i::g).map some).toArray.filterMap id)=(i::g).toArray:=by simp
  rw[q,oneTypeOnly'_eq,mX,map_eq_pure_bind];refine aaa (aaa (aaa (PySem.W.kas_mapM (r:=Value.type "int") _ (λv k O m=>by
   obtain⟨n,t,rfl⟩:=p v k;exact(PySem.W.Looks.of_pure (M:=model prog w) rfl).here m) (aaf ?_))))
  have B:((List.map (λ_=>Value.type "int") (i::g)).toArray.all λx=>x==Value.type "int")=true:=by
   simp only[m2,g6,gv];intro _ _;show(Value.type "int" == Value.type "int")=true;decide
  have z:(List.map (λ_=>Value.type "int") (i::g)).toArray[0]?=some (Value.type "int"):=by simp
  rw[z];simp only[B,if_true];exact aaf (aaf (h _ (.inl rfl)))
 ·rw[cb j];by_cases F:((fs.toArray[0]?.bind id).isSome)=true
  ·rw[cc F];exact aaf (h _ (.inr (.inl rfl)))
  ·rw[cb F];rw[oneTypeOnly'_eq,mX,map_eq_pure_bind];refine aaa (aaa (aaa (PySem.W.kas_mapM (r:=Value.type "tuple") _ (λv k O m=>by
    obtain⟨a,R,P,rfl,⟨o,I,K,_⟩,_⟩:=t.mem k;refine PySem.W.Looks.here (show PySem.W.Looks (model prog w) s.heap (typeOf (.ref a)) o.cls from(PySem.W.Looks.ld I).andThen .now) ?_;rw[K];exact m) (aaf ?_))))
   have B:((List.map (λ_=>Value.type "tuple") (e::d)).toArray.all λx=>x==Value.type "tuple")=true:=by
    simp only[m2,g6,gv];intro _ _;show(Value.type "tuple" == Value.type "tuple")=true;decide
   have z:(List.map (λ_=>Value.type "tuple") (e::d)).toArray[0]?=some (Value.type "tuple"):=by simp
   rw[z];simp only[B,if_true];exact aaf (aaf (h _ (.inr (.inr rfl))))
def M7{κ:SortKind}(B:Lq κ)(m:A.units<cLine){a b:Addr}{q r:az}{ns g:ae}{Q:Bool->Shared->Prop}(l:IsTup s.heap a q.toArray)(k:IsTup s.heap b r.toArray)(j:IntsAre q ns)(i:IntsAre r g)(h:Q (HT.lexLt ns g) s):
  wpAny (model prog w) A (keyLt' κ (.ref a) (.ref b)) Q E s:=by
 rcases B with rfl|rfl|rfl
 ·obtain⟨o,c,_,n,f⟩:=l;obtain⟨H,z,_,I,G⟩:=k;exact PySem.W.kat_lt c f z G (vP 0 j i (by simp) h)
 ·exact PySem.W.kat_one _ _ (HT.yn l k (by simpa using j) (by simpa using i) m h)
 ·show wpAny (model prog w) A (oneLt' true (.ref a) (.ref b)) Q E s;rw[oneLt'_eq];simp only[if_true];refine aaa (wpAny_cRoomFor m ?_);obtain⟨⟨D,C,data,x⟩,c,p,n,f⟩:=id l;obtain⟨⟨J,t,data2,u⟩,v,e,y,d⟩:=id k;simp only at p f e d;subst p f e d;refine aaa (wpAny_callSpecialIfBound?_slot (name:=Str.ofString "__lt__") ⟨_,c,rfl⟩ acd (abj acd ⟨_,c,rfl⟩ PySem.F.entry_tuple_lt (PySem.F.args_tuple_lt_2 _ _) (HT.kg a b _ _ n y C t x u ns g (by simpa using j) (by simpa using i)) ⟨c,v,?_⟩));exact aa7 h
end
def uQ(h:Heap)(d:Addr)(es:Array DictEntry)(ep:Nat):Prop:=∃o,h.get? d=some o/\o.ExactDict/\o.data=.dict es ep
section
variable {prog:aK}{w:World}{A:aN}{E:aD}{s:Shared}{d it:Addr}{es:Array DictEntry}{ep i:Nat}
def uQ.typeIs(h:uQ s.heap d es ep):s.TypeIs (.ref d) "dict":=let ⟨o,ho,hx,_⟩:=h;⟨o,ho,hx.1⟩
def Ax{Q:aD}(f:(d==sysModules)=false)(e:uQ s.heap d es ep)
  (g:Q (.ref s.heap.objs.size) { s with heap:=s.heap.push { cls:=.type "dict_keyiterator",data:=.fields #[.ref d,.int 0 0,.int es.size 0,.int ep 0] } }):wpAny (model prog w) A (pyIter (.ref d)) Q E s:=by
 have a:=e.typeIs;obtain⟨o,c,j,b⟩:=e;refine wpAny_pyIter_slot a PySem.F.slot_dict_iter (aaM PySem.F.slot_dict_iter a PySem.F.entry_dict_iter ?_ (PySem.F.args_dict_iter_1 _));unfold Builtin.«dict.__iter__» Builtin.Dict.dictSlotNone;refine aaa (aaa (wpAny_notOrdered_dict a (aaf ?_)));show wpAny _ _ (Builtin.Dict.showsAll d >>= _) _ _ s;unfold Builtin.Dict.showsAll;rw[cb (by rw[f];exact dX)];refine aaa (aaf (aaa (acz c b (aaa (wpAny_dictEpoch c b ?_)))));exact aaa (aaz (aaf ⟨_,rfl,"dict_keyiterator",_,⟨_,aao _ rfl,rfl⟩,PySem.F.slot_dict_keyiterator_next.lookup,g⟩))
def Aw{Q:Option Value->Shared->Prop}(a:s.heap.IsKeyIter it d i es.size ep)(k:uQ s.heap d es ep)(n:i<es.size)
  (m:∀e,e.IsKeyIter it d (i+1) es.size ep->Heap.SameBut it s.heap e->Q (some es[i].key) { s with heap:=e }):wpAny (model prog w) A (pyNext (.ref it)) Q E s:=by
 obtain⟨o,c,l,b⟩:=id a;obtain⟨q,g,p,f⟩:=k;unfold pyNext;refine aaa (aca (aaL (name:=Str.ofString "__next__") a.typeIs aa8 (aaM aa8 a.typeIs PySem.F.entry_dict_keyiterator_next ?_ (PySem.F.args_dict_keyiterator_next_1 _))));refine aaa (aaf (aaa (aaa ?_)))
 first|refine aaa (abe a.typeIs (aaf ?_))|refine aaa (abo a.typeIs (aaf ?_))
 refine aaa (wpAny_fieldsOf c b ?_);simp only[show Builtin.Dict_items.ownsTuple "dict_keyiterator" = false by decide,fy,if_false];show wpAny _ _ (if (Value.ref d==Value.none)=true then _ else _) _ _ s;rw[cb (show ¬ ((Value.ref d==Value.none)=true) from dX)];refine aaa (aaf (aaa (acz g f ?_)));rw[cb (by simp)];refine aaa (aaf (aaa (wpAny_dictEpoch g f ?_)));rw[cb (by simp)];refine aaf ?_;simp only[show ¬ ((i:Int)<0) from by left,if_false,dV,Array.getElem?_eq_getElem n];refine aaa ?_
 first|refine aaa (abe a.typeIs (aaf ?_))|refine aaa (abo a.typeIs (aaf ?_))
 refine aaa (wpAny_isOneOf_keyiter a.typeIs ?_);show wpAny _ _ (setField (.ref it) 1 (rawInt ((i:Int)+1)) >>= _) _ _ s;refine aaa (acn c b (by simp) ?_);have j:(s.heap.update it (Obj.mapFields (·.setIfInBounds 1 (rawInt ((i:Int)+1))))).IsKeyIter it d (i+1) es.size ep :=
  ⟨_,abb _ c (Obj.isFreed_of_fields (Obj.data_mapFields b _)),(Obj.cls_mapFields ..).trans l,by rw[Obj.data_mapFields b];simp[rawInt]⟩
 refine aaa (aaF (aaa (wpAny_isOneOf_keyiter (s:={ s with heap:=s.heap.update it (Obj.mapFields (·.setIfInBounds 1 (rawInt ((i:Int)+1)))) }) j.typeIs ?_)));show wpAny _ _ (pure es[i].key) _ _ _;exact aaf (aaf ⟨_,rfl,aaf (m _ j (abr ..))⟩)
def FO{Q:Option Value->Shared->Prop}(p:A.handled=none)(c:s.heap.IsKeyIter it d i es.size ep)(n:uQ s.heap d es ep)(e:es.size<=i)
  (q:∀j,Heap.ExtBut it s.heap j->Q none { s with heap:=j }):wpAny (model prog w) A (pyNext (.ref it)) Q E s:=by
 obtain⟨o,f,u,g⟩:=id c;obtain⟨t,l,r,k⟩:=n;unfold pyNext;refine aaa (aca (aaL (name:=Str.ofString "__next__") c.typeIs aa8 (aaM aa8 c.typeIs PySem.F.entry_dict_keyiterator_next ?_ (PySem.F.args_dict_keyiterator_next_1 _))));refine aaa (aaf (aaa (aaa ?_)))
 first|refine aaa (abe c.typeIs (aaf ?_))|refine aaa (abo c.typeIs (aaf ?_))
 refine aaa (wpAny_fieldsOf f g ?_);simp only[show Builtin.Dict_items.ownsTuple "dict_keyiterator" = false by decide,fy,if_false];show wpAny _ _ (if (Value.ref d==Value.none)=true then _ else _) _ _ s;rw[cb (show ¬ ((Value.ref d==Value.none)=true) from dX)];refine aaa (aaf (aaa (acz l k ?_)));rw[cb (by simp)];refine aaa (aaf (aaa (wpAny_dictEpoch l k ?_)));rw[cb (by simp)];refine aaf ?_;simp only[show ¬ ((i:Int)<0) from by left,if_false,dV,Array.getElem?_eq_none e];refine aaa ?_
 first|refine aaa (abe c.typeIs (aaf ?_))|refine aaa (abo c.typeIs (aaf ?_))
 show wpAny _ _ (setField (.ref it) 0 .none >>= _) _ _ s;refine aaa (acn f g (by simp) ?_);show wpAny _ _ (newExc (.type "StopIteration") [] >>= _) _ _ _;refine aaa ?_;simp only[newExc,newTuple];refine aaa (aaz ?_ (by size_fits));refine aaa (m:=firstArgMember _ _) (wpAny_of_eq (a:=Value.none) (by first|rfl | (simp only[firstArgMember];rfl)) ?_);refine aaz ?_ (by size_fits);simp only[raiseNew];refine aaa (wpAny_handled ?_);rw[show A.in1.handled=none from p];refine aaa (aaf (wpAny_throw ?_));refine aaa (wpAny_isInstance (T:="StopIteration") (b:=true) ⟨_,aao _ rfl,rfl⟩ isSubtype_stop ?_);exact aaf (q _ (((abr ..).extBut.push _).push _))
end
end DI
end
section
namespace DI
open PySem PySem.Spec PyProof.Rows L2 PySem.W
theorem Et:∀a b c:ae,HT.lexLt a b=true->HT.lexLt b c=true->HT.lexLt a c=true
 |[],[],_,h,_=>by rw[HT.ki]at h;cases h
 |[],_::_,[],_,h=>by rw[HT.dv]at h;cases h
 |[],_::_,_::_,_,_=>rfl
 |_::_,[],_,h,_=>by rw[HT.dv]at h;cases h
 |_::_,_::_,[],_,h=>by rw[HT.dv]at h;cases h
 |x::a,y::b,z::c,h1,h2=>by
  rw[HT.d9]at *;by_cases e:x=y
  ·subst e;rw[cc rfl]at h1;by_cases d:x=z
   ·subst d;rw[cc rfl]at h2 ⊢;exact Et a b c h1 h2
   ·rw[cb d]at h2 ⊢;exact h2
  ·rw[cb e]at h1;have f:x<y:=aad h1;by_cases d:y=z
   ·subst d;rw[cb (by left)];exact aaN f
   ·rw[cb d]at h2;have g:y<z:=aad h2;rw[cb (by left)];exact aaN (by left)
theorem tN:∀a b:ae,HT.lexLt a b=true->HT.lexLt b a=false
 |[],[],_=>rfl
 |[],_::_,_=>rfl
 |_::_,[],h=>by rw[HT.dv]at h;cases h
 |x::a,y::b,h=>by
  rw[HT.d9]at *;by_cases e:x=y
  ·subst e;rw[cc rfl]at h ⊢;exact tN a b h
  ·rw[cb e]at h;have l:x<y:=aad h;rw[cb (by left)];exact aa9 (by left)
theorem tM:∀a b:ae,a≠b->HT.lexLt a b=true\/HT.lexLt b a=true
 |[],[],h=>absurd rfl h
 |[],_::_,_=>.inl rfl
 |_::_,[],_=>.inr rfl
 |x::a,y::b,h=>by
  rw[HT.d9,HT.d9];by_cases e:x=y
  ·subst e;rw[cc rfl,cc rfl];exact tM a b λz=>h (by rw[z])
  ·rw[cb e,cb (Ne.symm e)];rcases Int.lt_or_gt_of_ne e with l|l
   ·exact .inl (aaN l)
   ·exact .inr (aaN l)
def b5(nss:aL):aL:=nss.mergeSort λa b=>!HT.lexLt b a
def Gy(nss:aL):Prop:=nss.Pairwise λa b=>HT.lexLt a b=true
variable {nss:aL}
def oS(h:nss.Nodup):Gy (b5 nss):=by
 have p:(b5 nss).Perm nss:=abq _ _;have nd:(b5 nss).Nodup:=p.nodup_iff.mpr h;have i:(b5 nss).Pairwise λa b=>(!HT.lexLt b a)=true:=List.pairwise_mergeSort (λa b c d f=>by
  cases e:HT.lexLt c a with
  |false=>rfl
  |true =>
   exfalso;by_cases g:b=c
   ·subst g;rw[e]at d;cases d
   ·rcases tM b c g with l|l
    ·rw[Et _ _ _ l e]at d;cases d
    ·rw[l]at f;cases f) (λa b=>by
  cases e:HT.lexLt b a with
  |false=>rfl
  |true=>rw[tN _ _ e];rfl) nss
 exact(i.and nd).imp λ{a b} ⟨d,f⟩=>by
  rcases tM a b f with l|l
  ·exact l
  ·rw[l]at d;cases d
def ltN(nss:aL)(i j:Nat):Bool:=HT.lexLt (nss.getD i []) (nss.getD j [])
def Q4(A:nss.Nodup)(s:2<=nss.length)(w:nss.length<7):∃p,runK nss.length (ltN nss) (kas_sort nss.length)=some p/\Arr p nss.length/\(p.toList.map λi=>nss.getD i [])=b5 nss:=by
 have o:=oS A;have g:nss.Perm (b5 nss):=(abq _ _).symm;have hl:=g.length_eq;generalize b5 nss=S at o g hl;have r:S=(List.range nss.length).map λi=>S.getD i []:=by
  rw[hl];refine acD (by simp) λi x s=>?_;simp[x]
 rw[r]at g;obtain⟨d,l,u⟩:=vG _ g;have B:d.length=nss.length:=by rw[l.length_eq,List.length_range]
 have f:∀i,i<nss.length->d.getD i 0<nss.length/\nss.getD i []=S.getD (d.getD i 0) []:=λi k=>by
  have n:i<d.length:=by left
  refine⟨?_,?_⟩
  ·rw[show d.getD i 0=d[i] by simp[n]];exact List.mem_range.mp (l.subset (aba _))
  ·have e:nss[i]?=(d[i]?).map λi=>S.getD i []:=by
    conv=>lhs;rw[u]
    rw[List.getElem?_map]
   rw[fI,e,List.getElem?_eq_getElem n,show d.getD i 0=d[i] by simp[n]];rfl
 have m:∀i j,i<nss.length->j<nss.length->ltN nss i j=Xx d i j:=λi j k v=>by
  obtain⟨z,y⟩:=f i k;obtain⟨b1,b2⟩:=f j v;unfold ltN Xx;rw[y,b2];generalize d.getD i 0=a at *;generalize d.getD j 0=b at *;have up:∀a b,a<b->b<nss.length->HT.lexLt (S.getD a []) (S.getD b [])=true:=λa b t C=>by
   have:=List.pairwise_iff_getElem.mp o a b (by left) (by left) t;simpa [show a<S.length by left,show b<S.length by left]using this
  rcases Nat.lt_trichotomy a b with h|h|h
  ·rw[up a b h b1,lZ h]
  ·subst h;rw[fu (Nat.lt_irrefl _)];cases q:HT.lexLt (S.getD a []) (S.getD a [])with
   |false=>rfl
   |true=>exact(tN _ _ q).symm.trans q▸rfl
  ·rw[tN _ _ (up b a h z),fu (by left)]
 have c:=sorts nss.length w s d (rL l);rw[run_eq m];unfold Q6 at c;split at c
 ·rename_i p e;rw[cM,mY,List.isPerm_iff]at c;refine⟨p,e,⟨by rw[<- gA,c.1.length_eq,List.length_range],c.1⟩,?_⟩;rw[r,<- c.2,fb];exact aay λi k=>(f i (List.mem_range.mp (c.1.subset k))).2
 ·cases c
def Q5(h:nss.length<2):((List.range nss.length).map λi=>nss.getD i [])=b5 nss:=by
 match nss,h with
 |[],_=>simp[b5]
 |[x],_=>simp[b5]
end DI
end
section
namespace DI
open PySem PySem.Spec PyProof.Rows L2
variable {Q:Value->Shared->Prop}{ep n1:Nat}{nss:aL}
section
variable {prog:aK}{w:World}{A:aN}{E:aD}{s:Shared}
def C6{a:Addr}{vs:az}{n:Nat}{P:PySem.Fin->Shared->Prop}(X:A.units<cLine)(q:s.heap.get? a=some (seqObj "list" vs.toArray n))(R:vs.length<7)(GN:nss.Nodup)
  (m:qS (((s.heap.update a (Obj.mapSeq λ_=>#[])).push (seqObj "tuple" vs.toArray 0)).push (seqObj "list" #[] 0)) vs nss)
  (h:∀p:Array Nat,Arr p vs.length->(p.toList.map λi=>nss.getD i [])=b5 nss->P (.done (.ret .none)) { s with heap:=sortedHeap s.heap a vs (List.toArray (p.toList.map λi=>vs.getD i Value.none)) }) :
  wpAny (model prog w) A (Builtin.«list.sort» ⟨[.ref a],[]⟩) P E s:=by
 rw[list_sort_plain];have ha:a<s.heap.objs.size:=aah q;have d:vs.toArray.size=vs.length:=by simp
 have B:vs.length<=sizeLine:=by rw[sizeLine_eq];left
 have hl:=m.1;refine aaa (listItems_at q rfl (aaa (listUpdate_at q rfl ?_ (by rw[d];exact B) (aa3 _))));obtain⟨f,O⟩:∃f,(s.heap.update a (Obj.mapSeq λ_=>#[])).get? a=some (seqObj "list" #[] f):=⟨_,get?_update_seq q (λ_=>#[])⟩
 refine aaa (seqEpoch_at O rfl (aaa (wpAny_newTuple (aaa (acw (aaF ?_) (aa3 _))) (by simpa using B))));have k:(((s.heap.update a (Obj.mapSeq λ_=>#[])).push (seqObj "tuple" vs.toArray 0)).push (seqObj "list" #[] 0)).get? a=some (seqObj "list" #[] f):=aag _ (aag _ O);show wpAny (model prog w) A _ P E ({ s with heap:=((s.heap.update a (Obj.mapSeq λ_=>#[])).push (seqObj "tuple" vs.toArray 0)).push (seqObj "list" #[] 0) }:Shared);dsimp only;have fin:∀(c:SortSt) (p:Array Nat),Arr p vs.length->(p.toList.map λi=>nss.getD i [])=b5 nss->(arrOf c).map (·.2)=List.toArray (p.toList.map λi=>vs.getD i Value.none)->failedOf c=none->wpAny (model prog w) A (do
   let touched:=(<- seqEpoch a) != f
   Builtin.List.listUpdate (.ref a) λ_=>(arrOf c).map (·.2)
   if let some e:=failedOf c then rule "list.sort.comparison-raised";throw e
   if touched then rule "list.sort.modified";raiseError "ValueError" "list modified during sort"
   ret .none) P E ({ s with heap:=((s.heap.update a (Obj.mapSeq λ_=>#[])).push (seqObj "tuple" vs.toArray 0)).push (seqObj "list" #[] 0) }:Shared):=by
  intro c p o D K J;refine aaa (seqEpoch_at k rfl ?_);rw[K];refine aaa (listUpdate_at k rfl ?_ (aa3 _) (by rw[cn,b4,gA,o.sz];exact acy B));rw[J];simp only[bne_self_eq_false,fy,if_false];exact aaf (h p o D)
 by_cases b:vs.toArray.size<2
 ·rw[cc b,cc b];refine aaa (aaf ?_);rw[StateT.run_pure];refine aaa (aaf ?_);rw[d]at b;have H:Arr (List.toArray (List.range vs.length)) vs.length:=⟨by simp,by simp⟩
  refine fin (SortSt.mk' general' (vs.toArray.zip vs.toArray) #[] 7 none) (List.toArray (List.range vs.length)) H ?_ ?_ rfl
  ·rw[hl]at b ⊢;exact Q5 b
  ·apply Array.toList_inj.mp;show(Array.map (·.2) (vs.toArray.zip vs.toArray)).toList=_;rw[Array.toList_map,show(vs.toArray.zip vs.toArray)=pairsOf vs from rfl,pairsOf_toList,List.map_snd_zip (Nat.le_refl _)];refine acD (by simp) λi h1 b=>?_;simp[h1]
 ·rw[cb b,cb b];rw[d]at b;refine aaa (kind_any m (λz=>by rw[z]at b;simp at b) λL Z=>?_);obtain⟨p6,v,u,t⟩:=Q4 GN (by rw[<- hl];left) (by rw[<- hl];exact R);refine aaa (aav (PySem.W.kat_run (ks:=vs) (vs:=vs) (κ:=L) (Q:=λc g=>g=({ s with heap:=((s.heap.update a (Obj.mapSeq λ_=>#[])).push (seqObj "tuple" vs.toArray 0)).push (seqObj "list" #[] 0) }:Shared)/\∃p,Arr p vs.length/\(p.toList.map λi=>nss.getD i [])=b5 nss/\(arrOf c).map (·.2)=List.toArray (p.toList.map λi=>vs.getD i Value.none)/\failedOf c=none)
   (G:=λp g=>g=({ s with heap:=((s.heap.update a (Obj.mapSeq λ_=>#[])).push (seqObj "tuple" vs.toArray 0)).push (seqObj "list" #[] 0) }:Shared)/\Arr p vs.length/\(p.toList.map λi=>nss.getD i [])=b5 nss) rfl (by left) (by left) (λp c g Y F hf I=>⟨I.1,p,I.2.1,I.2.2,PySem.W.kat_snds rfl F,hf⟩) ?_) (λr g ⟨e,p,o,D,K,J⟩=>?_) λ_ _ e=>e)
  rotate_left
  ·subst e;exact fin r.2 p o D K J
  ·rw[hl];refine Dn (lt:=ltN nss) (n:=nss.length) (λi j C N M hC=>?_) ⟨rfl,u,t⟩ _ v;obtain⟨x,aR,f,V,U⟩:=m.2 i _ (aap N);obtain⟨y,IE,e2,T,S⟩:=m.2 j _ (aap M);unfold PySem.W.kas_ask;rw[show vs.getD i Value.none=.ref x by simp[f],show vs.getD j Value.none=.ref y by simp[e2]];refine M7 Z X V T U S ?_;have e3:nss.getD i []=nss[i]:=by simp[N]
   have e4:nss.getD j []=nss[j]:=by simp[M]
   have l:C (HT.lexLt (nss.getD i []) (nss.getD j [])) _:=hC;rw[e3,e4]at l;exact l
def FN{es:Array DictEntry}(n:A.handled=none)(I d:Addr)(m:d≠I):Walks prog w A I [I,d] [I] es.size (λi v=>∃e,es[i]?=some e/\v=e.key) (λi h=>h.IsKeyIter I d i es.size ep/\uQ h d es ep) where
 sub:=λb c=>by simp at c;simp[c]
 frame:=λ_ _ _ a j=>⟨a.1.at λo e=>j I (by simp) o e,let ⟨o,ho,r⟩:=a.2;⟨o,j d (by simp) o ho,r⟩⟩
 item:=λi s Q E k a f=>Aw a.1 a.2 k λg q l=>f _ g s.toks ⟨es[i],abk k,rfl⟩ ⟨q,let ⟨o,ho,r⟩:=a.2;⟨o,l.extBut d o m ho,r⟩⟩ λb o c e=>l.extBut b o (λh=>c (by simp[h])) e
 done:=λs Q E a f=>FO n a.1 a.2 (aaj _) λg p=>f g s.toks λb o c e=>p b o (λh=>c (by simp[h])) e
 self:=λ_ _ _ _ a f=>wpAny_pyIter_keyiter a.1 f
def O1{d:Addr}{es:Array DictEntry}(lo:(d==sysModules)=false):PySem.W.KdlSrc prog w "dict" d d es.size (λi v=>∃e,es[i]?=some e/\v=e.key) (λh=>uQ h d es ep) where
 type:=λ_ a=>a.typeIs
 there:=λ_ a=>let ⟨_,ho,_⟩:=a;⟨aah ho,aah ho⟩
 keep:=λ_ _ a c=>let ⟨o,ho,r⟩:=a;⟨o,c d (.inl rfl) o ho,r⟩
 notList:=by decide
 notTuple:=by decide
 hint:=λ_ _ _ _ a b=>PySem.W.kdl_hint_dict a.typeIs b
 iter:=λ_ _ f a=>⟨_,_,(λ_ _ b=>Ax lo a b),FN f _ d (let ⟨_,ho,_⟩:=a;aan (aah ho)),⟨⟨_,aao _ rfl,rfl,rfl⟩,let ⟨o,ho,r⟩:=a;⟨o,aag _ ho,r⟩⟩⟩
def vk{d:Addr}{es:Array DictEntry}(H:A.handled=none)(L:A.units+2<cLine)(lo:(d==sysModules)=false)(F:uQ s.heap d es ep)(x:es.size<7)(K:nss.Nodup)(B:qS s.heap (es.toList.map (·.key)) nss)
  (h:∀(S:Addr) (h':Heap) (tk e:Nat) (p:Array Nat),s.heap.get? S=none->(∀b o,s.heap.get? b=some o->h'.get? b=some o)->Arr p es.size->(p.toList.map λi=>nss.getD i [])=b5 nss ->
   h'.get? S=some (seqObj "list" (List.toArray (p.toList.map λi=>(es.toList.map (·.key)).getD i Value.none)) e)->Q (.ref S) { s with heap:=h',toks:=tk }) :
  wpAny (model prog w) A (call (.builtin "sorted") [.ref d]) Q E s:=by
 refine Calls.call_function_entry kind_sorted plain_sorted entry_sorted (args_sorted1 _) ?_;unfold Builtin.«sorted»;have u:es.size<=sizeLine:=by rw[sizeLine_eq];left
 refine aaa (m:=checkCount "sorted" 1 1 _) (aaf (aaa (PySem.W.kdu_collect (A:=A.in1) (O1 lo) H F u λa tk f g n=>?_)));have J:f.toList=es.toList.map (·.key):=by
  refine List.ext_getElem? λi=>?_;rw[List.getElem?_map,Array.getElem?_toList,Array.getElem?_toList];by_cases G:i<es.size
  ·have j:i<f.size:=by rw[n.1];exact G
   obtain⟨e,l,z⟩:=n.2 i f[i] (abk j);rw[Array.getElem?_eq_getElem j,l,z];rfl
  ·rw[Array.getElem?_eq_none (by rw[n.1];left),Array.getElem?_eq_none (by left)];rfl
 rw[J];generalize I:es.toList.map (·.key)=c at *;have t:c.length=es.size:=by rw[<- I];simp
 refine aaa (acw ?_ (by rw[t];exact u));show wpAny _ _ _ _ _ ({ s with heap:=a.push (seqObj "list" c.toArray 0),toks:=tk }:Shared);have r:(a.push (seqObj "list" c.toArray 0)).get? a.objs.size=some (seqObj "list" c.toArray 0):=aao _ rfl;have y:∀b o,s.heap.get? b=some o->((((a.push (seqObj "list" c.toArray 0)).update a.objs.size (Obj.mapSeq λ_=>#[])).push (seqObj "tuple" c.toArray 0)).push (seqObj "list" #[] 0)).get? b=some o:=λb o e=>by
  refine aag _ (aag _ ?_);rw[Heap.get?_update_other _ _ (Nat.ne_of_gt (Heap.lt_size (g b o e)))];exact aag _ (g b o e)
 have k:s.heap.get? a.objs.size=none:=by
  cases q:s.heap.get? a.objs.size with
  |none=>rfl
  |some o=>exact absurd (aah (g _ o q)) (aau _)
 refine aaa (aaF (aaM slot_list_sort ⟨_,r,rfl⟩ entry_list_sort (C6 (s:={ s with heap:=a.push (seqObj "list" c.toArray 0),toks:=tk }) (nss:=nss) (show A.in1.in1.units<cLine by show A.units+1+1<cLine;left) r (by rw[t];exact x) K (B.mono y) λp D C=>⟨_,rfl,?_⟩) (args_list_sort _)));obtain⟨e,l⟩:=sortedHeap_at (out:=List.toArray (p.toList.map λi=>c.getD i Value.none)) r;refine aaf ⟨_,rfl,h a.objs.size _ tk e p k (λb o e=>?_) (by rw[<- t];exact D) C l⟩;have v:=aah (g b o e);rw[sortedHeap_old (Nat.ne_of_lt v) (by rw[size_push'];exact Nat.lt_succ_of_lt v)];exact aag _ (g b o e)
end
variable {H:Hp}{X:Cx}{σ:L2.St}
def Inv.Sa{pins:av}{s:Shared}{h':Heap}{t':Nat}{a:Addr}{o:HO}(I:Inv X pins σ H s)(k:∀b u,s.heap.get? b=some u->h'.get? b=some u)(f:s.heap.get? a=none)(new:c_ (upd H a o) h' a o):
  H a=none/\Inv X pins σ (upd H a o) { s with heap:=h',toks:=t' }:=by
 have d:H a=none:=by
  cases q:H a with
  |none=>rfl
  |some u =>
   obtain⟨z,c⟩:=gM (I.cD a u q);rw[f]at c;exact nk c
 have up:∀b u,H b=some u->upd H a o b=some u:=λb u e=>by rw[bp (d8 e d)];exact e
 refine⟨d,I.step (g':=s.gens) (d':=s.drawn) (ch:=[]) (λb i=>nomatch i) (λb o _ _ _ e _=>k b o e) (λb o _ _ _ e _=>⟨o.slots,k b o e⟩) (λb u _ e n=>?_)
  (λb o _ e=>⟨o,k b o e⟩) (λ_ _ e=>up _ _ e) (λ_ _ _ e=>up _ _ e) (λm h=>?_) (λb u e=>?_) I.bare⟩
 ·rw[bp λz=>by rw[z,f]at e;cases e];exact n
 ·obtain⟨o,j,ep,g,r⟩:=h;exact⟨o,j,ep,k _ o g,r⟩
 ·by_cases z:b=a
  ·subst z;rw[aZ]at e;cases e;exact new
  ·rw[bp z]at e;exact(I.cD b u e).jn (k b)
variable {K:ak}{P:aK}{tg:Expr}{w:World}
section
variable {X:Cx}{pins:av}{σ:St}{H:Hp}{s:Shared}{d:Addr}{cs:aL}{as:bj}{xs:ah}{ep:Nat}
def sU(I:Inv X pins σ H s)(h:H d=some (.ext (DO d cs as xs ep))):∃a:Array DictEntry,uQ s.heap d a ep/\a.size=as.length/\a.toList.map (·.key)=as.map Value.ref/\cs.Nodup/\as.length=cs.length/\(d==sysModules)=false:=by
 obtain⟨⟨l,o,a,k,b,m,g,e,j,c,i,hl,f⟩,_⟩:=(show c_ H s.heap d (.ext (DO d cs as xs ep)) from I.cD d _ h)
 refine⟨a,⟨o,g,e,j⟩,?_,?_,i,?_,f⟩
 ·rw[<- gA,c,<- b,b4,b4]
 ·rw[c,<- b,fb,fb];rfl
 ·rw[<- k,<- b,b4,b4]
noncomputable def Itd(d:Addr)(cs:aL)(as:bj)(xs:ah)(ep:Nat):It :=
 ⟨λi H=>H d=some (.ext (DO d cs as xs ep))/\i<as.length,λi H v b=>b=H/\∃a,as[i]?=some a/\v=.ref a,λi H=>H d=some (.ext (DO d cs as xs ep))/\as.length<=i⟩
theorem A3(d it:Addr)(cs:aL)(as:bj)(xs:ah)(ep:Nat):Turn P w K tg (Itd d cs as xs ep) [it] it (λi h=>h.IsKeyIter it d i as.length ep) where
 mem:=by simp
 obj:=λi h a b f=>by
  have e:b=it:=by simpa using f
  subst e;obtain⟨o,e,c,d⟩:=a;exact⟨o,e,λv z=>by rw[d]at z;cases z⟩
 keep:=λi h n a k=>a.at λo e=>k it (by simp) o e
 item:=by
  intro X u hw x L i pins s σ H E I m a r;subst u hw x;obtain⟨t,j⟩:=r;obtain⟨F,q,g,G,_⟩:=sU I t;obtain⟨D,C,N,B,A,y⟩:=m it (by simp);have J:i<F.size:=by rw[g];exact j
  have S:F[i].key=.ref as[i]:=by
   have:=aaI (λl=>l[i]?) G;simp only[List.getElem?_map,Array.getElem?_toList]at this;rw[Array.getElem?_eq_getElem J,List.getElem?_eq_getElem j]at this;exact aaq this
  rw[<- g]at a;refine Aw a q J λn p M=>?_;have T:Inv X pins σ H { s with heap:=n }:=I.turned (t':=s.toks) (λb o f e=>(M.2 b f).trans e) D C B A y;obtain⟨o,e,c,R⟩:=id p;refine⟨_,rfl,z6 (s:={ s with heap:=n }) e c R (by decide) ⟨.ref as[i],H,T,by rw[S];rfl,⟨rfl,as[i],aap j,rfl⟩,?_,λb f=>(m b f).1⟩⟩;rw[g]at p;exact p
 done:=by
  intro X u hw x L i pins s σ H E I m a r;subst u hw x;obtain⟨t,j⟩:=r;obtain⟨F,q,g,G,_⟩:=sU I t;obtain⟨D,C,N,B,A,y⟩:=m it (by simp);rw[<- g]at a;exact FO (I.ok.hd L) a q (by rw[g];exact j) λn O=>⟨rfl,I.turned (t':=s.toks) (λb o f e=>O b o f e) D C B A y⟩
 self:=λ_ _ _ _ _ a h=>wpAny_pyIter_keyiter a h
end
def pW(xs:aa):O D:=match one xs with
 |some d=>match ir d with
  |some z=>ok (.lst .ow (z.1.map gY))
  |none=>none
 |none=>none
variable {xs:aa}
def B2{r:D}(h:pW xs=ok r):∃f c g,xs=[.cX f c g]/\r=.lst .ow (c.map gY):=by
 unfold pW at h;cases b:one xs with
 |none=>rw[b]at h;exact nk h
 |some d =>
  rw[b]at h;have h:(match ir d with|some z=>ok (D.lst .ow (z.1.map gY))|none=>none)=ok r:=h;cases a:ir d with
  |none=>rw[a]at h;exact nk h
  |some z =>
   rw[a]at h;cases h;obtain⟨f,e⟩:=lP a;exact⟨f,z.1,z.2,by rw[bR b,e],rfl⟩
theorem gO(g:Fl->Fl):∀a:aL,aw g (a.map gY)=a.map gY
 |[]=>rfl
 |c::a=>by
  show aE g (gY c)::aw g (a.map gY)=_;rw[gO g a];have:∀c:ae,aw g (c.map D.int)=c.map D.int:=λc=>by
   induction c with
   |nil=>rfl
   |cons i c b=>show D.int i::aw g (c.map D.int)=_;rw[b];rfl
  show D.tup (aw g (c.map D.int))::_=_;rw[this];rfl
def zt{T:m9}{N:jk}{k:bu}{a:Addr}{c:ae}(h:T a (c.map V.int)):Rep T N k (.ref a) (gY c):=.tup h (aF.ints c)
def Gb(_:Scope)(_:aq)(e:Expr):Option (ao):=if isNm e=true then some [e]else none
variable {F R:Addr->Prop}{args elts:ao}{cs:aA}{Φ:aT}{ρ:aX}{τ:Addr->Option bu}
def FL{n:Nat}(S:Φ n=pW){sc:Scope}{bl:aq}{k:Nat}(L:PX X sc bl k){e:Expr}(he:Gb sc bl e=some args)(ht:(decide (1100<=n)||gu tg)=true)(hs:qT X F Φ cs args)
  {pins:av} {s:Shared} {d:D} {items:aa} (I:Inv X pins σ H s) (Si:SI X F R τ ρ σ H) (T:bJ Φ cs ρ=ok xs) (Y:Φ n xs=ok d) (ei:mf d=ok items) (Z:It->Hp->Prop)
  (hR:∀J M y,aM H M->cI X.K (gP X F) R τ (dN cs) H M y xs->J7 X.K J M y xs items->Z J M) :
  wpAny (model X.prog X.w) X.A (eval e X.env) (λv g=>wpAny (model X.prog X.w) X.A (pyIter v) (Cv X pins σ tg Z) X.xe g) X.xe s:=by
 unfold Gb at he;by_cases V:isNm e=true
 ·rw[cc V]at he;cases he;cases cs with
  |nil=>exact hs.elim
  |cons c cs=>cases cs with
   |cons _ _=>exact hs.2.2.2.elim
   |nil =>
    rw[S]at Y;obtain⟨f,t,y,rfl,rfl⟩:=B2 Y;cases ei;obtain⟨x,ex,T⟩:=aC T;cases T;refine dH (hs.1 pins s σ H _ I (tD.intro Si ex (Q:=λv r=>aM H r/\b_ X.K (gP X F) R τ (iE c) H r v (.cX f t y)) λv r E z=>⟨E,z⟩)) λu g b8=>?_;obtain⟨v,r,G,rv,E,z⟩:=b8;obtain⟨τt,fr,q1⟩:=id z;cases q1 with
    | @cX _ p _ as N ep _ _ GN hk hr =>
     cases rv;have B:=GN.dat;obtain⟨es,NH,hz,m3,SO,hlen,IT⟩:=sU G B;refine Ax IT NH ?_;have W:g.heap.objs.size<=g.heap.objs.size:=aaj _;refine⟨g.heap.objs.size,[g.heap.objs.size],_,Itd p t as N ep,r,rfl,G.kept (t':=g.toks) (λb o e=>aag _ e),A3 p g.heap.objs.size t as N ep,⟨_,aao _ rfl,rfl,by rw[hz];rfl⟩,λb W=>?_,hR _ r [.ref p] E (cI.cons E (aM.refl _) (z.mono λj hj=>aaw _ hj) ⟨λ_=>none,λ_ _ h=>by simp at h,.nil⟩) ?_⟩
     ·have:b=g.heap.objs.size:=by simpa using W
      subst this;exact G.yD (aaj _) (G.cD.fresh (aaj _))
     ·rw[gO];have jn:∀l,qf X.K r [.ref p] [.cX f t y] l->l p=some (.ext (DO p t as N ep)):=λl m=>by
       obtain⟨R0,O,hl⟩:=m.n0;cases O with
       |cons h0 _=>cases h0 with
        |cX C _ _ =>
         cases f with
         |sc=>exact C.elim
         |ow=>exact hl p _ C.2 B
         |fz=>exact hl p _ C.2 B
         |al=>exact hl p _ C.2 B
      refine⟨λi l R' m U q=>⟨jn l m,by rw[b4]at q;left⟩,λi l R' x j7 m U q hy=>?_,λi l R' m U q=>⟨jn l m,by rw[b4]at q;left⟩⟩;obtain⟨rfl,a,ha,rfl⟩:=hy;rw[b4]at q;refine⟨aM.refl _,gY t[i],by rw[List.getElem?_map,List.getElem?_eq_getElem q];rfl,zt (m.tp _ _ (hk.tup i a _ ha (aap q)))⟩
 ·rw[cb V]at he;cases he
def yS(U:X.calm=true)(J:X.A.units+2<cLine):fY X (.builtin "sorted") (λxs H Q=>∃(d:Addr) (cs:aL) (as:bj) (t:ah) (ep:Nat),xs=[.ref d]/\H d=some (.ext (DO d cs as t ep))/\fO (bc X.K H) as cs/\cs.length<7 /\
  ∀(l:Addr) (bs:bj),H l=none->fO (bc X.K H) bs (b5 cs)->Q (.ref l) (upd H l (.lst (bs.map V.ref)))):=by
 intro pins s σ H xs us Q I r h;obtain⟨d,cs,as,t,ep,rfl,T,x,Y,q⟩:=h;obtain⟨u,rfl,z⟩:=r.one;cases z;obtain⟨Z,NH,G,v,SO,hlen,IT⟩:=sU I T;have L:qS s.heap (Z.toList.map (·.key)) cs:=by
  rw[v];refine⟨by rw[b4,hlen],λi C e=>?_⟩;have f:i<as.length:=by rw[hlen];exact(List.getElem?_eq_some_iff.mp e).1
  obtain⟨IE,B,D,_⟩:=I.tuple (x.tup i as[i] C (aap f) e);exact⟨as[i],IE,by rw[List.getElem?_map,List.getElem?_eq_getElem f];rfl,D,dK B⟩
 refine vk (I.ok.hd U) J IT NH (by rw[G,hlen];exact Y) SO L λS h' y e p W P7 k N hl=>?_;rw[v]at hl;have Yn:(p.toList.map λi=>(as.map Value.ref).getD i Value.none)=(p.toList.map λi=>as.getD i 0).map Value.ref:=by
  rw[fb];refine aay λi f=>?_;have g:i<as.length:=by
   have:=List.mem_range.mp (k.pm.mem_iff.mp f);left
  simp[g]
 rw[Yn]at hl;have YN:fO (bc X.K H) (p.toList.map λi=>as.getD i 0) (b5 cs):=by
  rw[<- N];refine⟨by simp,λj a c b n=>?_⟩;rw[List.getElem?_map]at b n;cases m:p.toList[j]? with
  |none=>rw[m]at b;exact nk b
  |some i =>
   rw[m]at b n;have g:i<as.length:=by
    have:=List.mem_range.mp (k.pm.mem_iff.mp (aas m));left
   cases b;cases n;exact x.tup i _ _ (by simp[g]) (by simp[show i<cs.length by left])
 have So:∀l:bj,Vals (l.map V.ref) (l.map Value.ref):=λl=>by
  induction l with
  |nil=>exact .nil
  |cons a l E=>exact .cons rfl E
 have M:sizeLine=16777216:=abg;obtain⟨O,I'⟩:=Inv.Sa (t':=y) (o:=.lst ((p.toList.map λi=>as.getD i 0).map V.ref)) I P7 W ⟨by rw[b4,b4,gA,k.sz];left,_,e,So _,hl⟩;exact⟨.ref S,_,I',rfl,q S _ O YN⟩
def pU(xs:aa):O D:=match one xs with
 |some d=>match ir d with
  |some z=>if z.1.length<7 then ok (.lst .ow ((b5 z.1).map gY))else none
  |none=>none
 |none=>none
def B1{r:D}(h:pU xs=ok r):∃f cs c,xs=[.cX f cs c]/\cs.length<7/\r=.lst .ow ((b5 cs).map gY):=by
 unfold pU at h;cases b:one xs with
 |none=>rw[b]at h;exact nk h
 |some d =>
  rw[b]at h;have h:(match ir d with|some z=>if z.1.length<7 then ok (D.lst .ow ((b5 z.1).map gY))else none|none=>none)=ok r:=h;cases a:ir d with
  |none=>rw[a]at h;exact nk h
  |some z =>
   rw[a]at h;obtain⟨hl,rfl⟩:=mz (show(if z.1.length<7 then ok (D.lst .ow ((b5 z.1).map gY))else none)=ok r from h);obtain⟨f,e⟩:=lP a;exact⟨f,z.1,z.2,by rw[bR b,e],hl,rfl⟩
theorem rA{T:m9}{N:jk}:∀{bs:bj} {cs:aL} {k:bu} {n:Nat},fO T bs cs->aF T N k n (bs.map V.ref) (cs.map gY)
 |[],[],_,_,_=>.nil
 |[],_::_,_,_,h=>by have:=h.len;simp at this
 |_::_,[],_,_,h=>by have:=h.len;simp at this
 |b::bs,c::cs,_,_,h=>.cons (zt (h.tup 0 b c rfl rfl)) (rA ⟨by have:=h.len;simpa using this,λj a f e d=>h.tup (j+1) a f e d⟩)
def FH:Cc (dY ("sorted" : Str)) pU:=by
 intro Φ n m X S bl k L e args r F cs b;obtain⟨p,j,a,rfl,rfl,G,E⟩:=gk r;cases cs with
 |nil=>exact b.elim
 |cons c cs=>cases cs with
  |cons _ _=>exact b.2.2.2.elim
  |nil =>
   have y:PA X [a] (sH X F Φ [c]):=PA.imp (cy b.1 (PA.imp d7 λ_ _ _ h=>iH h) (b.2.1 _)) λ_ _ _ h=>fH h;have B:X.A.units+2<cLine:=aaK (Nat.add_le_add_left (by decide:2<=64) _) L.room.units;have this:PE X (.Call (.Name ("sorted" : Str) p) [a] [] j) (tD X F Φ (.cL n [c])):=by
    refine PE.imp (eI (yS L.calm B) (L.gl G) (L.bl _ E) (by decide +kernel) y (he:=b.2.1 _)) λσ H Q o=>?_;obtain⟨R,τ,ρ,d,M,g,o⟩:=o;obtain⟨xs,I,g⟩:=aC g;rw[m]at g;obtain⟨f,z,N,rfl,hl,rfl⟩:=B1 g;refine⟨R,τ,ρ,_,M,I,λO V q x=>?_⟩;obtain⟨s,U,u⟩:=x;obtain⟨v,rfl,t⟩:=u.one;cases t with
    |cX C D T =>
     refine⟨_,z,_,_,_,rfl,C.dat,D,hl,λl bs i J=>o _ _ (q.trans (aM.upd i)) (b_.qK (q.free i) (q.trans (aM.upd i)) aZ ?_)⟩;exact rA (J.imp λ_ _ h=>bc.same (aM.upd i) h)
   exact⟨this,cK this λ_=>rfl⟩
def AD(f g:Str)(sc:Scope)(bl:aq)(e:Expr):Option (ao):=match dY f sc bl e with
 |some z=>match one z with
  |some i=>dY g sc bl i
  |none=>none
 |none=>none
def F_{f g:Str}{sc:Scope}{bl:aq}{e:Expr}(h:AD f g sc bl e=some args):∃p b c pos' a,e=.Call (.Name f p) [.Call (.Name g c) [a] [] pos'] [] b/\args=[a]/\iD sc f=true/\f∈bl/\iD sc g=true/\g∈bl:=by
 unfold AD at h;cases d:dY f sc bl e with
 |none=>rw[d]at h;exact nk h
 |some z =>
  rw[d]at h;obtain⟨p,b,i,rfl,rfl,m,l⟩:=gk d;have h:dY g sc bl i=some args:=h;obtain⟨c,pos',a,rfl,rfl,k,j⟩:=gk h;exact⟨p,b,c,pos',a,rfl,rfl,m,l,k,j⟩
def vO(xs:aa):O D:=match one xs with
 |some x=>match x with
  |.lst _ b=>match intsOf b with
   |some a=>if a.length<4000 then ok (.int (eY a).length)else none
   |none=>none
  |_=>none
 |none=>none
def Iz{d:D}(h:vO xs=ok d):∃(f:Fl) (ns:ae),xs=[.lst f (ns.map D.int)]/\ns.length<4000/\d=.int (eY ns).length:=by
 unfold vO at h;cases hw:one xs with
 |none=>rw[hw]at h;exact nk h
 |some x =>
  obtain rfl:=bR hw;rw[hw]at h;cases x<;>first|exact nk h | (cases h;done)|skip
  rename_i f b;have h:(match intsOf b with|some ns=>if ns.length<4000 then ok (D.int (eY ns).length)else none|none=>none)=ok d:=h;cases a:intsOf b with
  |none=>rw[a]at h;exact nk h
  |some ns =>
   rw[a]at h;obtain⟨e,c⟩:=mz h;cases dJ a;exact⟨f,ns,rfl,e,c.symm⟩
def rLl(K:ak):ah->Hp->VK->Prop:=λxs H Q=>∃(p:Addr) (ns:ae),xs=[.ref p]/\dq K H p (ns.map V.int)/\ns.length<4000/\Q (.int (eY ns).length) H
variable {pos:Pos}
def DX{e:Expr}{t:TA}{p p' pos':Pos}(D:X.calm=true)(Z:Gl X ("len" : Str))(W:X.mg ("len" : Str)=none)(V:Gl X ("set" : Str))(Y:X.mg ("set" : Str)=none)(E:PA X [e] t)
  (A:∀g,starEach (e::g) X.env=(false,eval e X.env)::starEach g X.env):PE X (.Call (.Name ("len" : Str) p) [.Call (.Name ("set" : Str) p') [e] [] pos'] [] pos) (Pt (rLl X.K) t):=by
 intro pins s σ H Q I h;refine aaJ (d_ I Z W acH ?_ (by decide) (by decide));refine abw ?_ rfl rfl;show wpAny _ _ (spliced ((false,eval (.Call (.Name ("set" : Str) p') [e] [] pos') X.env)::[])) _ _ s;refine abv ?_;refine aaJ (d_ I V Y boot_set ?_ (by decide) (by decide));refine aar (dH (E pos' pins s σ H _ I h) λus n U=>?_) (A _) rfl;obtain⟨vs,H1,i,v,x⟩:=U;obtain⟨a,c,rfl,C,hl,q⟩:=x;obtain⟨u,rfl,r⟩:=v.one;cases r;obtain⟨l,j,y,hz⟩:=i.list C;have f:l.length=c.length:=by rw[<- j.length];simp
 refine call_set_list (i.ok.hd D) (df y) (ns:=c) (by simpa using dK j) (by simp;unfold scanBound;left) λG m d B=>abz ?_;have T:l.toArray.size=c.length:=by rw[cn,f]
 rw[T]at d;change G.SetOf (intKind X.prog X.w) n.heap.objs.size (λk=>(dist c).any (· == k)) (dist c).length at d;rw[wG]at d;obtain⟨o,g,ep,tb,S,O,N,_,_,M,L,J⟩:=d;refine call_len_set S O N L (by unfold scanBound at M;omega) ?_;exact⟨.int (eY c).length,H1,i.kept (t':=m+1+1) λb u z=>B b u (aah z) z,⟨_,by rw[J]⟩,q⟩
def M9:Cc (AD ("len" : Str) ("set" : Str)) vO:=by
 intro Φ n g X M bl k L e args y F cs i;obtain⟨p,pos,u,pos',a,rfl,rfl,C,B,A,z⟩:=F_ y;obtain⟨t,m⟩:=zF i;cases cs with
 |nil=>exact i.elim
 |cons c cs=>cases cs with
  |cons _ _=>exact i.2.2.2.elim
  |nil =>
   have this:PE X (.Call (.Name ("len" : Str) p) [.Call (.Name ("set" : Str) u) [a] [] pos'] [] pos) (tD X F Φ (.cL n [c])):=by
    refine PE.imp (DX L.calm (L.gl C) (L.bl _ B) (L.gl A) (L.bl _ z) t m) λσ H Q j=>?_;obtain⟨R,τ,ρ,d,G,b,j⟩:=j;obtain⟨xs,E,b⟩:=aC b;rw[g]at b;obtain⟨f,x,rfl,hl,rfl⟩:=Iz b;refine⟨R,τ,ρ,_,G,E,λJ I D s=>?_⟩;obtain⟨l,N,q⟩:=s;obtain⟨v,rfl,o⟩:=q.one;cases o with
    |lst h r=>cases r.ofInts;exact⟨_,x,rfl,h.sq,hl,j _ I D .int⟩
   exact⟨this,cK this λ_=>rfl⟩
noncomputable def bq(g b:Bool):Bool:=match g with
 |true=>b
 |false=>!b
def Vr(g:Bool)(xs:aa):O D:=match two xs with
 |some z=>match z.2 with
  |.lst _ a=>if eJ 8 z.1=true/\a.all (eJ 8)=true then ok (.bl (bq g (a.any λd=>i9 d z.1)))else none
  |_=>none
 |none=>none
abbrev nqD:=Vr false
abbrev X0:=Vr true
def Mu{g:Bool}{x y d:D}(h:Vr g [x,y]=ok d):∃f a,y=.lst f a/\eJ 8 x=true/\a.all (eJ 8)=true/\d=.bl (bq g (a.any λd=>i9 d x)):=by
 cases y<;>first | (cases h;done)|skip
 rename_i f a;obtain⟨⟨e,c⟩,b⟩:=mz h;exact⟨f,a,rfl,e,c,b.symm⟩
noncomputable abbrev Qg(g:Bool):CmpOp:=if g then .In else .NotIn
structure Seen(K:ak)(H:Hp)(x:V)(d:D):Prop where
 ex:∃(N:jk) (k:bu),Rep (bc K H) N k x d/\∀q p xs f,N q p (.l xs) f->dq K H p xs
structure U0(K:ak)(H:Hp)(xs:ah)(ds:aa):Prop where
 ex:∃(N:jk) (k:bu),aF (bc K H) N k 0 xs ds/\∀q p xs f,N q p (.l xs) f->dq K H p xs
def rNq(g:Bool)(K:ak):R2:=λx y H Q=>∃p xs a d,y=.ref p/\dq K H p xs/\U0 K H xs a/\Seen K H x d/\eJ 8 d=true/\a.all (eJ 8)=true/\Q (.bl (bq g (a.any λe=>i9 e d))) H
section
variable {X:Cx}
open Classical in
def KC(g:Bool)(V:X.A.units+1+8<cLine):kW X (compareOp (Qg g)) (rNq g X.K):=by
 intro pins s σ H x y v u Q I O M h;obtain⟨p,xs,z,d,rfl,W,⟨N,k,E,hN⟩,⟨N',k',S,GV⟩,Y,NL,q⟩:=h;cases M;obtain⟨b,r,G,hz⟩:=I.list W;have n:∀(j:Nat) (w:Value),b[j]?=some w->∃e,z[j]?=some e/\SeqAt.EqAt X.A.in1 s w v (i9 e d):=λj w hw=>by
  have BH:j<xs.length:=by rw[r.length];exact(List.getElem?_eq_some_iff.mp hw).1
  have o:xs[j]?=some xs[j]:=aap BH;obtain⟨w',f,B⟩:=r.get o;rw[hw]at f;cases f;obtain⟨e,a,T⟩:=E.qN o;exact⟨e,a,(alike I hN GV 8 X.A.in1 T S (List.all_eq_true.mp NL e (aas a)) Y B O (by show X.A.units+1+8<cLine;exact V)).eq⟩
 let e:Value->Bool:=λw=>decide (∃(j:Nat) (c:D),b[j]?=some w/\z[j]?=some c/\i9 c d=true)
 have J:∀w∈b.toArray,SeqAt.EqAt X.A.in1 s w v (e w):=λw hw=>by
  obtain⟨j,i⟩:=List.mem_iff_getElem?.mp (show w∈b by simpa using hw);by_cases a:∃(j:Nat) (c:D),b[j]?=some w/\z[j]?=some c/\i9 c d=true
  ·have:e w=true:=aaN a;rw[this];obtain⟨U,c,L,C,m⟩:=a;obtain⟨c',t,l⟩:=n U w L;rw[C]at t;cases t;rw[m]at l;exact l
  ·have:e w=false:=aa9 a;rw[this];obtain⟨c,t,l⟩:=n j w i;have:i9 c d=false:=by
    cases hb:i9 c d with
    |false=>rfl
    |true=>exact absurd ⟨j,c,i,t,hb⟩ a
   rw[this]at l;exact l
 have hA:b.toArray.any e=z.any λc=>i9 c d:=by
  rw[show b.toArray.any e=b.any e by simp];apply Bool.eq_iff_iff.mpr;rw[ng,ng];constructor
  ·rintro ⟨w,hw,a⟩;obtain⟨j,c,L,C,m⟩:=aad a;exact⟨c,aas C,m⟩
  ·rintro ⟨c,Z,m⟩;obtain⟨j,i⟩:=List.mem_iff_getElem?.mp Z;obtain⟨x',o,_⟩:=E.get i;obtain⟨w,hw,_⟩:=r.get o;exact⟨w,aas hw,aaN ⟨j,c,hw,i,m⟩⟩
 rw[<- hA]at q;cases g with
 |true=>exact SeqAt.in_listAt e G.isList J ⟨.bl _,H,I,rfl,q⟩
 |false=>exact SeqAt.notIn_listAt e G.isList J ⟨.bl _,H,I,rfl,q⟩
end
def FZ(g:Bool)(_:Scope)(_:aq)(e:Expr):Option (ao):=match CL e with
 |some z=>match one z.2.2 with
  |some r=>if z.2.1=[Qg g]/\ju r=true then some [z.1,r]else none
  |none=>none
 |none=>none
def F2{g:Bool}{sc:Scope}{bl:aq}{e:Expr}(h:FZ g sc bl e=some args):∃l r p,e=.Compare l [Qg g] [r] p/\args=[l,r]/\ju r=true:=by
 unfold FZ at h;cases c:CL e with
 |none=>rw[c]at h;cases h
 |some z =>
  obtain⟨l,b,d⟩:=z;rw[c]at h;obtain⟨p,rfl⟩:=sD c;replace h:(match one d with|some r=>if b=[Qg g]/\ju r=true then some [l,r]else none|none=>none)=some args:=h;cases hw:one d with
  |none=>rw[hw]at h;cases h
  |some r =>
   rw[hw]at h;replace h:(if b=[Qg g]/\ju r=true then some [l,r]else none)=some args:=h;obtain rfl:=bR hw;by_cases a:b=[Qg g]/\ju r=true
   ·rw[cc a]at h;cases h;obtain⟨a,f⟩:=a;subst a;exact⟨l,r,p,rfl,rfl,f⟩
   ·rw[cb a]at h;cases h
def KG{g:Bool}:Cc (FZ g) (Vr g):=by
 intro Φ n B X sc bl k L e args Y F cs t;obtain⟨l,r,p,rfl,rfl,G⟩:=F2 Y;have E:X.A.units+1+8<cLine:=by have:=L.room.units;left
 cases cs with
 |nil=>exact t.elim
 |cons c cs=>cases cs with
  |nil=>exact t.2.2.2.elim
  |cons O cs=>cases cs with
   |cons _ _=>exact t.2.2.2.2.2.2.elim
   |nil =>
    obtain⟨J,_,_,I,_,_,_⟩:=t;have o:∀{σ:St} {H:Hp} {R:aj} {τ:Addr->Option bu} {ρ:aX} {d:D} {Q:VK},SI X F R τ ρ σ H->bo Φ (.cL n [c,O]) ρ=ok d->(∀b j,d=.bl b->aM H j->Q (.bl b) j)->Ho (rNq g X.K) (tD X F Φ c) (tD X F Φ O) σ H Q:=by
     intro σ H R τ ρ d Q m i a;obtain⟨xs,s,i⟩:=aC i;obtain⟨x,ex,s⟩:=aC s;obtain⟨ys,z,s⟩:=aC s;cases s;obtain⟨y,ey,z⟩:=aC z;cases z;rw[B]at i;obtain⟨f,ds,rfl,ha,Z,rfl⟩:=Mu i;refine tD.intro m ex λv H1 N U=>tD.intro (m.go N) ey λu j M T=>?_;obtain⟨_,_,W⟩:=U.go M;obtain⟨_,_,V⟩:=T;obtain⟨_,_,rfl,t2,S⟩:=V.qA;exact⟨_,_,_,_,rfl,t2.sq,⟨_,_,S,λq p xs f h=>h.sq⟩,⟨_,_,W,λq p xs f h=>h.sq⟩,ha,Z,a _ j rfl (N.trans M)⟩
    refine⟨PE.imp (tq (KC g E) J I (tx G)) λσ H Q a=>?_,PT.imp (sV (KC g E) J I (tx G)) λσ H Q a=>?_⟩
    ·obtain⟨R,τ,ρ,d,m,i,a⟩:=a;exact o m i λb j e C=>a _ j C (by subst e;exact .bl)
    ·obtain⟨R,τ,ρ,b,m,i,a⟩:=a;obtain⟨d,ed,et⟩:=aC i;refine o m ed λb' j e C=>?_;subst e;cases et;exact⟨_,rfl,a j C⟩
variable {it:Addr}{items:aW}
section
variable {prog:aK}{w:World}{A:aN}{E:aD}{s:Shared}
theorem u_{l:Addr}:∀{s:Shared} {i:Nat} {Q E:aD},s.heap.IsTupleIter it l i->(∀o,s.heap.get? it=some o->o.cls=.type "tuple_iterator" -> o.data=.fields #[.ref l,.int i 0]->wpAny (model prog w) A.in1 (Builtin.«tuple_iterator.__next__» ⟨[.ref it],[]⟩) (λfin b=>∃v,fin=.done (.ret v)/\Q v b) E s)->wpAny (model prog w) A (Builtin.SmallTypes.nextOf (.ref it)) Q E s:=by
 intro s i Q E a h;obtain⟨o,c,f,d⟩:=id a;unfold Builtin.SmallTypes.nextOf;exact aaa (aaL (name:=Str.ofString "__next__") a.typeIs F.slot_tuple_iterator_next (aaM F.slot_tuple_iterator_next a.typeIs F.entry_tuple_iterator_next (aav (h o c f d) (λfin b ⟨v,e,q⟩=>⟨v,e,aaf q⟩) λ_ _ e=>e) (F.args_tuple_iterator_next_1 _)))
def Ends(prog:aK)(w:World)(A:aN)(it:Addr)(S:Heap->Prop):Prop:=∀(s:Shared) (Q E:aD),S s.heap->(∀a e,Heap.ExtBut it s.heap a->(∃o,a.get? e=some o/\o.cls=.type "StopIteration")->E (.ref e) { s with heap:=a })->wpAny (model prog w) A (Builtin.SmallTypes.nextOf (.ref it)) Q E s
def rg(f:A.handled=none){l:Addr}{i:Nat}(e:items[i]?=none):Ends prog w A it (λh=>h.IsTupleIter it l i/\h.IsTuple l items):=by
 intro s Q E d g;refine u_ d.1 λo b q c=>?_;obtain⟨n,k,_,p,j⟩:=id d.2;show wpAny _ _ (field (.ref it) 0 >>= _) _ _ _;refine aaa (aa1 b c (x:=.ref l) rfl ?_);rw[cb (show ¬ (Value.ref l==Value.none)=true from dX)];refine aaa (aa1 b c (x:=.int i 0) rfl (aaa (ab1 k j ?_)));simp only[dV,e];refine aaa (wpAny_rule (aaa (acn b c (by simp) ?_)));show wpAny _ _ (newExc (.type "StopIteration") [] >>= _) _ _ _;refine aaa ?_;simp only[newExc,newTuple];refine aaa (aaz (aaa (m:=firstArgMember _ _) (wpAny_of_eq (a:=Value.none) (by first|rfl | (simp only[firstArgMember];rfl)) (aaz ?_ (by size_fits)))) (by size_fits));simp only[raiseNew];refine aaa (wpAny_handled ?_);rw[show A.in1.in1.handled=none from f];exact aaa (aaf (wpAny_throw (g _ _ (((abr ..).extBut.push _).push _) ⟨_,aao _ rfl,rfl⟩)))
def wC(m:A.handled=none)(it l:Addr)(j:l≠it)(items:aW):Draws prog w A it [it,l] items.size (λi v=>items[i]?=some v) (λi h=>h.IsTupleIter it l i/\h.IsTuple l items):=by
 refine⟨λ_ _ a=>let ⟨o,b,_⟩:=a.1;⟨o,b⟩,λ_ _ _ a e=>?_,λi s Q E f a p=>?_,λs Q E a q=>?_⟩
 ·obtain⟨⟨o,b,r⟩,d,k,g⟩:=a;exact⟨⟨o,e it (by simp) o b,r⟩,d,e l (by simp) d k,g⟩
 ·refine u_ a.1 λo b n c=>?_;obtain⟨y,u,_,z,t⟩:=id a.2;show wpAny _ _ (field (.ref it) 0 >>= _) _ _ _;refine aaa (aa1 b c (x:=.ref l) rfl ?_);rw[cb (show ¬ (Value.ref l==Value.none)=true from dX)];refine aaa (aa1 b c (x:=.int i 0) rfl (aaa (ab1 u t ?_)));simp only[dV,show items[i]?=some items[i] by simp[f]];refine aaa (acn b c (by simp) (aaf ⟨_,rfl,p _ _ s.toks (by simp[f]) ⟨?_,a.2.extBut (abr ..).extBut j⟩ (abr ..)⟩));exact⟨_,abb _ b (Obj.isFreed_of_fields (Obj.data_mapFields c _)),(Obj.cls_mapFields ..).trans n,by rw[Obj.data_mapFields c];simp[rawInt]⟩
 ·exact rg m (by simp) s Q E a q
end
section
variable {prog:aK}{w:World}{A:aN}{E:aD}{s:Shared}
def Eg(l:Addr)(items:aW):Meets (Builtin.«enumerate.__new__» ⟨[.type "enumerate",.ref l],[]⟩) (λ_ R s=>s.heap.IsTuple l items /\
  R (.ok (.ret (.ref (s.heap.push { cls:=.type "tuple_iterator",data:=.fields #[.ref l,.int 0 0] }).objs.size))) { s with heap:=(s.heap.push { cls:=.type "tuple_iterator",data:=.fields #[.ref l,.int 0 0] }).push { cls:=.type "enumerate",data:=.fields #[.none,.bool false,.ref s.heap.objs.size,rawInt 0,.none,.none] } }) :=
 .of_wp λprog w A R s h=>by
  obtain⟨j,g,d,b,f⟩:=s;obtain⟨a,h⟩:=h;obtain⟨i,hl,r⟩:=id a;have k:=sub_enumerate
  wp_walk using AutoSeq1.wpAny_loadPart' hl
  refine wpAny_stack_any λe=>aaf ?_;split
  ·rename_i c _ _ _ _ _;cases (c==Value.type "enumerate")<;>(wp_walk using AutoSeq1.wpAny_loadPart' hl,wpAny_pyIter_tuple a;exact⟨_,rfl,h⟩)
  ·wp_walk using AutoSeq1.wpAny_loadPart' hl,wpAny_pyIter_tuple a
   exact⟨_,rfl,h⟩
theorem yT{l:Addr}(f:s.heap.IsTuple l items)
  (h:∀a,IsEnum a (s.heap.objs.size+1) s.heap.objs.size 0 .none->a.IsTupleIter s.heap.objs.size l 0->(∀b o,s.heap.get? b=some o->a.get? b=some o)->Q (.ref (s.heap.objs.size+1)) { s with heap:=a }) :
  wpAny (model prog w) A (call (.type "enumerate") [.ref l]) Q E s:=by
 refine callType_new F.called_enumerate (by decide) (F.typeCall_enumerate_1 _) (F.newCall_enumerate_1 _) (λc=>F.args_object_init_2 c _) F.entry_enumerate_new (Eg l items) ⟨f,?_⟩;have d:(s.heap.push { cls:=.type "tuple_iterator",data:=.fields #[.ref l,.int 0 0] }).objs.size=s.heap.objs.size+1:=Heap.size_push ..;show _/\_;rw[d];have e:IsEnum ((s.heap.push { cls:=.type "tuple_iterator",data:=.fields #[.ref l,.int 0 0] }).push { cls:=.type "enumerate",data:=.fields #[.none,.bool false,.ref s.heap.objs.size,rawInt 0,.none,.none] }) (s.heap.objs.size+1) s.heap.objs.size 0 .none:=by
  have:=aao (s.heap.push { cls:=.type "tuple_iterator",data:=.fields #[.ref l,.int 0 0] }) (o:={ cls:=.type "enumerate",data:=.fields #[.none,.bool false,.ref s.heap.objs.size,rawInt 0,.none,.none] }) rfl;rw[d]at this;exact this
 exact⟨⟨_,e,rfl⟩,h _ e ⟨_,aag _ (aao _ rfl),rfl,rfl⟩ λb o x=>aag _ (aag _ x)⟩
theorem BY{e l:Addr}{i:Nat}{old:Value}{Q:Option Value->Shared->Prop}(j:A.handled=none)(he:IsEnum s.heap e it i old)(a:s.heap.IsTupleIter it l i)(hl:s.heap.IsTuple l items)(g:items[i]?=none)
  (m:∀c,Heap.ExtBut it s.heap c->Q none { s with heap:=c }):wpAny (model prog w) A (pyNext (.ref e)) Q E s:=by
 have d:s.TypeIs (.ref e) "enumerate":=⟨_,he,rfl⟩
 unfold pyNext;refine aaa (aca (aaL (name:=Str.ofString "__next__") d F.slot_enumerate_next (aaM F.slot_enumerate_next d F.entry_enumerate_next ?_ (F.args_enumerate_next_1 _))));show wpAny _ _ (field (.ref e) 2 >>= _) _ _ _;refine aaa (aa1 he rfl (x:=.ref it) rfl (aaa (rg (A:=A.in1) j g s _ _ ⟨a,hl⟩ λc x n f=>?_)));obtain⟨o,h,k⟩:=f;exact aaa (wpAny_isInstance (T:="StopIteration") (b:=true) ⟨o,h,k⟩ isSubtype_stop (aaf (m _ n)))
end
def Po(K:ak)(a:Addr):It :=
  ⟨λi H=>∃xs x,bc K H a xs/\xs[i]?=some x,
   λi H v b=>∃T x,(∀xs,bc K H a xs->xs[i]?=some x)/\H T=none/\v=.ref T/\b=upd H T (.tup [.int i,x]),
   λi H=>∃xs,bc K H a xs/\xs.length<=i⟩
def xP{Z:Pos}{a e:Addr}(B:e≠it):
  Turn P w K (.Tuple elts n1 Z) (Po K a) [e,it] e (λi h=>(∃old,IsEnum h e it (i:Int) old)/\h.IsTupleIter it a i):=by
 refine⟨by simp,λi h f c b=>?_,λi h h' f k=>?_,?_,?_,λA i s Q E f hQ=>?_⟩
 ·obtain⟨⟨old,d⟩,⟨U,j,_,d1⟩⟩:=f;simp only[ft,eg,or_false]at b;rcases b with rfl|rfl
  ·exact⟨_,d,λv q=>by cases q⟩
  ·exact⟨U,j,λv q=>by rw[d1]at q;cases q⟩
 ·obtain⟨⟨old,d⟩,g⟩:=f;exact⟨⟨old,k e (by simp) _ d⟩,g.at λo z=>k it (by simp) o z⟩
 ·intro X M hw N b i pins s σ H E I n f G;subst M hw N;obtain⟨xs,x,m,Y⟩:=G;obtain⟨⟨old,d⟩,g⟩:=f;obtain⟨l,t,p,_⟩:=I.tuple m;obtain⟨u,W,ru⟩:=t.get Y;have pt:s.heap.IsTuple a l.toArray:=p;have J:a≠it:=by
   obtain⟨o,D,S,_⟩:=pt;obtain⟨U,j,c1,_⟩:=g;exact cV D j (by rw[S,c1];simp)
  have L:a≠e:=by
   obtain⟨o,D,S,_⟩:=pt;exact cV D d (by rw[S];simp)
  have GP:i<l.toArray.size:=by rw[cn];exact(List.getElem?_eq_some_iff.mp W).1
  refine wpAny_pyNext_enum_itemD (wC (A:=X.A.in1) (I.ok.hd b) it a J l.toArray) d ⟨g,pt⟩ GP B (by simp;exact⟨B,λz=>L z.symm⟩) λy h1 T V j a1 t1 PB C=>⟨_,rfl,?_⟩
  obtain rfl:y=u:=by
   have:l.toArray[i]?=some u:=by simpa using W
   rw[this]at V;cases V;rfl
  refine wpAny_letOwnedTupleGo_enum j λO e2 r=>?_;have Zt:s.heap.objs.size≠e:=aat (aah d);have kk:∀c o,c∉[e,it]->s.heap.get? c=some o->O.get? c=some o:=λc o b z=>by
   simp only[ft,eg,or_false,not_or]at b;exact r.extBut c o b.1 (C c o b.1 b.2 z)
  have hT:O.get? s.heap.objs.size=some { cls:=.type "tuple",data:=.seq #[.int i T,y] }:=r.extBut _ _ Zt t1;have hn:H s.heap.objs.size=none:=I.cD.fresh (aaj _);have ci:((i+1:Nat):Int)=(i:Int)+1:=by push_cast;rfl
  refine⟨.ref s.heap.objs.size,upd H s.heap.objs.size (.tup [.int i,x]),sF (s:=s) (h':=O) (t':=T+1) I n kk (aaj _) (nP ⟨_,rfl⟩ ru hT),rfl,⟨_,x,λzs hz=>by rw[I.l_ hz m];exact Y,hn,rfl,rfl⟩,⟨⟨y,by rw[ci];exact e2⟩,a1.1.extBut r.extBut B.symm⟩,λc b=>?_⟩;rw[bp]
  ·exact(n c b).1
  ·intro z;subst z;simp only[ft,eg,or_false]at b;rcases b with z|z
   ·exact absurd (aah d) (by rw[<- z];exact aau _)
   ·obtain⟨_,w,_⟩:=g;exact absurd (aah w) (by rw[<- z];exact aau _)
 ·intro X M hw N b i pins s σ H E I n f G;subst M hw N;obtain⟨xs,m,hl⟩:=G;obtain⟨⟨old,d⟩,g⟩:=f;obtain⟨l,t,p,_⟩:=I.tuple m;have j:=t.length;refine BY (I.ok.hd b) d g (show s.heap.IsTuple a l.toArray from p) (by simp;left) λh1 C=>⟨rfl,sE (t':=s.toks) I n λc o b z=>?_⟩
  simp only[ft,eg,or_false,not_or]at b;exact C c o b.2 z
 ·obtain⟨⟨old,d⟩,_⟩:=f;exact ab6 d hQ
def DQ{d:Expr}{l:TA}{r p:Pos}(B:Gl X "enumerate")(A:X.mg "enumerate" = none)(C:PA X [d] l)(hs:∀o,starEach (d::o) X.env=(false,eval d X.env)::starEach o X.env):
  PI X (.Tuple elts n1 r) (.Call (.Name "enumerate" p) [d] [] pos) (λσ H R=>l σ H λj g=>∃a,j=[.ref a]/\(∃xs,bc X.K g a xs)/\R (Po X.K a) g):=by
 intro pins s σ H R I h;refine Call_ (d_ I B A si (aar (dH (C pos pins s σ H _ I h) λG c D=>?_) (hs _) rfl));obtain⟨j,g,f,v,i⟩:=D;obtain⟨a,e,⟨xs,i⟩,q⟩:=i;subst e;obtain⟨u,rfl,t⟩:=vals1 v;cases t;obtain⟨E,_,x,_⟩:=f.tuple i;refine yT (show c.heap.IsTuple a E.toArray from x) λJ z y k=>ab6 z ?_;refine⟨c.heap.objs.size+1,[c.heap.objs.size+1,c.heap.objs.size],_,_,g,rfl,f.kept (t':=c.toks) k,xP (acC _),⟨⟨_,z⟩,y⟩,λb m=>?_,q⟩;have n:c.heap.objs.size<=b:=by
  simp only[ft,eg,or_false]at m;rcases m with rfl|rfl<;>first|exact acE .. |exact aaj _
 exact f.yD n (f.cD.fresh n)
def AX{p:Addr}{a:aa}{H2:Hp}:J7 K (Po K p) H2 [.ref p] [.tup a] (aw aI (br 0 a)):=by
 have len:(aw aI (br 0 a)).length=a.length:=by rw[aG,b4,iO]
 have two:∀{H':Hp} {R':aj},aF (bc K H') (nd K R' (λ_=>False) (λ_=>none) H') [] 0 [.ref p] (aw aI [.tup a]) ->
   ∃xs,bc K H' p xs/\aF (bc K H') (nd K R' (λ_=>False) (λ_=>none) H') [0] 0 xs (aw aI a):=by
  intro H' R' h;rw[aw,aE,aw]at h;cases h with
  |cons h t=>cases h with
   |tup h r=>exact⟨_,h,r⟩
 refine⟨λi H' R' _ h d=>?_,λi H' R' x q _ h d l=>?_,λi H' R' _ h d=>?_⟩
 ·obtain⟨xs,c,b⟩:=two h;rw[len]at d;have e:=b.length;rw[aG,b4]at e;exact⟨xs,xs[i]'(by left),c,aap _⟩
 ·obtain⟨xs,c,b⟩:=two h;obtain⟨T,u,n,m,rfl,rfl⟩:=l;obtain⟨o,g,k⟩:=b.qN (n xs c);have f:aM H' (upd H' T (.tup [.int i,u])):=aM.upd m;refine⟨f,.tup [.int i,o],?_,.tup (bc.of aZ) (.cons (.int _) (.cons (k.Vd f) .nil))⟩;rw[aG,List.getElem?_map]at g ⊢;obtain⟨c1,j,rfl⟩:=Option.map_eq_some_iff.mp g;rw[iP,j];simp[aE,aw]
 ·obtain⟨xs,c,b⟩:=two h;rw[len]at d;have e:=b.length;rw[aG,b4]at e;exact⟨xs,c,by left⟩
theorem rB{T:m9}{N N':jk}:∀{k k':bu} {n n':Nat} {vs:ah} {ds:aa},aF T N k n vs ds->aU anyF ds=false->aF T N' k' n' vs ds
 |_,_,_,_,_,_,.nil,_=>.nil
 |_,_,_,_,_,_,.cons h t,hf=>.cons (jS h (D3 hf).1) (rB t (D3 hf).2)
theorem any_drop:∀(k:Nat) {ds:aa},aU anyF ds=false->aU anyF (ds.drop k)=false
 |0,_,h=>h
 |k+1,[],h=>h
 |k+1,_::_,h=>any_drop k (D3 h).2
def oV{n k:Nat}(h:k<=n):HT.eF n 0 (some (k:Int))=k:=by
 unfold HT.eF;simp;rw[cb (by left)];left
def jq(n m:Nat):HT.eF n m none=m:=by
 unfold HT.eF;rfl
def g_:au
 |[.lst _ a]=>ok (.lst .ow (br 0 a))
 |[.tup a]=>ok (.lst .ow (br 0 a))
 |_=>none
def FC{n:Nat}(o:Φ n=g_){sc:Scope}{bl:aq}{k:Nat}(L:PX X sc bl k){e:Expr}(he:dY "enumerate" sc bl e=some args)(G:gu tg=true)(hs:qT X F Φ cs args)
  {pins:av} {s:Shared} {d:D} {items:aa} (I:Inv X pins σ H s) (E:SI X F R τ ρ σ H) (C:bJ Φ cs ρ=ok xs) (b:Φ n xs=ok d) (B:mf d=ok items) (h:It->Hp->Prop)
  (hR:∀J i f,aM H i->cI X.K (gP X F) R τ (dN cs) H i f xs->J7 X.K J i f xs items->h J i) :
  wpAny (model X.prog X.w) X.A (eval e X.env) (λv g=>wpAny (model X.prog X.w) X.A (pyIter v) (Cv X pins σ tg h) X.xe g) X.xe s:=by
 obtain⟨p,pos,a,rfl,rfl,z,y⟩:=gk he;cases tg<;>try (cases G;done)
 obtain⟨x,g⟩:=zF hs;rw[o]at b;unfold g_ at b;split at b
 ·cases b;cases B;refine HX (L.gl z) (L.bl _ y) x g pins s σ H h I ⟨R,τ,ρ,_,E,C,λf u r c=>?_⟩;have t:=c;obtain⟨j,M,m⟩:=c;obtain⟨v,rfl,l⟩:=m.one;cases l with
  |lst q _=>exact⟨_,rfl,⟨_,q.sq⟩,hR _ u _ r t CB⟩
 ·cases b;cases B;refine DQ (L.gl z) (L.bl _ y) x g pins s σ H h I ⟨R,τ,ρ,_,E,C,λf u r c=>?_⟩;have t:=c;obtain⟨j,M,m⟩:=c;obtain⟨v,rfl,l⟩:=m.one;cases l with
  |tup q _=>exact⟨_,rfl,⟨_,q⟩,hR _ u _ r t AX⟩
 ·cases b
def rZ(xs:aa):O D:=match two xs with
 |some z=>match z.2 with
  |.int k=>match z.1 with
   |.tup a=>if 1<=k/\k<=a.length/\aU anyF a=false then ok (.tup (a.drop k.toNat))else none
   |.lst _ a=>if 0<=k then ok (.lst .ow (aw bg (a.drop k.toNat)))else none
   |_=>none
  |_=>none
 |none=>none
def FU{x y d:D}(h:rZ [x,y]=ok d):∃(ds:aa) (k:Nat),y=.int k/\((x=.tup ds/\1<=k/\k<=ds.length/\aU anyF ds=false/\d=.tup (ds.drop k))\/∃f,x=.lst f ds/\d=.lst .ow (aw bg (ds.drop k))):=by
 cases y<;>first|exact nk h | (cases h;done) | (cases x<;>first|exact nk h | (cases h;done)|skip)
 ·obtain⟨⟨c,e,b⟩,a⟩:=mz h;rename_i k ds;exact⟨ds,k.toNat,by rw[ph (by left)],.inl ⟨rfl,by left,by left,b,a.symm⟩⟩
 ·obtain⟨c,a⟩:=mz h;rename_i k f ds;exact⟨ds,k.toNat,by rw[ph (by left)],.inr ⟨f,rfl,a.symm⟩⟩
def JQ:Cc (p9 true) rZ:=by
 intro Φ n M X sc bl k L e args he F cs u;obtain⟨a,ke,p,pos,rfl,rfl⟩:=sf he;cases cs with
 |nil=>exact u.elim
 |cons c cs=>cases cs with
  |nil=>exact u.2.2.2.elim
  |cons S cs=>cases cs with
   |cons _ _=>exact u.2.2.2.2.2.2.elim
   |nil =>
    obtain⟨V,_,_,U,_,_,_⟩:=u;have this:PE X (.Subscript a (.Slice (some ke) none none p) pos) (tD X F Φ (.cL n [c,S])):=by
     intro pins s σ H Q I z;obtain⟨R,τ,ρ,d,t,A,z⟩:=z;obtain⟨xs,r,A⟩:=aC A;obtain⟨x,Z,r⟩:=aC r;obtain⟨ys,J,r⟩:=aC r;cases r;obtain⟨y,Y,J⟩:=aC J;cases J;rw[M]at A;obtain⟨ds,j,rfl,O⟩:=FU A;rcases O with ⟨rfl,j1,j2,hf,rfl⟩|⟨f,rfl,rfl⟩
     ·refine o4 (Ma) V (sY U) sZ pins s σ H Q I (tD.intro t Z λv H1 o G=>tD.intro (t.go o) Y λw H2 b E=>?_);cases E.isInt;refine⟨j,rfl,?_⟩;obtain⟨B,W,C⟩:=G;cases C with
      | @tup _ q xs _ hT g =>
       have N:bc X.K H2 q xs:=bc.same b hT;have hlen:=g.length;have m:=o.trans b;refine⟨q,xs,rfl,N,by rw[oV (by left),jq];left,λl hl=>?_⟩;have T:mG xs (some (j:Int)) none=xs.drop j:=by
        unfold mG;rw[oV (by left),jq,<- hW,m1]
       rw[T];refine z _ _ (m.trans (aM.upd hl)) ⟨λ_=>none,λ_ _ h=>by simp at h,.tup (bc.of aZ) ?_⟩;have D:=rB (N':=nd X.K R (kN (gP X F) τ (iE (.cL n [c,S]))) (λ_=>none) H1) (k':=[]) (n':=0) (g.FI j) (any_drop j hf);exact(D.imp (λ_ _ h=>bc.same (b.trans (aM.upd hl)) h) λ_ _ _ _ h=>nd.same (b.trans (aM.upd hl)) h)
     ·refine o4 (L2.zm) V (sY U) sZ pins s σ H Q I (tD.intro t Z λv H1 o G=>tD.intro (t.go o) Y λw H2 b E=>?_);cases E.isInt;refine⟨j,rfl,?_⟩;have D:=(G.go b).mono (fv':=iE (.cL n [c,S])) λi hi=>aaw _ hi;obtain⟨B,W,C⟩:=D;obtain⟨q,xs,rfl,hn,g⟩:=C.qA;have m:=o.trans b;have hlen:=g.length;refine⟨q,xs,rfl,hn.sq,λl hl=>?_⟩;have T:mG xs (some (j:Int)) none=xs.drop j:=by
       by_cases hj:j<=xs.length
       ·unfold mG;rw[oV (by left),jq,<- hW,m1]
       ·rw[oe (by left)];unfold mG;have h0:xs.length<=HT.eF xs.length 0 (some (j:Int)):=by
         rw[HT.HM];left
        rw[oe h0];simp
      rw[T];refine z _ _ (m.trans (aM.upd hl)) (b_.qK (m.free hl) (m.trans (aM.upd hl)) aZ ?_);exact((g.FI j).fX t W).imp (λ_ _ h=>bc.same (aM.upd hl) h) λ_ _ _ _ h=>nd.same (aM.upd hl) h
    exact⟨this,cK this λ_=>rfl⟩
noncomputable def kb(ns:ae):Int:=ns.getD (argBest (λi j=>decide (ns.getD i 0>ns.getD j 0)) (ns.length - 1)) 0
def B7(o:X.calm=true):fY X (.builtin "max") (Xc kb X.K):=by
 intro pins s σ H xs z Q I r h;obtain⟨p,b,rfl,m,B,q⟩:=h;obtain⟨u,rfl,k⟩:=r.one;cases k;obtain⟨f,a,l,C⟩:=I.list m;have hlen:f.length=b.length:=by have:=a.length;simpa using this.symm
 refine call_max_walk (lE (df l) λd e j y x=>?_);subst e;refine⟨_,_,_,_,_,_,_,rfl,Walks.list (A:=X.A.in1) (I.ok.hd o) _ p x f.toArray,j,y,by simp;left,CmpOf.ints_gt (λi=>b.getD i 0) (λi v c=>zL a i v (by simpa using c)),λv D g c n=>?_⟩;obtain⟨t,rfl⟩:=zL a _ v (by simpa using c);exact⟨.int (kb b),H,I.kept (t':=g) (lD n),⟨t,by rw[hlen];rfl⟩,q⟩
abbrev maxD:au:=RU kb
abbrev MZ:=@KJ "max" kb (by decide) (by decide) B7 PyProof.Rows.boot_max
def Ay(xs:aa):O D:=match two xs with
 |some z=>match z.1 with
  |.lst _ a=>match z.2 with
   |.int k=>if k = -1/\1<=a.length then ok (.lst .ow (aw bg (a.take (a.length - 1))))else none
   |_=>none
  |_=>none
 |none=>none
def FT{x y d:D}(h:Ay [x,y]=ok d):∃(f:Fl) (ds:aa),x=.lst f ds/\y=.int (-1)/\1<=ds.length/\d=.lst .ow (aw bg (ds.take (ds.length - 1))):=by
 cases x<;>first|exact nk h | (cases h;done) | (cases y<;>first|exact nk h | (cases h;done)|skip)
 obtain⟨⟨c,b⟩,a⟩:=mz h;subst c;exact⟨_,_,rfl,rfl,b,a.symm⟩
def JP:Cc (p9 false) Ay:=by
 intro Φ n o X sc bl k L e args S F cs g;obtain⟨a,M,p,pos,rfl,rfl⟩:=sf S;cases cs with
 |nil=>exact g.elim
 |cons c cs=>cases cs with
  |nil=>exact g.2.2.2.elim
  |cons C cs=>cases cs with
   |cons _ _=>exact g.2.2.2.2.2.2.elim
   |nil =>
    obtain⟨U,_,_,T,_,_,_⟩:=g;have this:PE X (.Subscript a (.Slice none (some M) none p) pos) (tD X F Φ (.cL n [c,C])):=by
     refine PE.imp (o4 (L2.zm) U sZ (sY T)) λσ H Q r=>?_;obtain⟨R,τ,ρ,d,t,j,r⟩:=r;obtain⟨xs,b,j⟩:=aC j;obtain⟨x,Z,b⟩:=aC b;obtain⟨ys,m,b⟩:=aC b;cases b;obtain⟨y,Y,m⟩:=aC m;cases m;rw[o]at j;obtain⟨f,B,rfl,rfl,j2,rfl⟩:=FT j;refine tD.intro t Z λv H1 A J=>tD.intro (t.go A) Y λw H2 z I=>?_;cases I.isInt;refine⟨-1,rfl,?_⟩;have G:=(J.go z).mono (fv':=iE (.cL n [c,C])) λi O=>aaw _ O;obtain⟨D,W,E⟩:=G;obtain⟨q,xs,rfl,N,u⟩:=E.qA;have s:=A.trans z;have hlen:=u.length;refine⟨q,xs,rfl,N.sq,λl hl=>?_⟩;have EZ:mG xs none (some (-1))=xs.take (B.length - 1):=by
      unfold mG;have V:HT.eF xs.length xs.length (some (-1))=xs.length - 1:=by
       unfold HT.eF;simp;left
      rw[V,HT.jq,hlen];rfl
     rw[EZ];refine r _ _ (s.trans (aM.upd hl)) (b_.qK (s.free hl) (s.trans (aM.upd hl)) aZ ?_);exact((u.Ki (B.length - 1)).fX t W).imp (λ_ _ h=>bc.same (aM.upd hl) h) λ_ _ _ _ h=>nd.same (aM.upd hl) h
    exact⟨this,cK this λ_=>rfl⟩
theorem mv:fillsNumberSlot (.type "tuple") "mul" = pure false :=
 PySem.fillsNumberSlot_seq (id:="tuple.__mul__") (r:=some (.builtin "tuple.__rmul__")) F.slot_tuple_mul.lookup (by decide +kernel) F.slot_tuple_rmul.lookup (by decide +kernel)
theorem sT:seqRepeat? (.type "tuple")=pure (some (.builtin "tuple.__mul__")):=by
 unfold seqRepeat?;rw[PySem.seqSlot_of (T:="tuple") (name:="__mul__") (id:="tuple.__mul__") F.slot_tuple_mul.lookup (by decide +kernel),PySem.seqSlot_of (T:="tuple") (name:="__rmul__") (id:="tuple.__rmul__") F.slot_tuple_rmul.lookup (by decide +kernel)];rfl
def Dt(a:Int)(t:Tok)(l:Addr)(items:aW)(n:Nat)(dd:Option Addr)(b:Array (Option Value)):
  Meets (Builtin.«int.__rmul__» ⟨[.int a t,.ref l],[]⟩) (λ_ R s=>s.heap.get? l=some { cls:=.type "tuple",dict:=dd,data:=.seq items n,slots:=b }/\R (.ok (.ret Value.notImplemented)) s) :=
 .of_wp λprog w A R s h=>by obtain⟨f,g,d,c,e⟩:=s;obtain⟨hl,h⟩:=h;wp_walk;exact⟨_,rfl,h⟩
def Ei(l:Addr)(v:Value)(n:Nat)(u:Tok)(dd:Option Addr)(a:Array (Option Value)):
  Meets (Builtin.«tuple.__mul__» ⟨[.ref l,.int 3 u],[]⟩) (λ_ R s=>s.heap.get? l=some { cls:=.type "tuple",dict:=dd,data:=.seq #[v] n,slots:=a }/\R (.ok (.ret (.ref s.heap.objs.size))) { s with heap:=s.heap.push { cls:=.type "tuple",data:=.seq #[v,v,v] } }) :=
 .of_wp λprog w A R s h=>by
  obtain⟨e,g,d,b,c⟩:=s;obtain⟨hl,h⟩:=h;have i:=AutoSeq1.idx_int;have f:=abK
  wp_walk using AutoSeq1.wpAny_loadPart' hl
  exact⟨_,rfl,h⟩
section
variable {X:Cx}
theorem MK:kW X (binaryOp .Mult) (λx y H Q=>∃a i,x=.ref a/\y=.int 3/\bc X.K H a [.int i]/\∀p,H p=none->Q (.ref p) (upd H p (.tup [.int i,.int i,.int i]))):=by
 intro pins s σ H x y v u Q I m l h;obtain⟨a,i,rfl,rfl,z,q⟩:=h;cases m;obtain⟨t,rfl⟩:=l;obtain⟨C,r,p,_⟩:=I.tuple z;obtain⟨w,rfl,d⟩:=vals1 r;obtain⟨⟨A,j,data,e⟩,c,g,n,f⟩:=id p;simp only at g f;subst g f;refine PySem.wpAny_binaryOp_repeat_ref (T:="tuple") (U:="int") (by decide) ⟨_,c,rfl⟩ (λk=>typeIs_int k 3 t) mv F.fills_int_mul acj sT F.slot_int_index.lookup
  (abj acj (typeIs_int s 3 t) F.entry_int_rmul (F.args_int_rmul_2 _ _) (Dt 3 t a _ n j e)
   ⟨c,rfl,⟨_,c,rfl⟩,abj F.slot_tuple_mul ⟨_,c,rfl⟩ F.entry_tuple_mul (F.args_tuple_mul_2 _ _) (Ei a w n t j e) ⟨c,?_⟩⟩)
 refine⟨.ref s.heap.objs.size,_,I.laid (t':=s.toks) (o:=.tup [.int i,.int i,.int i]) (λb B q=>aag _ q) (aaj _) ?_,rfl,q _ (I.cD.fresh (aaj _))⟩;exact⟨by rw[sizeLine_eq];show 3<=16777216;decide,_,.cons d (.cons d (.cons d .nil)),IsTup.new _ _⟩
end
noncomputable def xR(xs:aa):O D:=match xs with
 |[.tup [.int i],.int k]=>if k=3 then ok (.tup [.int i,.int i,.int i])else none
 |_=>none
def Hi{x y d:D}(h:xR [x,y]=ok d):∃i,x=.tup [.int i]/\y=.int 3/\d=.tup [.int i,.int i,.int i]:=by
 unfold xR at h;split at h
 ·rename_i e;cases e;obtain⟨rfl,a⟩:=mz h;exact⟨_,rfl,rfl,a.symm⟩
 ·cases h
def FY(_:Scope)(_:aq)(e:Expr):Option (ao):=(LO e).bind λz=>if z.2.1=.Mult then some [z.1,z.2.2]else none
def FX{sc:Scope}{bl:aq}{e:Expr}(h:FY sc bl e=some args):∃a b p,e=.BinOp a .Mult b p/\args=[a,b]:=by
 obtain⟨⟨a,o,b⟩,c,h⟩:=bT h;obtain⟨d,h⟩:=gT h;cases h;obtain rfl:o=.Mult:=d;obtain⟨p,rfl⟩:=zh c;exact⟨a,b,p,rfl,rfl⟩
def LU:Cc FY xR:=by
 intro Φ n o X T bl k L e args D F cs g;obtain⟨a,b,pos,rfl,rfl⟩:=FX D;cases cs with
 |nil=>exact g.elim
 |cons c cs=>cases cs with
  |nil=>exact g.2.2.2.elim
  |cons O cs=>cases cs with
   |cons _ _=>exact g.2.2.2.2.2.2.elim
   |nil =>
    obtain⟨I,_,_,G,_,_,_⟩:=g;have this:PE X (.BinOp a .Mult b pos) (tD X F Φ (.cL n [c,O])):=by
     refine PE.imp (vH MK I G) λσ H Q p=>?_;obtain⟨R,τ,ρ,d,t,j,p⟩:=p;obtain⟨xs,f,j⟩:=aC j;obtain⟨x,M,f⟩:=aC f;obtain⟨S,m,f⟩:=aC f;cases f;obtain⟨y,J,m⟩:=aC m;cases m;rw[o]at j;obtain⟨i,rfl,rfl,rfl⟩:=Hi j;refine tD.intro t M λv Y s C=>tD.intro (t.go s) J λw W r B=>?_;cases B.isInt;obtain⟨u,U,A⟩:=C;cases A with
     | @tup _ q xs _ E z =>
      obtain rfl:xs=[V.int i]:=z.ofInts (ns:=[i]);have N:=s.trans r;refine⟨q,i,rfl,rfl,bc.same r E,λl hl=>p _ _ (N.trans (aM.upd hl)) ⟨λ_=>none,λ_ _ h=>by simp at h,.tup (bc.of aZ) (.cons (.int _) (.cons (.int _) (.cons (.int _) .nil)))⟩⟩
    exact⟨this,cK this λ_=>rfl⟩
end DI
end
section
namespace DI
open PySem PySem.Spec PyProof.Rows PySem.W
structure XC(K:Frag)(C:Addr):Prop where
 ga:findIn K (.ref C) "__getattribute__" = some (some (.builtin "BaseException.__getattribute__"))
 gt:findIn K (.ref C) "__getattr__" = some none
 cl:findIn K (.ref C) "__class__" = some (some (.builtin "object.__class__"))
 be:mroIn K C (.type "BaseException")=some true
 ob:mroIn K C (.type "object")=some true
 cs:(clsIn K C).isSome=true
section
variable {prog:aK}{w:World}{A:aN}{E:aD}{h:Heap}{g:Array GenState}{d:Drawn}{t:Nat}{os:OsState}{K:Frag}{x C:Addr}{o:Obj}
theorem Wl{R:Result->Shared->Prop}(Z:XC K C)(X:K.In h)(a:h.get? x=some o)(b:o.cls=.ref C)(i:R (.ok (.ret (.ref C))) ⟨h,g,d,t,os⟩):
  codeAny (model prog w) A (.call (.builtin "getset_descriptor.__get__") ⟨[.builtin "object.__class__",.ref x,.ref C],[]⟩) R ⟨h,g,d,t,os⟩:=by
 have c:=looks_mroIn (M:=model prog w) X Z.ob;refine ack KF.slot_gs.plain KF.entry_gs (KF.slot_gs.check _ _ _ _ _ _ _ _ KF.type_class (KF.args_gs _ _ _) ?_);have e:(⟨h,g,d,t,os⟩:Shared).TypeIs (.builtin "object.__class__") "getset_descriptor":=ace;have f:(".".intercalate ("object.__class__".cutAt '.').dropLast) = "object":=F.owner_object_class
 repeat (any_goals (first|assumption | (with_reducible refine abd a ?_;rw[b]) | (with_reducible refine c.at ?_) | (rw[f];with_reducible refine c.at ?_)|wp_step))
 refine⟨acr _ (by decide +kernel),abx F.entry_object_class ?_⟩
 repeat (any_goals (first|assumption | (with_reducible refine abd a ?_;rw[b])|wp_step))
theorem LC{tk:Tok}{Q:Fin->Shared->Prop}(Z:XC K C)(X:K.In h)(a:h.get? x=some o)(b:o.cls=.ref C)(f:Q (.done (.ret (.ref C))) ⟨h,g,d,t,os⟩):
  wpAny (model prog w) A (Builtin.«object.__getattribute__» ⟨[.ref x,.str "__class__" tk],[]⟩) Q E ⟨h,g,d,t,os⟩:=by
 have c:(⟨h,g,d,t,os⟩:Shared).TypeIs (.builtin "object.__class__") "getset_descriptor":=ace;have k:=ace;have j:=F.slot_gs_get.lookup;have i:=F.slot_gs_set.lookup;have e:=looks_findIn (M:=model prog w) X Z.cl
 repeat (any_goals (first|assumption | (with_reducible refine abd a ?_;rw[b]) | (with_reducible refine e.at ?_)|wp_step))
 refine Wl Z X a b ?_
 repeat (any_goals (first|assumption|wp_step))
theorem LD{M:Model}{a:Value}{Q:Unit->Shared->Prop}(Z:XC K C)(X:K.In h)(b:h.get? x=some o)(f:o.cls=.ref C)(c:Q () ⟨h,g,d,t,os⟩):
  wpAny M A (checkBuiltinCall "BaseException.__getattribute__" ⟨[.ref x,a],[]⟩) Q E ⟨h,g,d,t,os⟩:=by
 have e:builtinKind "BaseException.__getattribute__" = some .slot:=by decide +kernel
 have i:splitId "BaseException.__getattribute__" = some ("BaseException","__getattribute__"):=by decide +kernel
 have j:=looks_mroIn (M:=M) X Z.be;have k:=F.args_bexc_ga (.ref x) a;simp only[checkBuiltinCall,e,i];refine aaa ?_
 ·unfold isInstance
  repeat (first | (with_reducible refine abd b ?_;rw[f]) | (with_reducible refine j.at ?_)|wp_step)
  exact c
theorem Qt{tk:Tok}{R:Result->Shared->Prop}(B:ExcAttrFacts "ValueError")(Z:XC K C)(X:K.In h)(a:h.get? x=some o)(b:o.cls=.ref C)(c:R (.ok (.ret (.ref C))) ⟨h,g,d,t,os⟩):
  codeAny (model prog w) A (.call (.builtin "BaseException.__getattribute__") ⟨[.ref x,.str "__class__" tk],[]⟩) R ⟨h,g,d,t,os⟩ :=
 ack B.ga.plain F.entry_bexc_ga (LD Z X a b (LC Z X a b c))
def xby{tk:Tok}{Q:aD}(B:ExcAttrFacts "ValueError")(Z:XC K C)(X:K.In h)(a:h.get? x=some o)(b:o.cls=.ref C)(i:Q (.ref C) ⟨h,g,d,t,os⟩):
  wpAny (model prog w) A (getAttrBy (.ref x) (.str "__class__" tk) false) Q E ⟨h,g,d,t,os⟩:=by
 have j:=B.ga.bind (.ref x);have c:(false&&onTheHeap (Value.builtin "BaseException.__getattribute__"))=false:=rfl;have e:(Value.builtin "BaseException.__getattribute__" == Value.builtin "object.__getattribute__")=false:=by decide +kernel
 have k:(onTheHeap (Value.ref C)&&Value.builtin "BaseException.__getattribute__" == Value.builtin "object.__getattribute__")=false:=by rw[e];rfl
 have f:=looks_findIn (M:=model prog w) X Z.ga;have L2:=looks_findIn (M:=model prog w) X Z.gt
 repeat (any_goals (first|assumption | (with_reducible refine abd a ?_;rw[b]) | (with_reducible refine f.at ?_) | (with_reducible refine L2.at ?_)|wp_step))
 refine Qt B Z X a b ?_
 repeat (any_goals (first|assumption|wp_step))
def Qu{Q:Option Value->Shared->Prop}(B:ExcAttrFacts "ValueError")(Z:XC K C)(X:K.In h)(a:h.get? x=some o)(b:o.cls=.ref C)(c:Q (some (.ref C)) ⟨h,g,d,t+1,os⟩):
  wpAny (model prog w) A (getAttr? (.ref x) "__class__") Q E ⟨h,g,d,t,os⟩:=by
 unfold getAttr? getAttrBy?
 repeat (any_goals (first|assumption|with_reducible apply xby B Z X a b|wp_step))
end
def y2(x C:Addr)(h:Heap):Prop:=∃o,h.get? x=some o/\o.cls=.ref C
def Ey{K:Frag}{x C:Addr}(B:ExcAttrFacts "ValueError")(Z:XC K C):KitX K (.ref x) (.ref C) (y2 x C) where
 ty:=λM h _ p=>by
  obtain⟨o,f,c⟩:=p;exact c▸(Looks.ld f).andThen .now
 it:=λ_ _ X _=>by
  obtain⟨i,a⟩:=Option.isSome_iff_exists.mp Z.cs;unfold clsIn at a;split at a
  ·rename_i r m j u b;intro L I J D k q;unfold isType loadHead;exact aaa (wpAny_loadPart (k _ _ (X _ _ b)) (aaf q))
  ·cases a
 ne:=λh l G H n y X v=>by
  obtain⟨i,a⟩:=Option.isSome_iff_exists.mp Z.cs;refine Bool.eq_false_iff.mpr λq=>?_;have e:C=l:=Value.ref.inj (beq_iff_eq.mp q);subst e;unfold clsIn at a;split at a
  ·rename_i r m j u b;have z:=(X _ _ b).symm.trans v;cases z
  ·cases a
 ca:=λ{prog w A E Q s} X p k=>by
  obtain⟨o,f,c⟩:=p;obtain⟨h,g,d,t,F⟩:=s;exact Qu B Z X f c k
end DI
end
section
namespace DI
open PySem PySem.Spec PyProof.Rows L2
def Wi(l:List Env)(H':Hp)(h h' B:Heap):Prop:=∀b o,h'.get? b=some o->b∉mD l->(H' b≠none\/h.get? b≠none)->B.get? b=some o
variable {B base h h' h2 h3:Heap}{H H' H1:Hp}
def moved{l:List Env}(un:Un (mD l) [] H H' h h2)(t:j6 H' h2)(v:Wi l H' h h2 B)(r:h.FunFrames base l)(w:∀b∈mD l,H b=none)
  (A:B.StaysIn h3) (i:h2.UpToSlots h3):Un (mD l) [] H H' h h3/\j6 H' h3/\Wi l H' h h3 B:=by
 have F:∀b∈mD l,H' b=none:=λb c=>by
  obtain⟨_,o,E,_⟩:=r.mem c;exact un.free b o E (w b c) (by simp)
 have keep:∀b o,h2.get? b=some o->b∉mD l->(H' b≠none\/h.get? b≠none)->h3.get? b=some o:=λb o e c d=>A b o (v b o e c d);have slot:∀b o,h.get? b=some o->b∈mD l->∃i,h3.get? b=some { o with slots:=i }:=λb o e c=>by
  obtain⟨C,f⟩:=un.slot b o e (w b c) c (by simp);obtain⟨_,k,m,D⟩:=r.mem c;rw[e]at m;cases m;obtain⟨x,g⟩:=i b _ f (λy z=>D y z);exact⟨x,g⟩
 refine⟨⟨λb o e n c _=>keep b o (un.keep b o e n c (by simp)) c (.inr (by rw[e];simp)),λb o e n c _=>slot b o e c,un.free,λb o e _=>?_,un.nj,un.mC⟩,λa o e=>?_,λb o e c d=>?_⟩
 ·by_cases c:b∈mD l
  ·obtain⟨G,f⟩:=slot b o e c;exact⟨_,f⟩
  ·obtain⟨k,f⟩:=un.there b o e (by simp);exact⟨k,keep b k f c (.inr (by rw[e];simp))⟩
 ·have p:H' a≠none:=by rw[e];simp
  exact(t a o e).jn λu q=>keep a u q (λz=>p (F a z)) (.inl p)
 ·have:∃j,h2.get? b=some j:=by
   rcases d with d|d
   ·cases q:H' b with
    |none=>exact absurd q d
    |some u=>exact gM (t b u q)
   ·cases q:h.get? b with
    |none=>exact absurd q d
    |some u=>exact un.there b u q (by simp)
  obtain⟨j,g⟩:=this;have s:=keep b j g c d;rw[e]at s;cases s;exact v b _ g c d
structure Wg(P:aK)(w:World)(C:Addr)(l:List Env)(H:Hp)(s:Shared)(e:Addr)(H':Hp)(s':Shared):Prop where
 fly:∃t B,Heap.FlyingW B l e (.ref C) (.ref t) s'.heap/\Wi l H' s.heap s'.heap B
 os:s'.os=s.os
 bare:AllBare s'.gens
 un:Un (mD l) [] H H' s.heap s'.heap
 cD:j6 H' s'.heap
abbrev uR(P:aK)(w:World)(C:Addr):Cd:=λl H s E e b=>∃a H',e=.ref a/\Wg P w C l H s a H' b/\E (.ref C) none H'
def wq{l:List Env}{e:Addr}{cls j:Value}(f:Heap.FlyingW B l e cls j h):e∉mD l:=λg=>by
 obtain⟨_,o,d,c⟩:=f.2.2.1.mem g;obtain⟨k,b,a,_,i,_⟩:=f.first;rw[d]at a;cases a;exact c b i
variable {C ea f:Addr}{P:aK}{w:World}
def Wg.new{l:List Env}{s s':Shared}{e:Addr}(f:Wg P w C l H s e H' s'):H' e=none/\s.heap.get? e=none:=by
 obtain⟨t,B,b,g⟩:=f.fly;obtain⟨c,i,d,_⟩:=b.first;have a:¬ (H' e≠none\/s.heap.get? e≠none):=λz=>by
  have:=g e c d (wq b) z;rw[b.2.1]at this;cases this
 exact⟨Classical.not_not.mp λz=>a (.inl z),Classical.not_not.mp λz=>a (.inr z)⟩
variable {s1:Shared}{σ:L2.St}
section
variable {P:aK}{w:World}{C:Addr}{K:ak}{mg:aY}{base:Heap}{N:aq}{qual:Str}{scope:Scope}{f:Addr}{cd:Value}{A:aN}{outer:List Env}{s:Shared}{H:Hp}{E:XK}
def left{pins:av}{s2:Shared}{t:Addr}
  (I:Inv (jH (uR P w C) P w K mg base N qual scope f cd A outer s H E) pins σ H1 s1)
  (un:Un (mD (jH (uR P w C) P w K mg base N qual scope f cd A outer s H E).stack) [] H1 H' s1.heap h2) (n:j6 H' h2) (r:Wi (jH (uR P w C) P w K mg base N qual scope f cd A outer s H E).stack H' s1.heap h2 B)
  (g:Heap.FlyingW B outer ea (.ref C) (.ref t) h3) (j:h2.UpToSlots h3) (k:s2.os=s1.os) (bare:AllBare s2.gens):Wg P w C outer H s ea H' { s2 with heap:=h3 }:=by
 obtain⟨c,i,p⟩:=moved un n r I.stack I.lj g.1 j;have J:=I.AG (s':={ s2 with heap:=h3 }) (ch:=[]) k c i bare λ_ z=>nomatch z;refine⟨⟨t,B,g,λb o e l a=>?_⟩,J.os,bare,J.base,i⟩;have d:b≠s.heap.objs.size:=by
  rcases a with a|a
  ·rintro rfl;exact a J.free
  ·rintro rfl;exact a (Heap.get?_none_of_le (aaj _))
 refine p b o e (λz=>?_) ?_
 ·rcases List.mem_cons.mp (I.kv b z)with z|z
  ·exact d z
  ·exact l z
 ·rcases a with a|a
  ·exact .inl a
  ·right;cases q:s.heap.get? b with
   |none=>exact absurd q a
   |some u =>
    obtain⟨v,m⟩:=I.base.there b u q (by intro z;cases z);rw[m];simp
def RB{E1:XK}(j:∀H',E1 (.ref C) none H'->E (.ref C) none H'):Passes (uR P w C) (jH (uR P w C) P w K mg base N qual scope f cd A outer s H E) E1:=by
 intro pins σ H1 s1 e c I g;obtain⟨ea,H',rfl,⟨⟨t,B,k,m⟩,d,bare,un,l⟩,i⟩:=g;show wpAny (model P w) _ (leaving _ (.ref ea)) _ _ c;refine wpAny_leaves_onW (L:=s.heap.objs.size) I.ok.frames rfl k λh' a b=>?_;exact⟨ea,H',rfl,left I un l m a b d bare,j H' i⟩
def HQ{pins:av}{vs:az}
  (I:Inv (jH (uR P w C) P w K mg base N qual scope f cd A outer s H E) pins σ H1 s1) (d:Heap.MadeExcOf s1.heap h' ea (.ref C) vs) (he:E (.ref C) none H1) :
  (jH (uR P w C) P w K mg base N qual scope f cd A outer s H E).xe (.ref ea) { s1 with heap:=h' }:=by
 show wpAny (model P w) _ (leaving _ (.ref ea)) _ _ _
 let l:=(jH (uR P w C) P w K mg base N qual scope f cd A outer s H E).stack
 let B:=PySem.W.hideAll s1.heap (mD l)
 have r:B.StaysIn s1.heap:=λb o e=>PySem.W.of_hideAll _ e;refine wpAny_leaves_madeW (h:=s1.heap) (base:=B) (L:=s.heap.objs.size) I.ok.frames rfl r (PySem.W.funFrames_hide (as:=mD l) I.stack λi he a p=>List.mem_filterMap.mpr ⟨i,he,p⟩) d λv t x _ _ m=>?_;refine⟨ea,H1,rfl,left (s2:=s1) (H':=H1) I (Un.kept d.keeps) (I.cD.kept d.keeps) (λb o e n c=>?_) x m rfl I.bare,he⟩;have:∃g,s1.heap.get? b=some g:=by
  rcases c with c|c
  ·cases q:H1 b with
   |none=>exact absurd q c
   |some u=>exact gM (I.cD b u q)
  ·cases q:s1.heap.get? b with
   |none=>exact absurd q c
   |some u=>exact⟨u,rfl⟩
 obtain⟨g,k⟩:=this;have j:=d.keeps b g k;have e:h'.get? b=some o:=e;rw[e]at j;cases j;exact PySem.W.hideAll_get _ k n
end
abbrev LI:az:=[.type "ValueError",.type "Exception",.type "BaseException",.type "object"]
abbrev qU(x:Str)(C:Addr)(mg:aY)(h:Heap):Prop:=OwnCls x C LI "ValueError.__new__" mg h
variable {K:ak}
def Af(q:PySem.W.excIn K C LI "ValueError.__new__" = true):∃(dd:Option Addr) (nm:Str) (bs bm:az) (ns:Addr) (g:Str) (i:Bool) (sn:aq) (sub:az) (ab:Bool) (col:Option Bool) (k0 k1 k2 k3 k5:Option Value),
  K.lookup C=some (excClassObj nm g C ns bs bm i sn sub ab col dd k0 k1 k2 k3 k5 "ValueError.__new__")/\PySem.W.tailIn K LI bm=true/\PySem.W.nsOkIn K ns=true/\PySem.W.nsIn K ns "__init__" = some none:=by
 unfold PySem.W.excIn at q;split at q
 case h_2=>cases q
 case h_1 dd cd sl ho =>
  split at q
  case h_2=>cases q
  case h_1 C' bm k0 k1 k2 k3 n k5 hm hs =>
   rw[cM,cM,cM,cM,cM]at q;obtain⟨⟨⟨⟨⟨d,c⟩,b⟩,m⟩,k⟩,a⟩:=q;have d:=beq_iff_eq.mp d;have c:=beq_iff_eq.mp c;have a:=beq_iff_eq.mp a;subst d;subst c;cases cd with
   |mk nm bs j ns g i sn sub ab col e =>
    cases hm;have b:e=false:=by simpa using b
    subst b;cases sl with
    |mk l =>
     cases hs;exact⟨_,_,_,_,_,_,_,_,_,_,_,_,_,_,_,_,ho,m,k,a⟩
variable {mg:Str->Option Value}
def iK{x:Str}(X:K.In h)(G:h.Ns mainGlobals mg)(e:PySem.W.nsIn K mainGlobals x=some (some (.ref C)))(q:PySem.W.excIn K C LI "ValueError.__new__" = true):qU x C mg h:=by
 obtain⟨_,_,_,_,_,_,_,_,_,_,_,_,_,_,_,_,b,d,a,c⟩:=Af q;exact⟨abu X G e,_,_,_,_,_,_,_,_,_,_,_,_,_,_,_,_,_,X _ _ b,.of_isNs (PySem.W.isNs_of_in X a),PySem.W.nsMap_none_of_in X a c,PySem.W.tail_of_in X d⟩
variable {cpos np p1 p2 p3 pos:Pos}
section
variable {X:Cx}{C:Addr}{x:Str}
def LX(X:Cx)(C:Addr):TS:=λD σ H=>∀pins s h' ea a,Inv X pins σ H s->Heap.MadeExcOf s.heap h' ea (.ref C) a->X.xe (.ref ea) { s with heap:=h' }
theorem DH{m:Str}{j:Nat}{p:Pos}(V:X.calm=true)(O:qU x C X.mg X.base)(S:Gl X x)(U:(x==("__debug__" : Str))=false):
  PS X (.Raise (some (.Call (.Name x np) [.Constant (.str m) j p] [] cpos)) none pos) (LX X C):=by
 intro pins s σ H D I hw;obtain⟨J,N,k,q,bs,a,i,sub,E,b,A,v,u,t,o,n,l,Y,W,d,T⟩:=O.obj;refine wpAny_Raise_call_subT (C:=C) (nm:=k) (q:=q) (N:=N) (bs:=bs) (bm:=J) (hdct:=a) (sn:=i) (sub:=sub) (ab:=E) (col:=b) (dd:=A) (k0:=v) (k1:=u) (k2:=t) (k3:=o) (k5:=n)
  F.excBase_ValueError (mN:=l) (T.hasType F.excBase_ValueError.hasBase) (I.ok.hd V) rfl d (tO I S O.bound ⟨rfl,?_⟩ U)
 have z:starEach [.Constant (.str m) j p] X.env=(false,eval (.Constant (.str m) j p) X.env)::starEach [] X.env:=rfl;have y:=cy (tm (X:=X) (x:=m) (j:=j) (pos:=p)) d7 z cpos pins s σ H (λg H'=>H'=H/\g.length<=1) I ⟨rfl,aaj 1⟩;rw[z]at y ⊢;refine aci (dH y λG L Z=>?_);obtain⟨g,H2,c,r,Q,M⟩:=Z;subst Q;exact⟨rfl,by rw[<- r.length];exact aaG M (by decide),c.bk _ _ Y,W.keeps c.bk,T.keeps c.bk,λh' e R=>hw pins L h' e G c R⟩
end
variable {X:Cx}
def Cx.Ok.mk'(ok:X.Ok)(e:Value)(E:aD):Cx.Ok { X with A:=X.A.mark (some e),calm:=false,xe:=E } :=
 ⟨ok.mod,ok.kind,ok.glob,ok.blt,ok.above,ok.inj,ok.has,ok.Le,(λh=>by cases h),ok.frames,ok.L3,ok.T6,ok.bs,ok.Gh,ok.vM,ok.yF,ok.kC,ok.Cs⟩
def EI{pins:av}{s:Shared}(I:Inv X pins σ H s)(e:Value)(E:aD):Inv { X with A:=X.A.mark (some e),calm:=false,xe:=E } pins σ H s :=
 ⟨Cx.Ok.mk' I.ok e E,I.os,I.bare,I.base,I.loc,I.cell,I.free,I.gw,I.pin,I.cD,I.len⟩
variable {E:Value->Shared->Prop}
def yr{pins:av}{s:Shared}{e:Value}(ok:X.Ok)(I:Inv { X with A:=X.A.mark (some e),calm:=false,xe:=E } pins σ H s):Inv X pins σ H s :=
 ⟨ok,I.os,I.bare,I.base,I.loc,I.cell,I.free,I.gw,I.pin,I.cD,I.len⟩
def HY{i:Nat}{x:Str}(d:X.N[i]?=some x)(b:Pl X.env.scope x)(c:(x==("__debug__" : Str))=false)(a:(x==("__classdict__" : Str))=false):PE X (.Name x pos) (nA i):=ml d b c a
noncomputable def only(n j:Nat)(v:V):St:=(List.replicate n none).set j (some v)
def D8{n j i:Nat}{v w:V}(h:(only n j v)[i]?=some (some w)):i=j/\w=v:=by
 unfold only at h;by_cases a:i=j
 ·subst a;refine⟨rfl,?_⟩;by_cases hl:i<n
  ·rw[List.getElem?_set_self (by simpa using hl)]at h;cases h;rfl
  ·rw[List.getElem?_eq_none (by simpa using hl)]at h;cases h
 ·rw[List.getElem?_set_ne (Ne.symm a),List.getElem?_replicate]at h;split at h<;>cases h
variable {A:aN}
section
variable {X:Cx}{C:Addr}{x n y:Str}{i j:Nat}{E1:XK}
def yh{M:Model}{pins:av}{s:Shared}{v:V}{Q:Unit->Shared->Prop}(I:Inv X pins σ H s)(hl:X.env.kindOf n=some .local)(X9:y≠n)(nd:X.N.Nodup)(J:X.N[j]?=some y)(hv:σ[j]?=some (some v))
  (h:∀G,Inv X pins (only X.N.length j v) H G->Q () G):wpAny M A (do bindName X.env n .none;unbindBehindTheSuite X.env n pos) Q E s:=by
 obtain⟨m,hn,t⟩:=id I.loc;have U:(X.env.scope.kind==.class||(X.env.scope.kind==.module&&X.env.locals != X.env.globals))=false:=by rw[I.ok.kind];rfl
 refine wpAny_nameGoes_keeps hl hn U λh' u O a=>h _ ?_;have tracked:j6 H h':=λb W e=>by
  exact(I.cD b W e).jn λF q=>(a.2 b (by rintro rfl;rw[I.free]at e;cases e)).trans q
 refine⟨I.ok,I.os,I.bare,⟨λb o e n D l=>?_,λb o e n D l=>?_,I.base.free,λb o e l=>?_,I.base.nj,I.base.mC⟩,⟨_,O,λk z v' g e2 e3=>?_⟩,λz c e=>?_,I.free,I.gw,λp hp=>?_,tracked,by unfold only;simp⟩
 ·exact(a.2 b (aan (aal (aah e) I.ok.above))).trans (I.base.keep b o e n D l)
 ·obtain⟨S,g⟩:=I.base.slot b o e n D l;exact⟨S,(a.2 b (aan (aal (aah e) I.ok.above))).trans g⟩
 ·obtain⟨Y,g⟩:=I.base.there b o e l;exact⟨Y,(a.2 b (aan (aal (aah e) I.ok.above))).trans g⟩
 ·obtain⟨rfl,rfl⟩:=D8 e2;rw[J]at g;cases g;obtain⟨R,T,q⟩:=t k y _ J hv e3;refine⟨R,T,?_⟩;rcases q with ⟨r,e⟩|⟨r,c,e,z⟩
  ·exact .inl ⟨r,by show(if y=n then u else m y)=_;rw[cb X9];exact e⟩
  ·exact .inr ⟨r,c,e,z.sameBut a (I.JT y c e)⟩
 ·obtain⟨F,L⟩:=I.cell z c e;exact⟨F,L.sameBut a (I.JT z c e)⟩
 ·obtain⟨e,n,ne,Z,d⟩:=I.pin p hp;exact⟨(a.2 p.1 ne).trans e,n,ne,Z,d⟩
end
noncomputable abbrev Cx.nq(X:Cx)(pins:av)(E:aD):Cx:={ X with xe:=E,pn:=X.pn++pins }
section
variable {X:Cx}{C:Addr}{x n y:Str}{i j:Nat}{E1:XK}
def IL{pins:av}{s:Shared}(I:Inv X pins σ H s)(E:aD):Inv (Cx.nq X pins E) [] σ H s :=
 ⟨⟨I.ok.mod,I.ok.kind,I.ok.glob,I.ok.blt,I.ok.above,I.ok.inj,I.ok.has,I.ok.Le,I.ok.hd,I.ok.frames,I.ok.L3,I.ok.T6,I.ok.bs,I.ok.Gh,I.ok.vM,I.ok.yF,I.ok.kC,I.ok.Cs⟩,I.os,I.bare,I.base,I.loc,I.cell,I.free,I.gw,λp a=>I.pin p (by simpa using a),I.cD,I.len⟩
def ip{pins q:av}{s:Shared}(I:Inv (Cx.nq X pins E) q σ H s):Inv X pins σ H s :=
 ⟨⟨I.ok.mod,I.ok.kind,I.ok.glob,I.ok.blt,I.ok.above,I.ok.inj,I.ok.has,I.ok.Le,I.ok.hd,I.ok.frames,I.ok.L3,I.ok.T6,I.ok.bs,I.ok.Gh,I.ok.vM,I.ok.yF,I.ok.kC,I.ok.Cs⟩,I.os,I.bare,I.base,I.loc,I.cell,I.free,I.gw,λp a=>I.pin p (aaw _ a),I.cD,I.len⟩
def tracked{l:List Env}(un:Un (mD l) [] H H' h h')(t:j6 H' h')(r:H' ea=none)(p:h.get? ea=none)(d:y2 ea C h'):
  Un (mD l) [] H (upd H' ea (.ext (y2 ea C))) h h'/\j6 (upd H' ea (.ext (y2 ea C))) h':=by
 have ne:∀b u,H' b=some u->b≠ea:=λb u q=>d8 q r;refine⟨⟨un.keep,un.slot,λb o e n s=>?_,un.there,λb m q=>?_,λb o u q=>?_⟩,λb u q=>?_⟩
 ·have:b≠ea:=by rintro rfl;rw[p]at e;cases e
  rw[bp this];exact un.free b o e n s
 ·have:=un.nj b m q;rw[bp (ne _ _ this)];exact this
 ·have:=un.mC b o u q;rw[bp (ne _ _ this)];exact this
 ·by_cases g:b=ea
  ·subst g;rw[aZ]at q;cases q;obtain⟨o,a,c⟩:=d;exact⟨⟨o,a,c⟩,⟨o,a⟩,λv h2 ⟨o,a,c⟩ k=>⟨o,k o a,c⟩⟩
  ·rw[bp g]at q;exact(t b u q).jn λ_ q=>q
end
variable {N ps:aq}{qual:Str}{st:Stmt}
theorem ZF{CX:Cd}{x:Str}{b:FuncData}{k:Nat}{sp:Sp}(F:GC K x qual st f b)(S:gV N ps (aO st))(len:∀vs H Q E,sp vs H Q E->vs.length=ps.length)
  (e:∀(a:Value) (A:aN) (outer:List Env) (s:Shared) (H:Hp) (vs:ah) (Q:VK) (E:XK),hV k (A.deeper (envOfC qual (aO st) s.heap.objs.size f a))->sp vs H Q E ->
   ∃t,iA (jH CX P w K mg base N qual (aO st) f a A outer s H E) (bM st) t/\t { nx:=λ_ H'=>Q .bP H',rt:=Q } (L2.start N vs) H):iB P w K mg base CX (k+1) f b ps sp:=by
 obtain⟨n,m,kV,j,l,p,a,o,q,rfl,g,c⟩:=F.ex;exact K6 g c S len λA outer s H vs Q E i d=>e a A outer s H vs Q E i d
def WY(K:ak)(C:Addr)(n:Nat)(b:aa->Prop):Sp:=λa H _ E=>∃(F:aj) (ds:aa),a.length=n/\aF (bc K H) (nd K F (λ_=>False) (λ_=>none) H) [] 0 a ds/\b ds/\∀H',aM H H'->E (.ref C) none H'
variable {F R1:Addr->Prop}
def vn{vs:ah}{ds:aa}(m:X.H₀=H)(hl:ds.length<=N.length)(rs:aF (bc X.K H) (nd X.K F (λ_=>False) (λ_=>none) H) [] 0 vs ds):
  SI X F (λp=>F p/\H p≠none) (λ_=>none) (ds.map some++List.replicate (N.length - ds.length) none) (L2.start N vs) H:=by
 have g:vs.length=ds.length:=rs.length;refine⟨?_,λi d a=>?_,λ_ _=>rfl,λp h=>h.2,λp h=>.inl h.1,λ_ _ h=>by simp at h,λ_ _ h=>by simp at h,m▸aM.refl H⟩
 ·unfold L2.start;simp[g]
 ·have e:i<ds.length:=by
   by_cases b:i<ds.length
   ·exact b
   ·rw[List.getElem?_append_right (by simpa using b),List.getElem?_replicate]at a;split at a<;>simp at a
  rw[List.getElem?_append_left (by simpa using e),List.getElem?_map]at a;have l:ds[i]?=some d:=by
   cases q:ds[i]? with
   |none=>rw[q]at a;exact nk a
   |some z=>rw[q]at a;simp at a;rw[a]
  obtain⟨v,k,j⟩:=rs.get l;refine⟨v,?_,j.imp (q:=[0+i]) (q':=[i]) (λ_ _ h=>h) λc p n f h=>?_⟩
  ·unfold L2.start;rw[List.getElem?_append_left (by rw[b4,g];exact e),List.getElem?_map,k];rfl
  ·cases f with
   |ow=>exact nomatch h.2
   |fz=>exact⟨h.1,h.2,h.1.ne⟩
   |al=>exact h.2.elim
   |sc=>exact h
def lh(X:Cx)(F:aj)(a:aX->Prop):TS:=λ_ σ H=>∃R c b,SI X F R c b σ H/\a b
theorem PS.zJ{X:Cx}{st:Stmt}{t:TS}(h:PS X.zJ st t):PS X st t:=λpins s σ H D I hw =>
 aav (h pins s σ H D (I.oH _) hw) (λ_ _ q=>q.iG) λ_ _ q=>q.elim
theorem SI.zJ{X:Cx}{F R:aj}{a:Addr->Option bu}{ρ:aX}{σ:St}{H:Hp}(S:SI X F R a ρ σ H):SI X.zJ F R a ρ σ H:=⟨S.len,S.rep,S.rt,S.rh,S.rf,S.th,S.t0,S.same⟩
variable {ρ:aX}
def SI.QD{R:Addr->Prop}{a:Addr->Option bu}(S:SI X.zJ F R a ρ σ H):SI X F R a ρ σ H:=⟨S.len,S.rep,S.rt,S.rh,S.rf,S.th,S.t0,S.same⟩
def A6(X:Cx)(F:aj)(a:aX->Prop):TE:=λσ H _=>∃R b ρ,SI X F R b ρ σ H/\a ρ
section
variable {X:Cx}{S:Sx}{k:Nat}{Φ:aT}{F:aj}{bad:aX->Prop}{C:Addr}
def Jn{l:Addr}{i:FuncData}{j:aq}{d:aa->Prop}{m:aA}{g:Str}{e:Expr}{es:ao}(L:Lk X S k Φ)(v:Passes (uR X.prog X.w C) X (λc _ H'=>c=.ref C/\aM X.H₀ H'))
  (U:iB X.prog X.w X.K X.mg X.base (uR X.prog X.w C) k l i j (WY X.K C j.length d)) (h2:iD S.sc g=true) (z:X.mg g=some (.ref l)) (y:PySem.W.keepIn X.K (.ref l)=true) (G:Binds X.K i j []) (D:(g==("__debug__" : Str))=false)
  (h3:b7 S m (e::es)=true) (u:∀r,starEach (e::r) X.env=(false,eval e X.env)::starEach r X.env) (hpl:(backTo cpos (starEach es X.env)).any (·.1)=false) :
  PE X (.Call (.Name g np) (e::es) [] cpos) (A6 X F λρ=>∃a,bJ Φ m ρ=ok a/\d (aw aI a)/\a.length=j.length):=by
 refine PE.imp (zD (X:=X) (p:=np) (pos:=cpos) U L.room (L.gl h2) z y G .nil v (sJ (F:=F) L m (e::es) h3) D (u _) hpl) λσ H Q x=>?_;obtain⟨R,q,ρ,n,a,T,M,O⟩:=x;refine⟨R,q,ρ,a,n,T,λs H2 I t=>?_⟩;obtain⟨o,Z,b⟩:=t;rw[hH];refine⟨λ_=>True,aw aI a,by rw[b.length,O],aF.jd (λ_ _ h=>h) (λk Y p V f h=>?_) b _ _,M,λH' J=>⟨rfl,(n.same.trans I).trans J⟩⟩;cases f with
 |ow=>exact⟨h.1,trivial⟩
 |fz=>exact⟨h.1,trivial⟩
 |al=>exact⟨h.1,trivial⟩
 |sc=>exact h
def OQ{e:Expr}(h:PE X e (A6 X F bad)):PS X (.Return (some e) pos) (lh X F bad):=PS.imp (o3 h) λ_ _ _ q=>q
def K9{e:Expr}(h:PE X e (A6 X F bad))(hs:swapsWith e none pos.line X.env=pure false):PS X (.Expr e pos) (lh X F bad):=PS.imp (nS h hs) λ_ _ _ q=>q
def OP{i:Nat}{x:Str}{e:Expr}{p:Pos}(c:X.N.Nodup)(b:X.N[i]?=some x)(a:L2.Loc X.env.scope x)(hf:X.fn x=true)(h:PE X e (A6 X F bad))(hs:swapsWith e (some (.Name x p)) pos.line X.env=pure false):PS X (.Assign [.Name x p] e pos) (lh X F bad) :=
 PS.imp (oZ c b a h hs (.inl hf)) λ_ _ _ q=>q
end
def WA(C:Addr)(i:Nat)(b:Bool):TE:=λσ H Q=>∃ea,σ[i]?=some (some (.ref ea))/\H ea=some (.ext (y2 ea C))/\Q (.bl b) H
def QO(C:Addr)(i:Nat)(bs:List Bool):TA:=λσ H Q=>∃ea,σ[i]?=some (some (.ref ea))/\H ea=some (.ext (y2 ea C))/\Q (bs.map V.bl) H
section
variable {X:Cx}{C:Addr}{i:Nat}
def Nx{c:V}{d:Value}{b:Bool}(Z:XC X.K C)(l:∀u,RelV c u->u=d)(m:PySem.W.kitOne X.K (.ref C) d=some b):
  fY X (.builtin "isinstance") (λa H Q=>∃ea,a=[.ref ea,c]/\H ea=some (.ext (y2 ea C))/\Q (.bl b) H):=by
 intro pins s σ H a v Q I r h;obtain⟨ea,rfl,n,q⟩:=h;obtain⟨u,e,rfl,j,k⟩:=vals2 r;cases j;cases l e k;obtain⟨⟨o,t,p⟩,_⟩:=(show c_ H s.heap ea (.ext (y2 ea C)) from I.cD ea _ n)
 exact abc (Ey PySem.F.attr_ValueError Z) I.Cp ⟨o,t,p⟩ m (λz=>nomatch z) λg=>⟨.bl b,H,I.tok g,rfl,q⟩
structure Qq(X:Cx)(C:Addr)(cl:Str->Option Bool):Prop where
 xc:XC X.K C
 isi:Gl X "isinstance"
 isn:X.mg "isinstance" = none
 ex:∀x b,cl x=some b->∀p,∃cv cu,PE X (.Name x p) (tC cv)/\(∀u,RelV cv u->u=cu)/\PySem.W.kitOne X.K (.ref C) cu=some b
def Bv(err:Str)(cl:Str->Option Bool)(e:Expr):Option Bool:=(fV e).bind λz=>(two z.2).bind λw=>(LL w.1).bind λy=>(LL w.2).bind λx=>if z.1 = "isinstance" /\ y=err then cl x else none
def fW(err:Str)(cl:Str->Option Bool):ao->Option (List Bool)
 |[]=>some []
 |e::es=>match Bv err cl e,fW err cl es with
  |some b,some bs=>some (b::bs)
  |_,_=>none
def DY{err:Str}{cl:Str->Option Bool}(Z:Qq X C cl)(he:∀p,PE X (.Name err p) (nA i)){e:Expr}{b:Bool}(h:Bv err cl e=some b):PE X e (WA C i b)/\(∀d,starEach (e::d) X.env=(false,eval e X.env)::starEach d X.env)/\∀whole,isTrue e X.env whole=(do let v <- whole;standAt e.pos;holding [v] (truthy v)):=by
 obtain⟨⟨f,as⟩,k,r⟩:=Option.bind_eq_some_iff.mp h;obtain⟨D,pos,rfl⟩:=cw k;obtain⟨⟨s,t⟩,hw,o⟩:=Option.bind_eq_some_iff.mp r;obtain rfl:as=[s,t]:=jl hw;obtain⟨y,g,n⟩:=Option.bind_eq_some_iff.mp o;obtain⟨p1,rfl⟩:=kr g;obtain⟨x,j,a⟩:=Option.bind_eq_some_iff.mp n;obtain⟨p2,rfl⟩:=kr j;by_cases c:f = "isinstance" /\ y=err
 ·rw[cc c]at a;obtain⟨rfl,rfl⟩:=c;refine⟨?_,λ_=>rfl,λ_=>rfl⟩;obtain⟨G,I,m,h2,h3⟩:=Z.ex x b a p2;refine PE.imp (eI (Nx Z.xc h2 h3) Z.isi Z.isn PyProof.Rows.boot_isinstance (cy (he p1) (cy m d7))) λσ H Q l=>?_;obtain⟨ea,z,u,q⟩:=l;exact⟨_,z,ea,rfl,u,q⟩
 ·rw[cb c]at a;cases a
theorem yf{err:Str}{cl:Str->Option Bool}(Z:Qq X C cl)(he:∀p,PE X (.Name err p) (nA i)):∀{es:ao} {bs:List Bool},fW err cl es=some bs->PA X es (QO C i bs)
 |[],bs,h=>by
  cases h;exact PA.imp d7 λσ H Q ⟨ea,_,_,q⟩=>q
 |e::es,bs,h=>by
  rw[fW]at h;split at h
  ·rename_i b j g h2;cases h;obtain⟨p1,p2,_⟩:=DY Z he g;refine PA.imp (cy p1 (yf Z he h2) (p2 es)) λσ H Q d=>?_;obtain⟨ea,c,a,q⟩:=d;exact⟨ea,c,a,ea,c,a,q⟩
  ·cases h
end
def UC{i j:Nat}{err told:Str}{cl:Str->Option Bool}{es:ao}{bs bs':List Bool}{s r:Pos}(Z:Qq X C cl)(he:∀p,PE X (.Name err p) (nA i))(u:∀p,PE X (.Name told p) (nA j))(nd:X.N.Nodup)(x:X.N[j]?=some told)(hl:X.env.scope.names.lookup told=some .local)(n:i≠j)
  (h:fW err cl es=some bs) (hlen:bs'.length+bs.length<=sizeLine):PS X (.Assign [.Name told p1] (.BinOp (.Name told p2) .Add (.List es p3) s) r)
   (λD σ H=>∃ea l,σ[i]?=some (some (.ref ea))/\H ea=some (.ext (y2 ea C))/\σ[j]?=some (some (.ref l))/\H l=some (.lst (bs'.map V.bl))/\∀a H' b,aM H H'->H b=none->a[i]?=some (some (.ref ea))->a[j]?=some (some (.ref b))->H' b=some (.lst ((bs'++bs).map V.bl))->a.length=σ.length->D.nx a H'):=by
 refine PS.imp (oZ (i:=j) nd x (.inl hl) (vH D7 (u p2) (yd (yf Z he h))) (hf:=.inr hl)) λD σ H v=>?_;obtain⟨ea,l,k,y,c,g,q⟩:=v;have G:j<σ.length:=by
  by_cases z:j<σ.length
  ·exact z
  ·rw[List.getElem?_eq_none (by left)]at c;cases c
 refine⟨_,c,ea,k,y,by simp;left,λp e=>?_⟩;refine⟨l,p,_,_,rfl,rfl,by rw[bp (d8 g e)];exact g,aZ,by simpa using hlen,λt d=>?_⟩;have s1:aM H (upd H p (.lst (bs.map V.bl))):=aM.upd e;have m:=s1.trans (aM.upd (o:=.lst (bs'.map V.bl++bs.map V.bl)) d);refine q _ _ t m (aM.free s1 d) ?_ ?_ ?_ ?_
 ·rw[List.getElem?_set_ne (Ne.symm n)];exact k
 ·rw[List.getElem?_set_self G]
 ·rw[aZ,f6]
 ·simp
noncomputable def wJ(x:Str):Bool:=!(x==("__debug__" : Str))&&!(x==("__classdict__" : Str))
theorem SI.nq{X:Cx}{F R:aj}{a:Addr->Option bu}{ρ:aX}{σ:St}{H:Hp}{pn:av}{E:aD}(S:SI X F R a ρ σ H):SI (Cx.nq X pn E) F R a ρ σ H:=⟨S.len,S.rep,S.rt,S.rh,S.rf,S.th,S.t0,S.same⟩
theorem DM{S:Sx}{env:Env}{pos:Pos}:∀{es:ao} {cs:aA},b7 S cs es=true->(backTo pos (starEach es env)).any (·.1)=false
 |[],_,_=>rfl
 |e::es,[],h=>by exact(aae h).elim
 |e::es,c::cs,h=>by
  replace h:=aH h;rw[cx h.1 es env];show(false||(backTo pos (starEach es env)).any (·.1))=false;rw[DM h.2];rfl
noncomputable def RL:CI->Bool
 |.jr _=>false
 |_=>true
mutual
inductive oE(Φ:aT)(Ψ:Nat->aa->Prop)(n:Nat):CS->aX->Prop
 |ex {g:Nat} {es:aA} {ρ:aX} {xs:aa} (h1:bJ Φ es ρ=ok xs) (h2:Ψ g (aw aI xs)):oE Φ Ψ n (.ex (.call g es)) ρ
 |asg {i g:Nat} {es:aA} {ρ:aX} {xs:aa} (h1:bJ Φ es ρ=ok xs) (h2:Ψ g (aw aI xs)):oE Φ Ψ n (.asg (.nm i) (.call g es)) ρ
 |ret {g:Nat} {es:aA} {ρ:aX} {xs:aa} (h1:bJ Φ es ρ=ok xs) (h2:Ψ g (aw aI xs)):oE Φ Ψ n (.ret (.call g es)) ρ
 |rs {ρ:aX}:oE Φ Ψ n (.rs n) ρ
 |BD {c:CE} {a b:af} {ρ:aX} (h1:nM Φ c ρ=ok true) (h2:Er Φ Ψ n a ρ):oE Φ Ψ n (.ifs c a b) ρ
 |iff {c:CE} {a b:af} {ρ:aX} (h1:nM Φ c ρ=ok false) (h2:Er Φ Ψ n b ρ):oE Φ Ψ n (.ifs c a b) ρ
 |fr {t:Tg} {a:CI} {b:af} {ρ ρ1:aX} {items:aa} (h1:bX Φ a ρ=ok (items,ρ1)) (h2:Cy Φ Ψ n t b items ρ1) (h3:RL a=true):oE Φ Ψ n (.fr t a b) ρ
inductive Er(Φ:aT)(Ψ:Nat->aa->Prop)(n:Nat):af->aX->Prop
 |hd {c:CS} {cs:af} {ρ:aX} (h:oE Φ Ψ n c ρ):Er Φ Ψ n (c::cs) ρ
 |tl {c:CS} {cs:af} {ρ ρ':aX} (h1:ib Φ c ρ=ok (.nx,ρ')) (h2:Er Φ Ψ n cs ρ'):Er Φ Ψ n (c::cs) ρ
inductive Cy(Φ:aT)(Ψ:Nat->aa->Prop)(n:Nat):Tg->af->aa->aX->Prop
 |hd {t:Tg} {b:af} {d:D} {ds:aa} {ρ ρ1:aX} (h1:bU t d ρ=ok ρ1) (h2:Er Φ Ψ n b ρ1):Cy Φ Ψ n t b (d::ds) ρ
 |tl {t:Tg} {b:af} {d:D} {ds:aa} {ρ ρ1 ρ2:aX} (h1:bU t d ρ=ok ρ1) (h2:bE Φ b ρ1=ok (.nx,ρ2)) (h3:Cy Φ Ψ n t b ds ρ2):Cy Φ Ψ n t b (d::ds) ρ
end
noncomputable def vRs:Stmt->Option Expr
 |.Raise e c _=>match c with
  |none=>e
  |some _=>none
 |_=>none
def LJ{s:Stmt}{e:Expr}(h:vRs s=some e):∃p,s=.Raise (some e) none p:=by
 cases s<;>first|exact nk h | (cases h;done)|skip
 rename_i a c p;cases c with
 |some _=>cases h
 |none=>cases h;exact⟨p,rfl⟩
noncomputable def Sh:Expr->Bool
 |.Constant c _ _=>match c with|.str _=>true|_=>false
 |_=>false
def II{e:Expr}(h:Sh e=true):∃m j p,e=.Constant (.str m) j p:=by
 cases e<;>first|exact(aae h).elim|skip
 rename_i c _ _;cases c<;>first|exact(aae h).elim|exact⟨_,_,_,rfl⟩
def rsB(y:Str)(st:Stmt):Bool:=bz (vRs st) λe=>bz (fV e) λz=>(z.1==y)&&bz (one z.2) Sh
mutual
noncomputable def xk(gl:Bool)(n:Nat)(y:Str):CS->Stmt->Bool
 |.rs m,st=>!(m==n)||(gl&&rsB y st)
 |.ifs _ a b,st=>bz (LM st) λz=>Cg gl n y a z.2.1&&Cg gl n y b z.2.2
 |.fr _ _ b,st=>bz (LN st) λz=>Cg gl n y b z.2.2.1
 |_,_=>true
noncomputable def Cg(gl:Bool)(n:Nat)(y:Str):af->aV->Bool
 |c::cs,st::qu=>xk gl n y c st&&Cg gl n y cs qu
 |_,_=>true
end
structure jg(P:aK)(w:World)(K:ak)(mg:aY)(base:Heap)(k:Nat)(C:Addr)(y:Str)(mr:aa->Prop):Prop where
 ex:∃(f:Addr) (fd:FuncData) (ps:aq),iB P w K mg base (uR P w C) k f fd ps (WY K C ps.length mr)/\mg y=some (.ref f)/\PySem.W.keepIn K (.ref f)=true/\Binds K fd ps []/\∀ds,mr ds->ds.length=ps.length
structure Pn(X:Cx)(S:Sx)(k:Nat)(Φ:aT)(Ψ:Nat->aa->Prop)(C:Addr)(y:Str)(gl:Bool):Prop where
 ls:nc X S k Φ
 hR:∀pins σ H1 s1 h' ea vs,Inv X pins σ H1 s1->aM X.H₀ H1->Heap.MadeExcOf s1.heap h' ea (.ref C) vs->X.xe (.ref ea) { s1 with heap:=h' }
 hx:Passes (uR X.prog X.w C) X (λc _ H'=>c=.ref C/\aM X.H₀ H')
 fe:∀g x,S.fn g=some x->(∃ds,Ψ g ds)->jg X.prog X.w X.K X.mg X.base k C x (Ψ g)
 gy:gl=true->Gl X y/\(y==("__debug__" : Str))=false
 own:qU y C X.mg X.base
variable {args:ao}{cs es:aA}{iter tg:Expr}{xs:aa}
section
variable {X:Cx}{S:Sx}{k n:Nat}{Φ:aT}{Ψ:Nat->aa->Prop}{F:aj}{C:Addr}{y:Str}{gl:Bool}
def wy(L:Lk X S k Φ)(z:Passes (uR X.prog X.w C) X (λc _ H'=>c=.ref C/\aM X.H₀ H'))(U:∀g x,S.fn g=some x->(∃j,Ψ g j)->jg X.prog X.w X.K X.mg X.base k C x (Ψ g)){g:Nat}{e:Expr}(h:cg S (.call g es) e=true):PE X e (A6 X F λρ=>∃xs,bJ Φ es ρ=ok xs/\Ψ g (aw aI xs)):=by
 obtain⟨⟨x,as⟩,D,u⟩:=bt h;obtain⟨p,pos,rfl⟩:=cw D;obtain⟨t,s⟩:=aH u;obtain⟨q,h3⟩:=aH t;obtain⟨T,h2⟩:=aH q;obtain⟨⟨a,m⟩,G,b⟩:=bt s;obtain rfl:as=a::m:=xK G;by_cases l:∃j,Ψ g j
 case neg=>exact λ_ _ _ _ _ _ ⟨_,_,_,_,xs,_,d⟩=>absurd ⟨_,d⟩ l
 obtain⟨f,Y,ps,Fo,J,M,O,hl⟩:=(U g x (aad T) l).ex;unfold nH at h3;simp only[cM,i4]at h3;have v:∀r,starEach (a::r) X.env=(false,eval a X.env)::starEach r X.env:=λr=>by
  cases es with
  |nil=>exact(aae b).elim
  |cons c cs=>exact cx (aH b).1 r _
 have i:(backTo pos (starEach m X.env)).any (·.1)=false:=by
  cases es with
  |nil=>exact(aae b).elim
  |cons c cs=>exact DM (aH b).2
 refine PE.imp (Jn (F:=F) (C:=C) (np:=p) (cpos:=pos) L z Fo h2 J M O h3.1.1 b v i) λσ H Q I=>?_;obtain⟨R,o,ρ,W,xs,V,d⟩:=I;exact⟨R,o,ρ,W,xs,V,d,by have:=hl _ d;rw[aG,b4]at this;exact this⟩
def uc(L:Pn X S k Φ Ψ C y gl){g:Nat}{e:Expr}(h:cg S (.call g es) e=true):PE X e (A6 X F λρ=>∃xs,bJ Φ es ρ=ok xs/\Ψ g (aw aI xs)):=wy L.ls.toLk L.hx L.fe h
def xp(X:Cx)(F:aj)(Φ:aT)(Ψ:Nat->aa->Prop)(n:Nat)(t:Tg)(b:af)(R1:aj)(H1:Hp)(items:aa)(i:Nat)(σ:St)(H:Hp):Prop:=∃d c a,SI X F d c a σ H/\Kp R1 H1 d H/\Cy Φ Ψ n t b (items.drop i) a
def WE(X:Cx)(F:aj)(Φ:aT)(Ψ:Nat->aa->Prop)(n:Nat)(b:af):TS:=λD σ H=>oQ X F Φ b D σ H\/lh X F (Er Φ Ψ n b) D σ H
def Aj{g:TG}{t:Tg}{b:af}{D:L2.Ends}{items:List DI.D}{xs:ah}{q:bu}
  (I:∀(v:V) (σ:St) (H:Hp) (Q:St->Hp->Prop) (R:aj) (z:Addr->Option bu) (ρ ρ':aX) (d:DI.D),SI X F R z ρ σ H->iV X R z H v d->bU t d ρ=ok ρ'->(∀c a,SI X F R a ρ' c H->Q c H)->g v σ H Q)
  (rs:aF (bc X.K H1) (nd X.K R1 (λ_=>False) (λ_=>none) H1) q 0 xs items) (i:Nat) (x:V) (σ:St) (H:Hp) (U:xs[i]?=some x) (h:xp X F Φ Ψ n t b R1 H1 items i σ H) :
  g x σ H λm Z=>WE X F Φ Ψ n b { D with nx:=xp X F Φ Ψ n t b R1 H1 items (i+1),ct:=xp X F Φ Ψ n t b R1 H1 items (i+1),bk:=D.nx } m Z:=by
 obtain⟨j,a,ρ',L,p,J⟩:=h;obtain⟨d,hd,G⟩:=rs.qN U;have e:i<items.length:=by
  by_cases e:i<items.length
  ·exact e
  ·rw[List.getElem?_eq_none (by left)]at hd;cases hd
 have O:items.drop i=d::items.drop (i+1):=by
  rw[g7 e];rw[List.getElem?_eq_getElem e]at hd;cases hd;rfl
 rw[O]at J;cases J with
 |hd u s=>exact I x σ H _ j a ρ' _ d L (gL (Rep.mw (p.rep G))) u λc o r=>.inr ⟨j,o,_,r,s⟩
 |tl u s W=>exact I x σ H _ j a ρ' _ d L (gL (Rep.mw (p.rep G))) u λc o r=>.inl ⟨j,o,_,(.nx,_),r,s,λM H3 Y l Gu T=>⟨Y,l,_,Gu,p.trans T,W⟩⟩
def yG{t:Tg}{b:af}{items:List DI.D}{m:Nat}{P:Prop}(hn:m=items.length)(σ:St)(H:Hp)(h:xp X F Φ Ψ n t b R1 H1 items m σ H):P:=by
 obtain⟨_,_,_,_,_,a⟩:=h;subst hn;rw[List.drop_length]at a;cases a
def ON(L:nc X S k Φ){t:Tg}{a:CE}{b:af}{x:aV}(ht:wR S t tg=true)(r:O8 S (.seq a) iter=true)(hb:iA X x (WE X F Φ Ψ n b)):PS X (.For tg iter x [] pos) (lh X F (oE Φ Ψ n (.fr t (.seq a) b))):=by
 obtain⟨g,Z,V⟩:=vf (F:=F) L ht;have Y:∀y,foldedSetIterable iter X.env y=pure y:=by
  intro y;cases iter<;>first|rfl|exact(aae r).elim|exact(aae (aH r).2).elim
 intro pins s σ H D I IU;obtain⟨R,τ,ρ,u,YS⟩:=IU;cases YS with
 |fr j ef _ =>
  replace r:=aH r;obtain⟨d,ed,j⟩:=aC j;have W:=(eZ (F:=F) L.toLk a iter r.1).1;cases d<;>try (simp at j;done)
  ·rename_i U;simp at j;obtain⟨rfl,rfl⟩:=j;refine kz L.px L.calm (yc W) Z hb Y pins s σ H D I (tD.intro u ed λv H1 T J=>?_);obtain⟨l,e,hR,Q,o⟩:=nY u T J;rw[aE]at o;cases o with
   | @tup _ p xs _ q m =>
    refine⟨p,rfl,⟨xs,q⟩,Ad (xs:=xs) (xp X F Φ Ψ n t b l H1 (aw aI U)) ⟨l,e,_,Q,Kp.refl l H1,by rw[hG];exact ef⟩ (λi c H' _ h=>?_) (λi x c H' O h=>Aj V m i x c H' O h) (λc H' h=>yG (m.length) c H' h)⟩;obtain⟨R2,z,G,_,M,_⟩:=h;exact M.PF q
  ·rename_i f U;simp at j;obtain⟨rfl,rfl⟩:=j;refine kz L.px L.calm (s_ W) Z hb Y pins s σ H D I (tD.intro u ed λv H1 T J=>?_);obtain⟨l,e,hR,Q,o⟩:=nY u T J;rw[aE]at o;cases o with
   | @lst _ p xs _ _ q m =>
    refine⟨p,rfl,⟨xs,q.sq⟩,wm (xs:=xs) (xp X F Φ Ψ n t b l H1 (aw aI U)) ⟨l,e,_,Q,Kp.refl l H1,by rw[hG];exact ef⟩ (λi c H' _ h=>?_) (λi x c H' O h=>Aj V m i x c H' O h) (λc H' h=>yG (m.length) c H' h)⟩;obtain⟨R2,z,G,_,M,_⟩:=h;exact(M.nd q).sq
def Jl(L:nc X S k Φ){t:Tg}{p:Nat}{b:af}{x:aV}(ht:wR S t tg=true)(hi:S.px.pi p S.sc S.bl iter=some args)(hc:b7 S cs args=true)(yv:Rx iter=true)(Yi:(decide (1100<=p)||gu tg)=true)(hb:iA X x (WE X F Φ Ψ n b)):PS X (.For tg iter x [] pos) (lh X F (oE Φ Ψ n (.fr t (.xu p cs) b))):=by
 obtain⟨g,hg,rM⟩:=vf (F:=F) L ht;have i6:∀y,foldedSetIterable iter X.env y=pure y:=by
  intro y;cases iter<;>first|rfl | (cases yv;done)
 have pi:PI X tg iter (wiP X F Φ p cs):=λpins s σ H Rr I ⟨R,U,ρ,xs,d,items,M,bZ,Y,e,hR⟩ =>
  L.pr.i X _ _ k L.toLk.pX p iter args hi F cs tg Yi (lp L.toLk cs args hc) pins s σ H R U ρ xs d items I M bZ Y e Rr hR
 refine PS.imp (kz L.px L.calm pi hg hb i6) λD σ H hq=>?_;obtain⟨R,U,ρ,M,YS⟩:=hq;cases YS with
 | @fr _ _ _ _ ρ1 items e ef _ =>
  obtain⟨xs,bZ,e⟩:=aC e;obtain⟨d,Y,e⟩:=aC e;obtain⟨Np,Zv,e⟩:=aC e;cases e;refine⟨R,U,ρ,xs,d,items,M,bZ,Y,Zv,λJ z vs e2 Dq yz=>?_⟩;obtain⟨o,T,hR,fM,rs⟩:=wk M e2 Dq;refine⟨λi m c H'=>m=items.length - i/\i<=items.length/\xp X F Φ Ψ n t b o z items i c H',⟨_,rfl,aa3 _,o,T,_,fM,Kp.refl o z,by rw[hG];exact ef⟩,?_⟩;rintro i m j H1 ⟨rfl,GP,hf⟩;obtain⟨R1,q,r,qy,G,e1⟩:=id hf;have GH:=G.Rl rs;have PD:qf X.K z vs xs H1:=⟨⟨o,rs,G.l⟩,λa ys h=>G.PF h⟩
  by_cases u:i<items.length
  ·refine .inr ⟨yz.go i H1 R1 PD GH u,λc H'=>xp X F Φ Ψ n t b o z items (i+1) c H',λc H' h=>⟨items.length - (i+1),by left,rfl,u,h⟩,λv O hy=>?_⟩;obtain⟨e3,dd,hd,rd⟩:=yz.uW i H1 R1 v O PD GH u hy;have lH:items.drop i=dd::items.drop (i+1):=by
    rw[g7 u];rw[List.getElem?_eq_getElem u]at hd;cases hd;rfl
   rw[lH]at e1;have k3:Kp o z R1 O:=G.trans (Kp.of e3 λ_ h=>h);cases e1 with
   |hd Z e2=>exact rM v j O _ R1 q r _ dd (qy.go e3) (gL rd) Z λc W V=>.inr ⟨R1,W,_,V,e2⟩
   |tl Z e4 e5=>exact rM v j O _ R1 q r _ dd (qy.go e3) (gL rd) Z λc W V=>.inl ⟨R1,W,_,(.nx,_),V,e4,λσ3 H4 R3 Q Gu k4=>⟨R3,Q,_,Gu,k3.trans k4,e5⟩⟩
  ·exact(yG (m:=i) (by left) j H1 hf:False).elim
def kF{c:CS}(h:∀ρ,oE Φ Ψ n c ρ->False):PS X st (lh X F (oE Φ Ψ n c)):=λ_ _ _ _ _ _ a=>by
 obtain⟨_,_,ρ,_,b⟩:=a;exact(h ρ b).elim
def Fx{c:CS}(h:∀ρ,oE Φ Ψ n c ρ->PS X st (λ_ σ H=>∃R a,SI X F R a ρ σ H)):PS X st (lh X F (oE Φ Ψ n c)):=λpins s σ H D I b=>by
 obtain⟨R,a,ρ,e,d⟩:=b;exact h ρ d pins s σ H D I ⟨R,a,e⟩
def OR(L:Pn X S k Φ Ψ C y gl){g:Nat}(h:qP S (.ex (.call g es)) st=true)(a:bJ Φ es ρ=ok xs)(b:Ψ g (aw aI xs)):PS X st (λ_ σ H=>∃R c,SI X F R c ρ σ H):=by
 obtain⟨v,e,i⟩:=bt h;obtain⟨pos,rfl⟩:=oN e;obtain⟨d,h2⟩:=aH i;exact PS.imp (K9 (uc (F:=F) L d) (iu d (gN h2) _ _ _)) λD σ H j=>by obtain⟨R,c,l⟩:=j;exact⟨R,c,ρ,l,_,a,b⟩
def Jm(L:Pn X S k Φ Ψ C y gl){g:Nat}(h:qP S (.ret (.call g es)) st=true)(a:bJ Φ es ρ=ok xs)(b:Ψ g (aw aI xs)):PS X st (λ_ σ H=>∃R c,SI X F R c ρ σ H):=by
 obtain⟨z,e,j⟩:=bt h;obtain⟨pos,rfl⟩:=zc e;obtain⟨v,d,i⟩:=bt j;obtain rfl:z=some v:=d;exact PS.imp (OQ (uc (F:=F) L i)) λD σ H l=>by obtain⟨R,c,m⟩:=l;exact⟨R,c,ρ,m,_,a,b⟩
def Jo(L:Pn X S k Φ Ψ C y gl){i g:Nat}(h:qP S (.asg (.nm i) (.call g es)) st=true)(a:bJ Φ es ρ=ok xs)(b:Ψ g (aw aI xs)):PS X st (λ_ σ H=>∃R c,SI X F R c ρ σ H):=by
 obtain⟨⟨G,v⟩,l,r⟩:=bt h;obtain⟨pos,rfl⟩:=k9 l;obtain⟨tg,j,q⟩:=bt r;obtain rfl:G=[tg]:=bR j;obtain⟨o,I⟩:=aH q;obtain⟨m,h3⟩:=aH o;obtain⟨d,h2⟩:=aH m;obtain⟨x,p,rfl⟩:∃x p,tg=.Name x p:=uj h2;have e:=aH (show _=true from h2);have u:gZ v=false:=by
  obtain⟨⟨x,as⟩,s,_⟩:=bt d;obtain⟨p,pos,rfl⟩:=cw s;rfl
 exact PS.imp (OP L.ls.nd (by rw[L.ls.N];exact aad e.1) (L.ls.loc e.2) (L.ls.xC _) (uc (F:=F) L d) (iu d u _ _ _)) λD σ H t=>by obtain⟨R,c,z⟩:=t;exact⟨R,c,ρ,z,_,a,b⟩
mutual
theorem erS(L:Pn X S k Φ Ψ C y gl):∀(c:CS) (st:Stmt),qP S c st=true->xk gl n y c st=true->PS X st (lh X F (oE Φ Ψ n c))
 |.ex e,st,h,_=>Fx λρ d=>by cases d with|ex a b=>exact OR L h a b
 |.ret e,st,h,_=>Fx λρ d=>by cases d with|ret a b=>exact Jm L h a b
 |.asg t e,st,h,_=>Fx λρ d=>by cases d with|asg a b=>exact Jo L h a b
 |.rs m,st,h,g=>by
  by_cases Y:m=n
  ·subst Y;have g:(!(m==m)||(gl&&rsB y st))=true:=g;rw[hY,Bool.not_true,Bool.false_or]at g;obtain⟨hg,g⟩:=aH g;obtain⟨gy,dy⟩:=L.gy hg;obtain⟨e,r,v⟩:=bt g;obtain⟨pos,rfl⟩:=LJ r;obtain⟨⟨x,as⟩,v2,u⟩:=bt v;obtain⟨p,pos',rfl⟩:=cw v2;obtain⟨U,T⟩:=aH u;obtain⟨c,v3,q5⟩:=bt T;obtain rfl:as=[c]:=bR v3;obtain⟨m',j,p',rfl⟩:=II q5;obtain rfl:x=y:=eq_of_beq U;exact PS.imp (DH L.ls.calm L.own gy dy) λD σ H l=>by
    obtain⟨R,q,ρ,o,d⟩:=l;exact λpins s h' ea us I ER=>L.hR pins _ H s h' ea us I o.same ER
  ·exact kF λ_ d=>by cases d;exact absurd rfl Y
 |.ifs c a b,st,h,g=>by
  obtain⟨⟨t,x,z⟩,r,v⟩:=bt h;obtain⟨pos,rfl⟩:=sC r;obtain⟨u,h3⟩:=aH v;obtain⟨G,h2⟩:=aH u;obtain⟨W,V⟩:=aH (show(Cg gl n y a x&&Cg gl n y b z)=true from g);refine PS.imp (vD (pos:=pos) (eZ (F:=F) L.ls.toLk c t G).2 (BW L a x h2 W) (BW L b z h3 V)) λD σ H l=>?_;obtain⟨R,q,ρ,o,d⟩:=l;cases d with
  |BD M J=>exact⟨R,q,ρ,true,o,M,λH2 es=>Nq ⟨R,q,ρ,o.go es,J⟩⟩
  |iff M J=>exact⟨R,q,ρ,false,o,M,λH2 es=>EC ⟨R,q,ρ,o.go es,J⟩⟩
 |.par _ _ _ _,st,h,_=>kF λ_ d=>by cases d
 |.mut _ _ _,st,h,_=>kF λ_ d=>by cases d
 |.app _ _,st,h,_=>kF λ_ d=>by cases d
 |.setI _ _ _,st,h,_=>kF λ_ d=>by cases d
 |.Ke _ _,st,h,_=>kF λ_ d=>by cases d
 |.fr t it b,st,h,g=>by
  obtain⟨⟨tg,iter,x,z⟩,r,v⟩:=bt h;obtain⟨pos,rfl⟩:=zf r;obtain⟨u,O⟩:=aH v;obtain⟨U,h4⟩:=aH u;obtain⟨T,h3⟩:=aH U;obtain⟨G,h2⟩:=aH T;obtain rfl:z=[]:=lF G;have g:Cg gl n y b x=true:=g;cases it with
  |seq a =>
   have p1:=gK (F:=F) L.ls b x O;have p2:=BW L b x O g;exact ON L.ls h2 h3 λpins s σ H D I l=>l.elim (p1 pins s σ H D I) (p2 pins s σ H D I)
  |xu p cs =>
   obtain⟨yv,hz⟩:=aH h3;obtain⟨args,ha,PZ⟩:=bt hz;have p1:=gK (F:=F) L.ls b x O;have p2:=BW L b x O g;exact Jl L.ls h2 ha PZ yv (by rw[Bool.or_comm];exact h4) λpins s σ H D I l=>l.elim (p1 pins s σ H D I) (p2 pins s σ H D I)
  |jr a=>exact kF λ_ d=>by cases d with|fr _ _ h=>cases h
theorem BW(L:Pn X S k Φ Ψ C y gl):∀(cs:af) (i:aV),ja S cs i=true->Cg gl n y cs i=true->iA X i (lh X F (Er Φ Ψ n cs))
 |[],_,_,_=>λ_ _ _ _ _ _ b8=>by obtain⟨_,_,_,_,d⟩:=b8;cases d
 |_::_,[],h,_=>by exact(aae h).elim
 |c::cs,st::i,h,g=>by
  replace h:=aH h;obtain⟨W,V⟩:=aH (show(xk gl n y c st&&Cg gl n y cs i)=true from g);have hN:iA X i LY:=λ_ _ _ _ _ _ z=>z.elim;have G:PS X st (qC X F Φ c):=xU (F:=F) L.ls c st h.1;have A:iA X (st::i) _:=dZ (erS L c st h.1 W) hN;have B:iA X (st::i) _:=dZ G (BW L cs i h.2 V);intro pins s σ H D I l;obtain⟨R,q,ρ,o,d⟩:=l;cases d with
  |hd e=>exact A pins s σ H D I ⟨R,q,ρ,o,e⟩
  |tl M J=>exact B pins s σ H D I ⟨R,q,ρ,(.nx,_),o,M,λZ H' R' Q fM kp=>⟨R',Q,_,fM,J⟩⟩
end
end
variable {Φ:aT}
def OO{x:Str}{p:FuncData}{k n:Nat}{bl:aq}{cs:List (Str×GK)}{px:Px}{c:Nat->Option Str}{d:Nat->aa->Prop}{m:aa->Prop}{b:af}{y:Str}
  (Z:GC K x qual st f p) (e:gV N ps (aO st)) (E_:ja ⟨aO st,N,c,bl,cs,px⟩ b (bM st)=true) (T:Cg (iD (aO st) y&&!(y==("__debug__" : Str))) n y b (bM st)=true) (r:qo px Φ) (V:GA px Φ)
  (G:∀y∈bl,mg y=none) (J:∀y i,(y,i)∈cs->∃u,mg y=some u/\y_ K i u) (v:∀g y,c g=some y->Ent P w K mg base k y (Φ g)) (Y:∀g y,c g=some y->(∃a,d g a)->jg P w K mg base k C y (d g))
  (O:qU y C mg base) (R:∀a,m a->a.length=ps.length/\Er Φ d n b (a.map some++List.replicate (N.length - a.length) none)):iB P w K mg base (uR P w C) (k+1) f p ps (WY K C ps.length m):=by
 refine ZF (N:=N) Z e (λl H Q E ⟨_,_,h,_⟩=>h) λS A outer s H l Q E L t=>?_;obtain⟨F,a,hl,D,j,o⟩:=t;obtain⟨P_,U⟩:=R a j
 let X:=jH (uR P w C) P w K mg base N qual (aO st) f S A outer s H E
 have q:nc X ⟨aO st,N,c,bl,cs,px⟩ k Φ:=⟨⟨rfl,rfl,e.nd,rfl,L,G,λg y h=>⟨(v g y h).ex⟩,J,r⟩,λ_=>rfl,PassesOwn.leaving,e.kind,V⟩
 have M:ps.length<=N.length:=by have:=aaI List.length e.pre;rw[hF]at this;left
 have W:Pn X ⟨aO st,N,c,bl,cs,px⟩ k Φ d C y (iD (aO st) y&&!(y==("__debug__" : Str))):=⟨q,λpins σ H1 s1 h' ea l I es ER=>HQ I ER (o H1 es),RB λH' h=>o H' h.2,Y,λz=>⟨q.gl (aH z).1,by simpa using (aH z).2⟩,O⟩
 exact⟨_,BW (F:=F) W b _ E_ T,_,_,_,vn (X:=X) rfl (by left) D,U⟩
theorem kJ:∀{vs:az} {bs:List Bool},Vals (bs.map V.bl) vs->vs=bs.map Value.bool
 |_,[],h=>by cases h;rfl
 |_,b::bs,h=>by
  cases h with
  |cons r t=>cases r;rw[kJ t];rfl
def Kt(K:ak):V->ah->Hp->VK->Prop:=λx a H Q=>∃(l:Addr) (bs:List Bool) (b:Bool),x=.ref l/\a=[.bl b]/\dq K H l (bs.map V.bl)/\Q (.int (bs.count b:Nat)) H
def Ks(K:ak):V->ah->Hp->VK->Prop:=λx a H Q=>∃(l:Addr) (bs:List Bool) (b:Bool),x=.ref l/\a=[.bl b]/\dq K H l (bs.map V.bl)/\b∈bs/\bs.length<=du/\Q (.int (bs.idxOf b:Nat)) H
def Bo:U5 X "list.count" (Kt X.K):=by
 intro pins s σ H x J v L Q I k m h;obtain⟨l,bs,b,rfl,rfl,z,q⟩:=h;cases k;obtain⟨u,rfl,o⟩:=m.one;cases o;obtain⟨O,r,p,M⟩:=I.list z;obtain rfl:=kJ r;obtain⟨⟨G,D,dat,j⟩,n,i,g,a,d⟩:=p;simp only at g a d;subst g d;refine abj PySem.F.slot_list_count ⟨_,i,rfl⟩ PySem.F.entry_list_count (PySem.F.args_list_count_2 _ _) (SeqAt.list_countAt l _ n D j (.bool b) (isBoolOf b)) ⟨i,λy t=>?_,?_⟩
 ·obtain⟨c,_,rfl⟩:=List.mem_map.mp (show y∈bs.map Value.bool by simpa using t);exact abD c b
 ·have e:(bs.map Value.bool).countP (isBoolOf b)=bs.count b:=by
   rw[List.countP_map];rfl
  rw[show(bs.map Value.bool).toArray.toList=bs.map Value.bool from rfl,e];exact⟨.int _,H,I.tok _,⟨_,rfl⟩,q⟩
def Bm:U5 X "list.index" (Ks X.K):=by
 intro pins s σ H x U v V Q I j k h;obtain⟨l,bs,b,rfl,rfl,G,L,O,q⟩:=h;cases j;obtain⟨u,rfl,o⟩:=k.one;cases o;obtain⟨Z,r,t,Y⟩:=I.list G;obtain rfl:=kJ r;obtain⟨⟨T,S,dat,i⟩,n,g,e,a,d⟩:=t;simp only at e a d;subst e d;have M:bs.idxOf b<bs.length:=List.idxOf_lt_length_iff.mpr L;have W:bs.length<=1000000:=O;refine abj PySem.F.slot_list_index ⟨_,g,rfl⟩ PySem.F.entry_list_index (PySem.F.args_list_index_2 _ _) (SeqAt.list_indexAt l _ n S i (.bool b) (isBoolOf b) (bs.idxOf b) (by simpa using M) (by omega) (by simp[isBoolOf]) λm J R=>?_) ⟨g,λy D=>?_,?_⟩
 ·have z:=List.not_of_lt_findIdx (p:=λx=>x==b) R;simpa [isBoolOf]using z
 ·obtain⟨c,_,rfl⟩:=List.mem_map.mp (show y∈bs.map Value.bool by simpa using D);exact abD c b
 ·exact⟨.int _,H,I.tok _,⟨_,rfl⟩,q⟩
noncomputable def uy:aa->Option (List Bool)
 |[]=>some []
 |.bl b::ds=>(uy ds).map (b :: ·)
 |_::_=>none
theorem sj:∀{ds:aa} {bs:List Bool},uy ds=some bs->ds=bs.map D.bl
 |[],_,h=>by cases h;rfl
 |d::ds,bs,h=>by
  cases d<;>first | (cases h;done)|skip
  obtain⟨cs,a,rfl⟩:=Option.map_eq_some_iff.mp (show(uy ds).map (_ :: ·)=some bs from h);rw[sj a];rfl
def Qk(xs:aa):Option (List Bool×Bool):=match xs with
 |[.lst _ ds,.bl b]=>(uy ds).bind λbs=>some (bs,b)
 |_=>none
def Gi{x y:D}{bs:List Bool}{b:Bool}(h:Qk [x,y]=some (bs,b)):∃f,x=.lst f (bs.map D.bl)/\y=.bl b:=by
 unfold Qk at h;split at h
 ·rename_i e;cases e;obtain⟨cs,a,h2⟩:=Option.bind_eq_some_iff.mp h;cases h2;exact⟨_,by rw[sj a],rfl⟩
 ·cases h
def Az(xs:aa):O D:=match Qk xs with
 |some z=>ok (.int (z.1.count z.2:Nat))
 |none=>none
def zX(xs:aa):O D:=match Qk xs with
 |some z=>if z.2∈z.1/\z.1.length<=du then ok (.int (z.1.idxOf z.2:Nat))else none
 |none=>none
def se(m:Str)(e:Expr):Option (ao):=(ze m (.Expr e ⟨0,0,0,0⟩)).bind λz=>(one z.2).bind λy=>if isNm z.1=true then some [z.1,y]else none
def F3{m:Str}{e:Expr}(h:se m e=some args):∃x p p1 p2 a,e=.Call (.Attribute (.Name x p) m p1) [a] [] p2/\args=[.Name x p,a]/\(p1.endLine==p2.line)=true:=by
 obtain⟨⟨o,as⟩,d,h2⟩:=Option.bind_eq_some_iff.mp h;obtain⟨y,h3,b⟩:=Option.bind_eq_some_iff.mp h2;obtain rfl:=bR h3;by_cases c:isNm o=true
 case neg=>rw[cb c]at b;cases b
 rw[cc c]at b;cases b;obtain⟨p1,p2,pos,g,hl⟩:=oM d;cases g;cases o<;>first | (cases c;done)|skip
 exact⟨_,_,_,_,_,rfl,rfl,hl⟩
def Ek{n:Nat}{m:Str}{id:String}{f:au}{r:ak->V->ah->Hp->VK->Prop}(I:Φ n=f)(slot:Slot "list" m id)(Yh:typeOf (.builtin id)=pure (.type "method_descriptor"))(hm:U5 X id (r X.K))
  (hf:∀x y z,f [x,y]=ok z->∃(M:Fl) (bs:List Bool) (b:Bool) (i:Int),x=.lst M (bs.map D.bl)/\y=.bl b/\z=.int i/\∀(l:Addr) (H:Hp) (Q:VK),dq X.K H l (bs.map V.bl)->Q (.int i) H->r X.K (.ref l) [.bl b] H Q)
  {e:Expr} (he:se m e=some args) (hs:qT X F Φ cs args):PE X e (tD X F Φ (.cL n cs))/\PT X e (jh X F Φ (.cL n cs)):=by
 obtain⟨x,p,p1,p2,a,rfl,rfl,hl⟩:=F3 he;cases cs with
 |nil=>exact hs.elim
 |cons c cs=>cases cs with
  |nil=>exact hs.2.2.2.elim
  |cons c' cs=>cases cs with
   |cons _ _=>exact hs.2.2.2.2.2.2.elim
   |nil =>
    obtain⟨h1,_,_,h2,s,_,_⟩:=hs;have this:PE X (.Call (.Attribute (.Name x p) m p1) [a] [] p2) (tD X F Φ (.cL n [c,c'])):=by
     refine PE.imp (DZ ab5 slot Yh hm h1 (cy h2 d7 (s _)) (hfew:=by rw[s];rfl) (hline:=hl) (hs:=s _)) λσ H Q J=>?_;obtain⟨R,τ,ρ,d,U,q,J⟩:=J;obtain⟨xs,o,q⟩:=aC q;obtain⟨y,ey,o⟩:=aC o;obtain⟨j,G,o⟩:=aC o;cases o;obtain⟨w,ew,G⟩:=aC G;cases G;rw[I]at q;obtain⟨M,bs,b,i,rfl,rfl,rfl,g⟩:=hf _ _ _ q;refine tD.intro U ey λv H1 S r1=>?_;obtain⟨_,_,q1⟩:=r1;cases q1 with
     |lst L Y =>
      refine⟨⟨rfl,_,L.sq⟩,tD.intro (U.go S) ew λu W O Z=>?_⟩;obtain⟨_,_,q2⟩:=Z;cases q2;have:∀{T:m9} {N:jk} {k:bu} {n:Nat} {j:ah} {bs:List Bool},aF T N k n j (bs.map D.bl)->j=bs.map V.bl:=λ{T N k n j bs} h=>by
       induction bs generalizing n j with
       |nil=>cases h;rfl
       |cons b bs ih=>cases h with
        |cons r t=>cases r;rw[ih t];rfl
      obtain rfl:=this Y;exact g _ W _ (nd.same O L).sq (J _ W (S.trans O) ⟨λ_=>none,λ_ _ h=>by simp at h,.int _⟩)
    exact⟨this,cK this λ_=>rfl⟩
def JS{n:Nat}(a:Φ n=Az){e:Expr}(he:se "count" e=some args)(hs:qT X F Φ cs args):PE X e (tD X F Φ (.cL n cs))/\PT X e (jh X F Φ (.cL n cs)):=by
 refine Ek (r:=Kt) a PySem.F.slot_list_count PySem.F.type_list_count Bo (λx y z h=>?_) he hs;unfold Az at h;cases b:Qk [x,y]with
 |none=>rw[b]at h;cases h
 |some w =>
  rw[b]at h;cases h;obtain⟨f,rfl,rfl⟩:=Gi b;exact⟨_,_,_,_,rfl,rfl,rfl,λl H Q h q=>⟨l,_,_,rfl,rfl,h,q⟩⟩
def IQ{n:Nat}(a:Φ n=zX){e:Expr}(he:se "index" e=some args)(hs:qT X F Φ cs args):PE X e (tD X F Φ (.cL n cs))/\PT X e (jh X F Φ (.cL n cs)):=by
 refine Ek (r:=Ks) a PySem.F.slot_list_index PySem.F.type_list_index Bm (λx y z h=>?_) he hs;unfold zX at h;cases b:Qk [x,y]with
 |none=>rw[b]at h;cases h
 |some w =>
  rw[b]at h;obtain⟨⟨g,d⟩,c⟩:=mz h;cases c;obtain⟨f,rfl,rfl⟩:=Gi b;exact⟨_,_,_,_,rfl,rfl,rfl,λl H Q h q=>⟨l,_,_,rfl,rfl,h,g,d,q⟩⟩
def Fv{M:Model}{nm q b q':Str}{N B N':Addr}{bs bm bs' k:az}{hdct I:Bool}{sn a:aq}{sub G:az}{ab j:Bool}{col z:Option Bool}{dd D:Option Addr}{k0 k1 k2 k3 k5 v u s r p:Option Value}{newId L:String}
   {g:Array GenState} {d:Drawn} {t:Nat} {l:OsState} {e:Addr} {m:Obj} {Q:Bool->Shared->Prop}
  (y:h.get? C=some (excClassObj nm q C N bs bm hdct sn sub ab col dd k0 k1 k2 k3 k5 newId)) (n:h.get? B=some (excClassObj b q' B N' bs' k I a G j z D v u s r p L)) (he:h.get? e=some m) (o:m.cls=.ref C) (O:k.contains (.type "BaseException")=true) (J:bm.contains (.ref B)=true)
  (x:Q true ⟨h,g,d,t,l⟩):wpAny M A (excMatches (.ref e) (.ref B)) Q E ⟨h,g,d,t,l⟩:=by
 have i:(Value.ref B::k).contains (.type "BaseException")=true:=by rw[l6,O,km]
 have c:(Value.ref C::bm).contains (.ref B)=true:=by rw[l6,J,km]
 have f:=tc_notTuple;unfold excMatches
 repeat (first | (with_reducible refine abd he ?_;rw[o])|with_reducible refine abd n ?_ | (with_reducible refine wpAny_isSubtype_exc n ?_;rw[i]) | (with_reducible refine wpAny_isSubtype_exc y ?_;rw[c])|wp_step)
 exact x
def qp(C B:Addr)(h:Heap):Prop:=∃(nm q:Str) (N:Addr) (bs bm:az) (hdct:Bool) (sn:aq) (sub:az) (ab:Bool) (col:Option Bool) (dd:Option Addr) (k0 k1 k2 k3 k5:Option Value) (newId:String),h.get? C=some (excClassObj nm q C N bs bm hdct sn sub ab col dd k0 k1 k2 k3 k5 newId)/\bm.contains (.ref B)=true
section
variable {X:Cx}{C B:Addr}{x n y:Str}{i j:Nat}{E1:XK}
def HW{body:aV}{tb:TS}{hpos:Pos}(Su:X.stack=X.env::X.outer)(P9:X.env.frame=some X.env.locals)(O:qU x B X.mg X.base)(OS:qp C B X.base)(hg:Gl X x)(hd:(x==("__debug__" : Str))=false)
  (nd:X.N.Nodup) (Y:X.N[i]?=some n) (W:X.N[j]?=some y) (X9:y≠n) (M:X.env.scope.names.lookup n=some .local) (G:X.env.scope.names.lookup y=some .local) (dn:(n==("__debug__" : Str))=false) (dc:(n==("__classdict__" : Str))=false)
  (Sr:swapsWith (.Name n p2) (some (.Name y p1)) p3.line (X.env)=pure false)
  (hb:∀pn Hb,Passes (uR X.prog X.w C) (Cx.nq X pn Hb) E1->iA (Cx.nq X pn Hb) body tb) :
  PS X (.Try body [.ExceptHandler (some (.Name x np)) (some n) [.Assign [.Name y p1] (.Name n p2) p3] hpos] [] [] pos)
   (λD σ H=>tb D σ H/\∀ea H',E1 (.ref C) none H'->H' ea=none->D.nx (only X.N.length j (.ref ea)) (upd H' ea (.ext (y2 ea C)))):=by
 intro pins s σ H D I hw;obtain⟨YQ,hh⟩:=hw;have ok:=I.ok;refine wpAny_Try_except ?_;refine aav (hb pins _ ?_ [] s σ H D (IL I (λe d=>wpAny (model X.prog X.w) X.A (noteFrame e X.env) (λ_ o=>wpAny (model X.prog X.w) X.A (setFlight e none) (λ_ m=>wpAny (model X.prog X.w) X.A (handleBy e X.env [.ExceptHandler (some (.Name x np)) (some n) [.Assign [.Name y p1] (.Name n p2) p3] hpos]) (SP X pins D) X.xe m) X.xe o) X.xe d)) YQ) (λf d q=>?_) (λ_ _ q=>q)
 ·intro DN b H1 s1 e p c hx;obtain⟨ea,H',rfl,fl,he⟩:=hx;obtain⟨n1,n2⟩:=fl.new;obtain⟨⟨t,B,fw,GX⟩,os,bare,un,cD⟩:=fl;have c:Inv X pins b H1 s1:=ip c;have fw:Heap.FlyingW B (X.env::X.outer) ea (.ref C) (.ref t) p.heap:=Su▸fw;have Zd:X.A.frames=some (X.env::X.outer):=Su▸c.ok.frames;show wpAny (model X.prog X.w) X.A (noteFrame (.ref ea) X.env) _ X.xe p;refine wpAny_looks_onW Zd P9 fw λh4 held U=>?_;refine wpAny_landsW held λh5 Zc T=>?_;obtain⟨l,SH,ZH⟩:=moved un cD GX c.stack c.lj Zc.1 (U.trans T);have k:Inv X pins b H' { p with heap:=h5 }:=c.AG (ch:=[]) os l SH bare λ_ z=>nomatch z;refine wpAny_handleBy_cons (codeAny_handlers_test (abE k.ok.kind hg (Calls.loadGlobal_global (by rw[k.ok.glob];exact k.mod.glob.keeps k.bk) O.bound ?_) hd)) (by intro q;cases q);obtain⟨bm,nsA,nm,qn,bs,hdct,sn,sub,ab,col,dd,k0,k1,k2,k3,k5,mN,hB,_,_,TL⟩:=(O.keeps k.bk).obj;obtain⟨nm2,q2,N2,bs2,bm2,abn,sn2,acZ,ab2,afd,yM,l0,l1,l2,l3,l5,id2,Z,SV⟩:=OS;have Z:=k.bk _ _ Z;obtain⟨ob,V,Yw⟩:=Zc.there;refine Fv Z hB V Yw (TL.hasType (by decide +kernel)) SV (codeAny_handlers_suite_as ?_);refine lands_againW Zc λh6 J S=>?_;obtain⟨R,Yq,afc⟩:=moved l SH ZH c.stack c.lj J.1 S;obtain⟨Q,Yp⟩:=tracked (C:=C) R Yq n1 n2 J.there;have I7:Inv X pins b (upd H' ea (.ext (y2 ea C))) { p with heap:=h6 }:=c.AG (s':={ p with heap:=h6 }) (ch:=[]) os Q Yp bare λ_ z=>nomatch z;have i0:i<b.length:=by rw[I7.len];exact(List.getElem?_eq_some_iff.mp Y).1
  have VM:j<b.length:=by rw[I7.len];exact(List.getElem?_eq_some_iff.mp W).1
  refine jm I7 nd Y (.inl M) (v:=.ref ea) (u:=.ref ea) rfl (λs8 I8=>?_) (.inr M)
  let X2:Cx:={ X with A:=X.A.mark (some (.ref ea)),calm:=false,xe:=AsSuiteRaised (model X.prog X.w) (X.A.mark (some (.ref ea))) X.env n hpos (notedBy (model X.prog X.w) (X.A.mark (some (.ref ea))) X.env (cameBackBy (model X.prog X.w) X.A X.env X.xe)) }
  have ps:iA X2 [.Assign [.Name y p1] (.Name n p2) p3] _:=iJ (oZ (X:=X2) (i:=j) nd W (.inl G) (HY (X:=X2) (i:=i) (pos:=p2) Y (.inl M) dn dc) Sr (hf:=.inr G));refine aav (ps pins s8 _ _ { nx:=λa j7=>j7=upd H' ea (.ext (y2 ea C))/\a[j]?=some (some (.ref ea)),rt:=λ_ _=>False } (EI I8 _ _) ⟨.ref ea,by rw[List.getElem?_set_self i0],rfl,by rw[List.getElem?_set_self (by simpa using VM)]⟩) (λf s9 L=>?_) (λ_ _ q=>q);cases f with
  |next =>
   obtain⟨σ9,H9,I9,rfl,e9⟩:=L;have I9:=yr ok I9;exact yh I9 M X9 nd W e9 λs10 I10=>⟨_,_,I10,hh ea H' he n1⟩
  |ret v=>obtain⟨_,_,_,_,_,z⟩:=L;exact z.elim
  |brk=>obtain⟨_,_,_,z⟩:=L;exact z.elim
  |cont=>obtain⟨_,_,_,z⟩:=L;exact z.elim
 ·cases f with
  |next=>obtain⟨a,H',g,q⟩:=q;exact abF ⟨a,H',ip g,q⟩
  |ret v=>obtain⟨v,a,H',g,r,q⟩:=q;exact⟨v,a,H',ip g,r,q⟩
  |brk=>obtain⟨a,H',g,q⟩:=q;exact⟨a,H',ip g,q⟩
  |cont=>obtain⟨a,H',g,q⟩:=q;exact⟨a,H',ip g,q⟩
end
section
variable {X:Cx}{S:Sx}{k n:Nat}{Φ:aT}{Ψ:Nat->aa->Prop}{F:aj}{C B:Addr}
noncomputable def Nz:CE->Bool
 |.call _ _=>true
 |_=>false
def Ny:CS->Bool
 |.ex e=>Nz e
 |_=>false
def LS:CS->Bool
 |.ex e=>Nz e
 |.ifs _ a b=>bz (one a) λx=>bz (one b) λy=>Ny x&&Ny y
 |_=>false
def zW{e:CE}(h:Nz e=true):∃g es,e=.call g es:=by
 cases e<;>first|exact(aae h).elim|exact⟨_,_,rfl⟩
def zV{c:CS}(h:Ny c=true):∃g es,c=.ex (.call g es):=by
 cases c<;>first|exact(aae h).elim|skip
 obtain⟨g,es,rfl⟩:=zW h;exact⟨g,es,rfl⟩
def K7(L:Lk X S k Φ)(l:Passes (uR X.prog X.w C) X (λc _ H'=>c=.ref C/\aM X.H₀ H'))(o:∀g x,S.fn g=some x->(∃p,Ψ g p)->jg X.prog X.w X.K X.mg X.base k C x (Ψ g)){g:Nat}(h:qP S (.ex (.call g es)) st=true):PS X st (lh X F (oE Φ Ψ n (.ex (.call g es)))):=by
 obtain⟨v,i,j⟩:=bt h;obtain⟨pos,rfl⟩:=oN i;obtain⟨d,h2⟩:=aH j;exact PS.imp (K9 (wy (F:=F) L l o d) (iu d (gN h2) _ _ _)) λD σ H q=>by obtain⟨R,e,ρ,r,m⟩:=q;cases m with|ex a b=>exact⟨R,e,ρ,r,_,a,b⟩
def T7(L:Lk X S k Φ)(p:Passes (uR X.prog X.w C) X (λc _ H'=>c=.ref C/\aM X.H₀ H'))(q:∀g x,S.fn g=some x->(∃Q,Ψ g Q)->jg X.prog X.w X.K X.mg X.base k C x (Ψ g)){c:CS}(l:LS c=true)(h:qP S c st=true):PS X st (lh X F (oE Φ Ψ n c)):=by
 cases c<;>first|exact(aae l).elim|skip
 ·obtain⟨g,es,rfl⟩:=zW l;exact K7 L p q h
 ·obtain⟨ca,v,M⟩:=bt l;obtain⟨V,u,i⟩:=bt M;obtain⟨s,r⟩:=aH i;obtain⟨_,_,rfl⟩:=zV s;obtain⟨_,_,rfl⟩:=zV r;cases bR v;cases bR u;obtain⟨⟨t,x,z⟩,y,I⟩:=bt h;obtain⟨pos,rfl⟩:=sC y;obtain⟨G,h3⟩:=aH I;obtain⟨O,h2⟩:=aH G;have one:∀{g:Nat} {es:aA} {j:aV},ja S [.ex (.call g es)] j=true->iA X j (lh X F (Er Φ Ψ n [.ex (.call g es)])):=λ{g es j} d=>by
   cases j with
   |nil=>exact(aae d).elim
   |cons U rest =>
    have d:=aH d;cases rest with
    |cons _ _=>exact(aae d.2).elim
    |nil =>
     refine iA.imp (iJ (K7 (F:=F) (n:=n) L p q d.1)) λD σ H ⟨R,a,ρ,b,i⟩=>?_;cases i with
     |hd e=>exact⟨R,a,ρ,b,e⟩
     |tl _ e=>cases e
  refine PS.imp (vD (pos:=pos) (eZ (F:=F) L _ t O).2 (one h2) (one h3)) λD σ H J=>?_;obtain⟨R,a,ρ,b,i⟩:=J;cases i with
  |BD o m=>exact⟨R,a,ρ,true,b,o,λT es=>Nq ⟨R,a,ρ,b.go es,m⟩⟩
  |iff o m=>exact⟨R,a,ρ,false,b,o,λT es=>EC ⟨R,a,ρ,b.go es,m⟩⟩
end
def Lv(K:ak)(mg:aY)(sc:Scope)(C:Addr)(x:Str)(b:Bool):Prop :=
 (iD sc x=true/\(x==("__debug__" : Str))=false)/\((∃a,mg x=some (.ref a)/\PySem.W.kitOne K (.ref C) (.ref a)=some b)\/∃T,mg x=none/\bootBuiltins x=some (.type T)/\x ≠ "__name__" /\ PySem.W.kitOne K (.ref C) (.type T)=some b)
end DI
end
section
namespace DI
open PySem (Str)
section
variable {α β:Type}
@[simp]theorem cS(a:α)(f:α->O β):bd (ok a) f=f a:=rfl
@[simp]theorem V_(c:Nat)(f:α->O β):bd (some (.error c)) f=some (.error c):=rfl
noncomputable def Ln(f:α->O β)(x:O α):O β:=bd x f
@[simp]theorem ZR(f:α->O β)(a:α):Ln f (ok a)=f a:=rfl
@[simp]theorem We(f:α->O β)(c:Nat):Ln f (some (.error c))=some (.error c):=rfl
end
def UI(op:G3)(x y:O D):O D:=bd x λx=>bd y λy=>dD op x y
@[simp]theorem V9(op:G3)(x y:D):UI op (ok x) (ok y)=dD op x y:=rfl
def Uz(op:Cf)(x y:O D):O D:=bd x λx=>bd y λy=>cY op x y
@[simp]theorem V6(op:Cf)(x y:D):Uz op (ok x) (ok y)=cY op x y:=rfl
def ixO(x y:O D):O D:=bd x λx=>bd y λy=>nV x y
@[simp]theorem XT(x y:D):ixO (ok x) (ok y)=nV x y:=rfl
def RM(x:O D):O D:=bd (bd x jc) λb=>ok (.bl (!b))
@[simp]theorem Vy(b:Bool):RM (ok (.bl b))=ok (.bl (!b)):=rfl
@[simp]theorem QG(b:Bool):jc (.bl b)=ok b:=rfl
def xQ(x:O D):O Bool:=bd x jc
@[simp]theorem Va(b:Bool):xQ (ok (.bl b))=ok b:=rfl
@[simp]theorem QF(c:Nat):xQ (some (.error c))=some (.error c):=rfl
def isO(t:Ty)(x:O D):O D:=bd x λx=>ok (.bl (eE t x))
@[simp]theorem XZ(t:Ty)(x:D):isO t (ok x)=ok (.bl (eE t x)):=rfl
def Gf(m:au)(xs:O (aa)):O D:=bd xs λxs=>bd (m (aw aI xs)) λr=>ok (aE eX r)
def VV(x:O D):O D:=bd x λr=>ok (aE eX r)
@[simp]theorem Zb(r:D):VV (ok r)=ok (aE eX r):=rfl
@[simp]theorem VU(c:Nat):VV (some (.error c))=some (.error c):=rfl
@[simp]theorem wW(m:au)(xs:aa):Gf m (ok xs)=VV (m (aw aI xs)):=rfl
@[simp]theorem Qj(m:au)(c:Nat):Gf m (some (.error c))=some (.error c):=rfl
noncomputable def m5(x:O D)(xs:O (aa)):O (aa):=bd x λx=>bd xs λxs=>ok (x::xs)
@[simp]theorem Ux(x:D)(xs:aa):m5 (ok x) (ok xs)=ok (x::xs):=rfl
@[simp]theorem Qh(c:Nat)(xs:O (aa)):m5 (some (.error c)) xs=some (.error c):=rfl
@[simp]theorem O6(x:D)(c:Nat):m5 (ok x) (some (.error c))=some (.error c):=rfl
noncomputable def Sf(x:O Bool)(a b:O D):O D:=bd x λk=>if k then a else b
@[simp]theorem XX(a b:O D):Sf (ok true) a b=a:=rfl
@[simp]theorem XY(a b:O D):Sf (ok false) a b=b:=rfl
def J4(x y:O D):O D:=bd (bd x jc) λc=>if c then y else ok (.bl false)
@[simp]theorem ZS(y:O D):J4 (ok (.bl true)) y=y:=rfl
@[simp]theorem ZT(y:O D):J4 (ok (.bl false)) y=ok (.bl false):=rfl
@[simp]theorem ZU(a b:Bool):J4 (ok (.bl a)) (ok (.bl b))=ok (.bl (a&&b)):=by cases a<;>rfl
def Vu(x y:O D):O D:=bd (bd x jc) λc=>if c then ok (.bl true)else y
@[simp]theorem aaA(y:O D):Vu (ok (.bl true)) y=ok (.bl true):=rfl
@[simp]theorem aaB(y:O D):Vu (ok (.bl false)) y=y:=rfl
@[simp]theorem aaC(a b:Bool):Vu (ok (.bl a)) (ok (.bl b))=ok (.bl (a||b)):=by cases a<;>rfl
def Ex(x:O D):O D:=bd (bd x jc) λc=>ok (.bl c)
@[simp]theorem R_(c:Bool):Ex (ok (.bl c))=ok (.bl c):=rfl
@[simp]theorem Q7(d:D):zl (some (some d))=ok (aE bg d):=rfl
section
variable (Φ:aT)(ρ:aX)
@[simp]theorem abQ:bo Φ .bP ρ=ok .bP:=rfl
@[simp]theorem afa(b:Bool):bo Φ (.bl b) ρ=ok (.bl b):=rfl
@[simp]theorem Lb(i:Int):bo Φ (.int i) ρ=ok (.int i):=rfl
@[simp]theorem abL(i:Str):bo Φ (.str i) ρ=ok (.str i):=rfl
@[simp]theorem abU(x:Str)(i:Int):bo Φ (.glo x i) ρ=ok (.int i):=rfl
@[simp]theorem Zw(i:Nat):bo Φ (.v i) ρ=zl ρ[i]?:=rfl
@[simp]theorem FG(op:G3)(a b:CE):bo Φ (.bin op a b) ρ=UI op (bo Φ a ρ) (bo Φ b ρ):=rfl
@[simp]theorem As(op:Cf)(a b:CE):bo Φ (.cmp op a b) ρ=Uz op (bo Φ a ρ) (bo Φ b ρ):=rfl
@[simp]theorem abS(a:CE):bo Φ (.neg a) ρ=Ln Iq (bo Φ a ρ):=rfl
@[simp]theorem abP(a:CE):bo Φ (.not a) ρ=RM (bo Φ a ρ):=rfl
@[simp]theorem abT(a:CE)(t:Ty):bo Φ (.vV a t) ρ=isO t (bo Φ a ρ):=rfl
@[simp]theorem yJ(f:Nat)(es:aA):bo Φ (.call f es) ρ=Gf (Φ f) (bJ Φ es ρ):=rfl
@[simp]theorem JE(f:Bf)(es:aA):bo Φ (.bf f es) ρ=Ln (uT f) (bJ Φ es ρ):=rfl
@[simp]theorem abM(f:Nat)(es:aA):bo Φ (.cL f es) ρ=Ln (Φ f) (bJ Φ es ρ):=rfl
@[simp]theorem OV(a b:CE):bo Φ (.ix a b) ρ=ixO (bo Φ a ρ) (bo Φ b ρ):=rfl
@[simp]theorem Zx(a:CE):bo Φ (.mx a) ρ=Ln zQ (bo Φ a ρ):=rfl
@[simp]theorem Uq(es:aA):bo Φ (.tup es) ρ=Ln (λa=>ok (.tup a)) (bJ Φ es ρ):=rfl
@[simp]theorem Ur(es:aA):bo Φ (.lst es) ρ=Ln (λa=>ok (.lst .ow a)) (bJ Φ es ρ):=rfl
@[simp]theorem abV(es:aA):bo Φ (.and es) ρ=rV Φ es ρ:=rfl
@[simp]theorem ae_(es:aA):bo Φ (.or es) ρ=BV Φ es ρ:=rfl
@[simp]theorem Zz(e:CE):rV Φ [e] ρ=Ex (bo Φ e ρ):=rfl
@[simp]theorem Zy(e a:CE)(es:aA):rV Φ (e::a::es) ρ=J4 (bo Φ e ρ) (rV Φ (a::es) ρ):=rfl
@[simp]theorem abO(e:CE):BV Φ [e] ρ=Ex (bo Φ e ρ):=rfl
@[simp]theorem abN(e a:CE)(es:aA):BV Φ (e::a::es) ρ=Vu (bo Φ e ρ) (BV Φ (a::es) ρ):=rfl
@[simp]theorem abR:bJ Φ [] ρ=ok []:=rfl
@[simp]theorem jF(e:CE)(es:aA):bJ Φ (e::es) ρ=m5 (bo Φ e ρ) (bJ Φ es ρ):=rfl
@[simp]theorem e_T(e:CE):nM Φ e ρ=xQ (bo Φ e ρ):=rfl
def ZD(e:CE):bd (bo Φ e ρ) jc=xQ (bo Φ e ρ):=rfl
@[simp]theorem ZC:i8 Φ [] ρ=ok true:=rfl
@[simp]theorem ZA(e:CE):i8 Φ [e] ρ=xQ (bo Φ e ρ):=by
 rw[i8,ZD];cases h:xQ (bo Φ e ρ)with
 |none=>rfl
 |some r=>cases r with
  |error c=>rfl
  |ok b=>cases b<;>simp[i8,bd,ok]
end
def qO(is:aP):Nat->aX->aX
 |_,[]=>[]
 |n,d::ρ=>(if n∈is then d.map (aE aI)else d)::qO is (n+1) ρ
theorem K5(is:aP):∀(ρ:aX) (n:Nat),ρ.mapIdx (λi d=>if i+n∈is then d.map (aE aI)else d)=qO is n ρ
 |[],_=>rfl
 |d::ρ,n=>by
  rw[List.mapIdx_cons,qO,<- K5 is ρ (n+1)];simp only[p0,Nat.add_assoc,la 1 n]
def t_(is:aP)(ρ:aX):iM is ρ=qO is 0 ρ:=by rw[<- K5];rfl
@[simp]theorem T2(is:aP)(n:Nat):qO is n []=[]:=rfl
@[simp]theorem Qd(is:aP)(n:Nat)(d:aJ)(ρ:aX):qO is n (d::ρ)=(if n∈is then d.map (aE aI)else d)::qO is (n+1) ρ:=rfl
def dj(e:CE)(ρ:aX)(x:O D):O (D×aX):=bd x λd=>ok (keep e d ρ)
variable {ρ ρ1:aX}
@[simp]theorem jy{e:CE}{d:D}(h:bh bK d=false):dj e ρ (ok d)=ok (d,ρ):=by
 show ok (keep e d ρ)=_;rw[keep,h];rfl
@[simp]theorem vS{e:CE}{d:D}(h:bh bK d=true):dj e ρ (ok d)=ok (aE aI d,qO (iE e) 0 ρ):=by
 show ok (keep e d ρ)=_;rw[keep,h,<- t_];rfl
@[simp]theorem PR(e:CE)(ρ:aX)(c:Nat):dj e ρ (some (.error c))=some (.error c):=rfl
def El(i:Nat)(ρ:aX)(o:Option (aJ)):O (D×aX):=match o with
 |some (some d)=>if bh cO d then ok (d,ρ.set i none)else ok (d,ρ)
 |_=>none
@[simp]theorem RS{i:Nat}{d:D}(h:bh cO d=true):El i ρ (some (some d))=ok (d,ρ.set i none):=aa4 h
@[simp]theorem RT{i:Nat}{d:D}(h:bh cO d=false):El i ρ (some (some d))=ok (d,ρ):=acB (by rw[h];exact aae)
@[simp]theorem k_v(Φ:aT)(i:Nat)(ρ:aX):jD Φ (.v i) ρ=El i ρ ρ[i]?:=rfl
noncomputable def VD:CE->Bool
 |.v _=>true
 |_=>false
@[simp]theorem aaX(Φ:aT)(ρ:aX)(op:G3)(a b:CE):jD Φ (.bin op a b) ρ=dj (.bin op a b) ρ (bo Φ (.bin op a b) ρ):=rfl
@[simp]theorem aaW(Φ:aT)(ρ:aX)(op:Cf)(a b:CE):jD Φ (.cmp op a b) ρ=dj (.cmp op a b) ρ (bo Φ (.cmp op a b) ρ):=rfl
@[simp]theorem XI(Φ:aT)(ρ:aX)(f:Nat)(es:aA):jD Φ (.call f es) ρ=dj (.call f es) ρ (bo Φ (.call f es) ρ):=rfl
@[simp]theorem adU(Φ:aT)(ρ:aX)(f:Bf)(es:aA):jD Φ (.bf f es) ρ=dj (.bf f es) ρ (bo Φ (.bf f es) ρ):=rfl
@[simp]theorem aaQ(Φ:aT)(ρ:aX)(f:Nat)(es:aA):jD Φ (.cL f es) ρ=dj (.cL f es) ρ (bo Φ (.cL f es) ρ):=rfl
@[simp]theorem adS(Φ:aT)(ρ:aX)(a b:CE):jD Φ (.ix a b) ρ=dj (.ix a b) ρ (bo Φ (.ix a b) ρ):=rfl
@[simp]theorem aaO(Φ:aT)(ρ:aX)(es:aA):jD Φ (.tup es) ρ=dj (.tup es) ρ (bo Φ (.tup es) ρ):=rfl
@[simp]theorem aaU(Φ:aT)(ρ:aX)(es:aA):jD Φ (.lst es) ρ=dj (.lst es) ρ (bo Φ (.lst es) ρ):=rfl
@[simp]theorem KP(Φ:aT)(ρ:aX)(i:Int):jD Φ (.int i) ρ=dj (.int i) ρ (bo Φ (.int i) ρ):=rfl
@[simp]theorem adT(Φ:aT)(ρ:aX)(i:Bool):jD Φ (.bl i) ρ=dj (.bl i) ρ (bo Φ (.bl i) ρ):=rfl
@[simp]theorem aaS(Φ:aT)(ρ:aX): jD Φ (.bP) ρ=dj (.bP) ρ (bo Φ (.bP) ρ):=rfl
@[simp]theorem aaT(Φ:aT)(ρ:aX)(a:CE):jD Φ (.neg a) ρ=dj (.neg a) ρ (bo Φ (.neg a) ρ):=rfl
@[simp]theorem aaR(Φ:aT)(ρ:aX)(a:CE):jD Φ (.not a) ρ=dj (.not a) ρ (bo Φ (.not a) ρ):=rfl
@[simp]theorem aaY(Φ:aT)(ρ:aX)(es:aA):jD Φ (.and es) ρ=dj (.and es) ρ (bo Φ (.and es) ρ):=rfl
@[simp]theorem adR(Φ:aT)(ρ:aX)(es:aA):jD Φ (.or es) ρ=dj (.or es) ρ (bo Φ (.or es) ρ):=rfl
@[simp]theorem XH(Φ:aT)(ρ:aX)(n:Nat)(t:Tg)(caps:aP)(b:IK)(es c:aA)(a:CE):jD Φ (.comp n t caps b es c a) ρ=dj (.comp n t caps b es c a) ρ (bo Φ (.comp n t caps b es c a) ρ):=rfl
@[simp]theorem aaP(Φ:aT)(ρ:aX)(s:Str):jD Φ (.str s) ρ=dj (.str s) ρ (bo Φ (.str s) ρ):=rfl
@[simp]theorem aaV(Φ:aT)(ρ:aX)(a:CE)(t:Ty):jD Φ (.vV a t) ρ=dj (.vV a t) ρ (bo Φ (.vV a t) ρ):=rfl
@[simp]theorem XG(Φ:aT)(ρ:aX)(a:CE):jD Φ (.mx a) ρ=dj (.mx a) ρ (bo Φ (.mx a) ρ):=rfl
def Co(Φ:aT)(e:CE)(ρ:aX)(h:VD e=false):jD Φ e ρ=dj e ρ (bo Φ e ρ):=by cases e<;>first|rfl|cases h
@[simp]theorem PH(ρ:aX):ic [] [] ρ=ok ρ:=rfl
variable {Zs ds xs:aa}{is:aP}
@[simp]theorem Mb{i:Nat}{d:D}(h:i<ρ.length):ic (i::is) (d::ds) ρ=ic is ds (ρ.set i (some d)):=aa4 h
@[simp]theorem Hy{i:Nat}{d:D}(h:i<ρ.length):bU (.nm i) d ρ=ok (ρ.set i (some d)):=aa4 h
@[simp]theorem Vk(h:aU cO ds=false):bU (.tp is) (.tup ds) ρ=ic is ds ρ:=acB (by rw[h];exact aae)
def Pj(i:Nat)(r:O (D×aX)):O (Fo×aX):=bd r λr=>bd (bU (.nm i) r.1 r.2) λa=>ok (.nx,a)
@[simp]theorem ou{i:Nat}{d:D}(h:i<ρ.length):Pj i (ok (d,ρ))=ok (.nx,ρ.set i (some d)):=by
 show bd (bU (.nm i) d ρ) _=_;rw[bU,cc h];rfl
@[simp]theorem UL(i:Nat)(c:Nat):Pj i (some (.error c))=some (.error c):=rfl
def UK(is:aP)(r:O (D×aX)):O (Fo×aX):=bd r λr=>bd (bU (.tp is) r.1 r.2) λa=>ok (.nx,a)
@[simp]theorem Wc(h:aU cO ds=false):UK is (ok (.tup ds,ρ))=bd (ic is ds ρ) λa=>ok (.nx,a):=by
 show bd (bU (.tp is) (.tup ds) ρ) _=_;rw[bU,h];rfl
noncomputable def retS(r:O (D×aX)):O (Fo×aX):=bd r λr=>ok (.rt r.1,r.2)
@[simp]theorem Vm(d:D)(ρ:aX):retS (ok (d,ρ))=ok (.rt d,ρ):=rfl
@[simp]theorem Rk(c:Nat):retS (some (.error c))=some (.error c):=rfl
noncomputable def Zj(ρ:aX)(x:O D):O (Fo×aX):=bd x λ_=>ok (.nx,ρ)
@[simp]theorem Zi(ρ:aX)(d:D):Zj ρ (ok d)=ok (.nx,ρ):=rfl
@[simp]theorem V1(ρ:aX)(c:Nat):Zj ρ (some (.error c))=some (.error c):=rfl
noncomputable def mT(Φ:aT)(ss:af)(r:O (Fo×aX)):O (Fo×aX):=bd r λr=>match r with
 | (.nx,ρ')=>bE Φ ss ρ'
 |r=>ok r
@[simp]theorem ve(Φ:aT)(ss:af)(ρ:aX):mT Φ ss (ok (.nx,ρ))=bE Φ ss ρ:=rfl
@[simp]theorem QH(Φ:aT)(ss:af)(d:D)(ρ:aX):mT Φ ss (ok (.rt d,ρ))=ok (.rt d,ρ):=rfl
@[simp]theorem Pr(Φ:aT)(ss:af)(c:Nat):mT Φ ss (some (.error c))=some (.error c):=rfl
noncomputable def EB(Φ:aT)(a b:af)(ρ:aX)(x:O Bool):O (Fo×aX):=bd x λk=>if k then bE Φ a ρ else bE Φ b ρ
@[simp]theorem Nr(Φ:aT)(a b:af)(ρ:aX):EB Φ a b ρ (ok true)=bE Φ a ρ:=rfl
@[simp]theorem XW(Φ:aT)(a b:af)(ρ:aX):EB Φ a b ρ (ok false)=bE Φ b ρ:=rfl
@[simp]theorem Se(Φ:aT)(a b:af)(ρ:aX)(c:Nat):EB Φ a b ρ (some (.error c))=some (.error c):=rfl
def UN(i:Nat)(r:O (D×aX)):O (Fo×aX):=bd r λr=>match yg r.2[i]? with
  |some ds=>if ds.length<du then ok (.nx,r.2.set i (some (.lst .ow (ds++[r.1]))))else none
  |none=>none
@[simp]theorem Wd{i:Nat}{d:D}(h:ρ[i]?=some (some (.lst .ow ds)))(hl:ds.length<du):UN i (ok (d,ρ))=ok (.nx,ρ.set i (some (.lst .ow (ds++[d])))):=by
 show(match yg ρ[i]? with|some ds=>_|none=>_)=_;rw[h];exact aa4 hl
section
variable (Φ:aT)(ρ:aX)
@[simp]theorem aab:bE Φ [] ρ=ok (.nx,ρ):=rfl
@[simp]theorem cp(s:CS)(ss:af):bE Φ (s::ss) ρ=mT Φ ss (ib Φ s ρ):=rfl
@[simp]theorem CF(i:Nat)(e:CE):ib Φ (.asg (.nm i) e) ρ=Pj i (jD Φ e ρ):=rfl
@[simp]theorem Wm(is:aP)(e:CE):ib Φ (.asg (.tp is) e) ρ=UK is (jD Φ e ρ):=rfl
@[simp]theorem Kd(e:CE):ib Φ (.ret e) ρ=retS (jD Φ e ρ):=rfl
def qX(c:CE)(b:af):ib Φ (.Ke c b) ρ=gm (λρ=>bd (nM Φ c ρ) λk=>if k then bd (bE Φ b ρ) λr=>match r with
   | (.nx,ρ')=>ok (.inl ρ')
   | (.rt d,ρ')=>ok (.inr (.rt d,ρ'))
  else ok (.inr (.nx,ρ))) ρ:=rfl
def Qv(i j:Nat)(a b:CE):ib Φ (.par i j a b) ρ=bd (bo Φ a ρ) λx=>bd (bo Φ b ρ) λy=>if bh anyF x=false/\bh anyF y=false/\i<ρ.length/\j<ρ.length then ok (.nx,(ρ.set i (some x)).set j (some y))else none:=rfl
@[simp]theorem acx(c:Nat):ib Φ (.rs c) ρ=some (.error c):=rfl
@[simp]theorem Qw(e:CE):ib Φ (.ex e) ρ=Zj ρ (bo Φ e ρ):=rfl
@[simp]theorem sA(c:CE)(a b:af):ib Φ (.ifs c a b) ρ=EB Φ a b ρ (xQ (bo Φ c ρ)):=rfl
@[simp]theorem aac(i:Nat)(e:CE):ib Φ (.app i e) ρ=UN i (jD Φ e ρ):=rfl
end
noncomputable def mk(Φ:aT)(ar n:Nat)(b:af):au:=λds=>if ds.length=ar then sQ Φ n b ds else none
noncomputable def lO(r:O (Fo×aX)):O D:=bd r λr=>match r.1 with
 |.nx=>ok .bP
 |.rt d=>ok d
@[simp]theorem V4(ρ:aX):lO (ok (.nx,ρ))=ok .bP:=rfl
@[simp]theorem V3(d:D)(ρ:aX):lO (ok (.rt d,ρ))=ok d:=rfl
@[simp]theorem Up(c:Nat):lO (some (.error c))=some (.error c):=rfl
variable {ar w:Nat}{Φ:aT}
def mk_eq{n:Nat}{b:af}(h:ds.length=ar):mk Φ ar n b ds=lO (bE Φ b (ds.map some++List.replicate (n - ds.length) none)):=aa4 h
def yj{n:Nat}{b:af}(ds:aa)(r:D)(h:mk Φ ar n b ds=ok r):ds.length=ar/\sQ Φ n b ds=ok r:=by
 unfold mk at h;split at h
 ·rename_i hl;exact⟨hl,h⟩
 ·cases h
def Int.beq_eq_decide_eq(i j:Int):(i==j)=decide (i=j):=rfl
section
variable (g:Fl->Fl)(p:Fl->Bool)
@[simp]theorem Iw(b:Bool):aE g (.bl b)=.bl b:=rfl
@[simp]theorem Eo(b:Int):aE g (.int b)=.int b:=rfl
@[simp]theorem RW:aE g .bP=.bP:=rfl
@[simp]theorem RV(s:Str):aE g (.str s)=.str s:=rfl
@[simp]theorem En(ds:aa):aE g (.tup ds)=.tup (aw g ds):=rfl
@[simp]theorem RX(f:Fl)(ds:aa):aE g (.lst f ds)=.lst (g f) (aw g ds):=rfl
@[simp]theorem RY(f:Fl)(ks:aL)(vs:aa):aE g (.cX f ks vs)=.cX (g f) ks (aw g vs):=rfl
@[simp]theorem PM:aw g []=[]:=rfl
@[simp]theorem M1(d:D)(ds:aa):aw g (d::ds)=aE g d::aw g ds:=rfl
@[simp]theorem PQ(a b:aa):aw g (a++b)=aw g a++aw g b:=by simp only[aG,f6]
@[simp]theorem PN(ds:aa):(aw g ds).length=ds.length:=by rw[aG,b4]
def e_{a:Type}{e:a->D}(h:∀x,aE g (e x)=e x)(xs:List a):aw g (xs.map e)=xs.map e:=by
 rw[aG,fb];exact aay λx _=>h x
theorem dM{a:Type}{e:a->D}(h:∀x,bh p (e x)=false):∀xs:List a,aU p (xs.map e)=false
 |[]=>by rw[pE,aU]
 |x::xs=>by rw[dx,aU,h x,dM h xs];rfl
@[simp]theorem Ja(b:Bool):bh p (.bl b)=false:=acf rfl
@[simp]theorem pC(b:Int):bh p (.int b)=false:=acf rfl
@[simp]theorem To:bh p .bP=false:=acf rfl
@[simp]theorem Tn(s:Str):bh p (.str s)=false:=acf rfl
@[simp]theorem Fc(ds:aa):bh p (.tup ds)=aU p ds:=acf rfl
@[simp]theorem Fd(f:Fl)(ds:aa):bh p (.lst f ds)=(p f||aU p ds):=acf rfl
@[simp]theorem Tp(f:Fl)(ks:aL)(vs:aa):bh p (.cX f ks vs)=(p f||aU p vs):=acf rfl
@[simp]theorem Qa:aU p []=false:=acf rfl
@[simp]theorem NW(d:D)(ds:aa):aU p (d::ds)=(bh p d||aU p ds):=acf rfl
@[simp]theorem BO:∀a b:aa,aU p (a++b)=(aU p a||aU p b)
 |[],b=>by simp
 |d::a,b=>by simp[BO a b,Bool.or_assoc]
@[simp]theorem ym(ns:ae):aw g (ns.map D.int)=ns.map D.int:=e_ g (Eo g) ns
@[simp]theorem yA(ns:ae):aU p (ns.map D.int)=false:=dM p (pC p) ns
@[simp]theorem Bq(ns:List Bool):aw g (ns.map D.bl)=ns.map D.bl:=e_ g (Iw g) ns
@[simp]theorem BN(ns:List Bool):aU p (ns.map D.bl)=false:=dM p (Ja p) ns
@[simp]theorem PU(t:Ty)(d:D):eE t (aE g d)=eE t d:=by cases d<;>cases t<;>rfl
end
@[simp]theorem Ot:bg .ow=.al:=rfl
@[simp]theorem Ou:bg .fz=.fz:=rfl
@[simp]theorem Ov:bg .al=.al:=rfl
@[simp]theorem Oq:bg .sc=.sc:=rfl
@[simp]theorem Ol:aI .ow=.fz:=rfl
@[simp]theorem Om:aI .fz=.fz:=rfl
@[simp]theorem Oo:aI .al=.fz:=rfl
@[simp]theorem Oj:aI .sc=.sc:=rfl
@[simp]theorem OI:eX .ow=.ow:=rfl
@[simp]theorem OJ:eX .fz=.al:=rfl
@[simp]theorem OK:eX .al=.al:=rfl
@[simp]theorem OH:eX .sc=.sc:=rfl
@[simp]theorem OE:bK .ow=false:=rfl
@[simp]theorem OF:bK .fz=false:=rfl
@[simp]theorem OG:bK .al=true:=rfl
@[simp]theorem OD:bK .sc=false:=rfl
@[simp]theorem OA:cO .ow=true:=rfl
@[simp]theorem OB:cO .fz=false:=rfl
@[simp]theorem OC:cO .al=false:=rfl
@[simp]theorem Oz:cO .sc=false:=rfl
@[simp]theorem Ow:qM .ow=false:=rfl
@[simp]theorem Ox:qM .fz=false:=rfl
@[simp]theorem Oy:qM .al=false:=rfl
noncomputable def ag(ns:ae):aa:=ns.map D.int
noncomputable def lQ(ns:List Bool):aa:=ns.map D.bl
@[simp]theorem PY(ns:ae):(ag ns).length=ns.length:=abJ ..
@[simp]theorem UH(ns:List Bool):(lQ ns).length=ns.length:=abJ ..
@[simp]theorem PV:ag []=[]:=rfl
@[simp]theorem NC(n:Int)(ns:ae):ag (n::ns)=.int n::ag ns:=rfl
@[simp]theorem NB(ns:ae)(n:Int):ag ns++[.int n]=ag (ns++[n]):=by simp[ag]
@[simp]theorem BB(ns:ae)(i:Nat):(ag ns)[i]?=ns[i]?.map D.int:=List.getElem?_map ..
@[simp]theorem eA(g:Fl->Fl)(ns:ae):aw g (ag ns)=ag ns:=ym g ns
@[simp]theorem v9(p:Fl->Bool)(ns:ae):aU p (ag ns)=false:=yA p ns
@[simp]theorem M3(g:Fl->Fl)(ns:List Bool):aw g (lQ ns)=lQ ns:=Bq g ns
@[simp]theorem NX(p:Fl->Bool)(ns:List Bool):aU p (lQ ns)=false:=BN p ns
@[simp]theorem abX(i j:Int):dD .add (.int i) (.int j)=ok (.int (i+j)):=rfl
@[simp]theorem abW(i j:Int):dD .sub (.int i) (.int j)=ok (.int (i - j)):=rfl
def kn{i j:Int}(h:jv i j=true):dD .mul (.int i) (.int j)=ok (.int (i*j)):=aa4 h
def qc{i j:Int}(h:rY j=true):dD .fdiv (.int i) (.int j)=ok (.int (i.fdiv j)):=aa4 h
@[simp]theorem qb{i j:Int}(h:j≠0):dD .mod (.int i) (.int j)=ok (.int (i.fmod j)):=aa4 h
@[simp]theorem UJ{i j:Int}(h:0<=j):dD .shr (.int i) (.int j)=ok (.int (i / 2 ^ j.toNat)):=aa4 h
def Li{i j:Int}(h:zx i j=true):dD .pow (.int i) (.int j)=ok (.int (i ^ j.toNat)):=aa4 h
@[simp]theorem aaH(i:Int):Iq (.int i)=ok (.int (-i)):=rfl
def mulOk_of{i j:Int}(h:i.natAbs<2 ^ 9000)(h':j.natAbs<2 ^ 9000):jv i j=true:=by
 simp only[jv,big,h,h',decide_true,Bool.and_self,km]
def tI{n:Nat}(h:n<2 ^ 64):n<2 ^ 9000:=aal h (aaD (by decide) (by decide))
def tF{i:Int}(j:Int)(h:i.natAbs<2 ^ 64):jv i j=true:=by simp only[jv,h,decide_true,Bool.true_or]
def Iu{j:Int}(i:Int)(h:j.natAbs<2 ^ 64):jv i j=true:=by simp only[jv,h,decide_true,Bool.true_or,km]
def jG{j:Int}(a:j≠0)(h:j.natAbs<2 ^ 9000):rY j=true:=by
 simp only[rY,big,h,decide_true,ky,decide_eq_true_eq];exact a
@[simp]theorem Wa{i j:Int}(h:j.natAbs<2 ^ 64):dD .mul (.int i) (.int j)=ok (.int (i*j)):=kn (Iu i h)
@[simp]theorem Wb{i j:Int}(h:i.natAbs<2 ^ 64):dD .mul (.int i) (.int j)=ok (.int (i*j)):=kn (tF j h)
@[simp]theorem jJ{i j:Int}(a:j≠0)(h:j.natAbs<2 ^ 64):dD .fdiv (.int i) (.int j)=ok (.int (i.fdiv j)):=qc (jG a (tI h))
def kf{a b:D}(d:eJ 40 a=true)(c:eJ 40 b=true):cY .eq a b=ok (.bl (i9 a b)):=by
 show(if eJ 40 a&&eJ 40 b then _ else _)=_;rw[d,c];rfl
def UD{a b:D}(d:eJ 40 a=true)(c:eJ 40 b=true):cY .ne a b=ok (.bl (!i9 a b)):=by
 show(if eJ 40 a&&eJ 40 b then _ else _)=_;rw[d,c];rfl
@[simp]theorem fZ(n:Nat)(i:Int):eJ n (.int i)=true:=by cases n<;>rfl
@[simp]theorem Xq(n:Nat)(i:Bool):eJ n (.bl i)=true:=by cases n<;>rfl
@[simp]theorem Vw(n:Nat):eJ n .bP=true:=by cases n<;>rfl
@[simp]theorem Vv(n:Nat)(i:Str):eJ n (.str i)=true:=by cases n<;>rfl
@[simp]theorem nU(n:Nat)(ds:aa):eJ (n+1) (.tup ds)=ds.all (eJ n):=rfl
@[simp]theorem Ik(n:Nat)(f:Fl)(ds:aa):eJ (n+1) (.lst f ds)=ds.all (eJ n):=rfl
@[simp]theorem Xi(i j:Int):cY .eq (.int i) (.int j)=ok (.bl (decide (i=j))):=by rw[kf (fZ _ _) (fZ _ _)];show ok (D.bl (i==j))=_;rw[Int.beq_eq_decide_eq]
@[simp]theorem Xh(i j:Int):cY .ne (.int i) (.int j)=ok (.bl (!decide (i=j))):=by rw[UD (fZ _ _) (fZ _ _)];show ok (D.bl (!(i==j)))=_;rw[Int.beq_eq_decide_eq]
@[simp]theorem adp(i j:Int):cY .lt (.int i) (.int j)=ok (.bl (decide (i<j))):=rfl
@[simp]theorem adq(i j:Int):cY .le (.int i) (.int j)=ok (.bl (decide (i<=j))):=rfl
@[simp]theorem ads(i j:Int):cY .gt (.int i) (.int j)=ok (.bl (decide (j<i))):=rfl
@[simp]theorem adt(i j:Int):cY .ge (.int i) (.int j)=ok (.bl (decide (j<=i))):=rfl
@[simp]theorem aa5(ds:aa)(i:Int):nV (.tup ds) (.int i)=uH ds i:=rfl
@[simp]theorem aa6(f:Fl)(ds:aa)(i:Int):nV (.lst f ds) (.int i)=uH ds i:=rfl
def uG{n:Nat}{d:D}(h:ds[n]?=some d):uH ds (n:Int)=ok (aE bg d):=by
 have a:n<ds.length:=(List.getElem?_eq_some_iff.mp h).1;have e:vT ds.length (n:Int)=some n:=by unfold vT;rw[cc (by left),cc (by left)];rfl
 unfold uH;rw[e,Option.bind_some,h]
def at_of{i:Int}{d:D}(a:0<=i)(h:ds[i.toNat]?=some d):uH ds i=ok (aE bg d):=by
 have:=uG h
 rwa [show((i.toNat:Nat):Int)=i by left]at this
@[simp]theorem ZQ(d:D)(ds:aa):uH (d::ds) 0=ok (aE bg d):=uG (n:=0) rfl
@[simp]theorem afm(a d:D)(ds:aa):uH (a::d::ds) 1=ok (aE bg d):=uG (n:=1) rfl
@[simp]theorem afl(a b d:D)(ds:aa):uH (a::b::d::ds) 2=ok (aE bg d):=uG (n:=2) rfl
@[simp]theorem VZ(ds:aa):uT .len [.tup ds]=ok (.int ds.length):=rfl
@[simp]theorem V0(f:Fl)(ds:aa):uT .len [.lst f ds]=ok (.int ds.length):=rfl
@[simp]theorem abI(i:Int):uT .abs [.int i]=ok (.int i.natAbs):=by
 show ok (D.int (if i<0 then -i else i))=_;congr 2;split<;>left
@[simp]theorem T5(f:Fl)(ds:aa):uT .list1 [.lst f ds]=ok (.lst .ow (aw bg ds)):=rfl
@[simp]theorem T4(ds:aa):uT .list1 [.tup ds]=ok (.lst .ow (aw bg ds)):=rfl
@[simp]theorem VY(f:Fl)(ds:aa):uT .tuple1 [.lst f ds]=ok (.tup (aw bg ds)):=rfl
@[simp]theorem abG(f:Fl)(ns:ae):uT .ku [.lst f (ag ns)]=ok (.int ns.sum):=by
 show(match intsOf (ns.map D.int)with|some ns=>_|none=>_)=_;rw[bC]
@[simp]theorem abH(f:Fl)(bs:List Bool):uT .all1 [.lst f (lQ bs)]=ok (.bl (bs.all id)):=by
 show(match jI (bs.map D.bl)with|some ns=>_|none=>_)=_;rw[mH]
variable {ns ws:ae}
@[simp]theorem Jj(h:ns.length<64):uT .iI [.tup (ag ns)]=ok (.lst .ow (ag (sortI ns))):=by
 show vm _=_;unfold vm ag;rw[bC];exact aa4 h
@[simp]theorem OL(h:ns.length<4000):zQ (.tup (ag ns))=ok (.int (eY ns).length):=by
 show(match intsOf (ns.map D.int)with|some ns=>_|none=>_)=_;rw[bC];exact aa4 h
@[simp]theorem n_(i j:Int):i9 (.int i) (.int j)=decide (i=j):=by show(i==j)=_;rw[Int.beq_eq_decide_eq]
@[simp]theorem Zq(i j:Bool):i9 (.bl i) (.bl j)=(i==j):=rfl
@[simp]theorem Js(a b:aa):i9 (.tup a) (.tup b)=ff a b:=rfl
@[simp]theorem Jt(f g:Fl)(a b:aa):i9 (.lst f a) (.lst g b)=ff a b:=rfl
@[simp]theorem FA:ff [] []=true:=rfl
@[simp]theorem mF(a b:D)(as bs:aa):ff (a::as) (b::bs)=(i9 a b&&ff as bs):=rfl
theorem pP:∀{as bs:aa},ff as bs=true->as.length=bs.length
 |[],[],_=>rfl
 |[],_::_,h=>(aae h).elim
 |_::_,[],h=>(aae h).elim
 |a::as,b::bs,h=>by
  replace h:(_&&_)=true:=h;rw[cM]at h;rw[cz,cz,pP h.2]
theorem lN{b:Type}{e:b->D}[DecidableEq b](h:∀x y,i9 (e x) (e y)=decide (x=y)):∀xs a:List b,ff (xs.map e) (a.map e)=decide (xs=a)
 |[],[]=>by simp
 |[],y::a=>by
  cases z:ff ([].map e) ((y::a).map e)with
  |true=>have:=pP z;simp at this
  |false=>simp
 |x::xs,[]=>by
  cases z:ff ((x::xs).map e) ([].map e)with
  |true=>have:=pP z;simp at this
  |false=>simp
 |x::xs,y::a=>by
  rw[dx,dx,mF,h,lN h xs a];by_cases d:x=y<;>by_cases c:xs=a<;>simp[d,c]
def lB{a:Type}{e:a->D}{n:Nat}(h:∀x,eJ n (e x)=true)(xs:List a):(xs.map e).all (eJ n)=true:=by
 rw[g6];exact List.all_eq_true.mpr λx _=>h x
theorem bH{bind:D->O aX}{test:aX->O Bool}{el:aX->O D}{a:Type}{e:a->D}{g:a->D}:∀{xs:List a},(∀x∈xs,∃ρ,bind (e x)=ok ρ/\test ρ=ok true/\el ρ=ok (g x))->i_ bind test el (xs.map e)=ok (xs.map g)
 |[],_=>rfl
 |x::xs,h=>by
  obtain⟨ρ,i,f,d⟩:=h x (aak ..);have b:=bH (xs:=xs) λy c=>h y (aai _ c);rw[dx,i_,i,cS,f,cS,cc rfl,d,cS,b];rfl
theorem eB{bind:D->O aX}{test:aX->O Bool}{el:aX->O D}{a:Type}{e:a->D}{g:a->D}{t:a->Bool}:∀{xs:List a},(∀x∈xs,∃ρ,bind (e x)=ok ρ/\test ρ=ok (t x)/\(t x=true->el ρ=ok (g x)))->i_ bind test el (xs.map e)=ok ((xs.filter t).map g)
 |[],_=>rfl
 |x::xs,h=>by
  obtain⟨ρ,j,i,f⟩:=h x (aak ..);have b:=eB (xs:=xs) λy c=>h y (aai _ c);rw[dx,i_,j,cS,i,cS,List.filter_cons];cases d:t x with
  |true=>rw[cc rfl,f d,cS,b,cc rfl];rfl
  |false=>rw[cb dX,b,cb dX]
section
variable {Φ:aT}{n:Nat}{t:Tg}{caps:aP}{ik:IK}{es bQ:aA}{elt:CE}{ρ:aX}{xs items ds:aa}
def bY(e:bJ Φ es ρ=ok xs)(c:eK Φ ik xs=ok items)
  (b:i_ (λd=>bU t d (bx n caps ρ)) (λa=>i8 Φ bQ a) (λa=>bo Φ elt a) items=ok ds) (hl:ds.length<=du):bo Φ (.comp n t caps ik es bQ elt) ρ=ok (.lst .ow (aw eX ds)):=by
 show bd (bJ Φ es ρ) _=_;rw[e,cS,c,cS,b,cS,cc hl]
end
def tR(Φ:aT)(ds:aa):eK Φ .seq [.tup ds]=ok (aw aI ds):=rfl
def b6(Φ:aT)(f:Fl)(ds:aa):eK Φ .seq [.lst f ds]=ok (aw aI ds):=rfl
def tS(Φ:aT){n:Int}(a:0<=n)(h:n<=1000000):eK Φ .jr [.int n]=ok ((List.range n.toNat).map λ(k:Nat)=>D.int (k:Int)):=by
 show(if n<=(du:Int) /\ -(du:Int)<=n then _ else _)=_;have:(du:Int)=1000000:=rfl;rw[cc (by left)]
def bA{n:Nat}(h:n<=1000000):n<=du:=h
def dT{t:Tg}{it:CI}{b:af}{items:aa}{r:O (Fo×aX)}(h:bX Φ it ρ=ok (items,ρ1))(h':dC (λd ρ=>bU t d ρ) (λρ=>bE Φ b ρ) items ρ1=r):ib Φ (.fr t it b) ρ=r:=by
 show bd (bX Φ it ρ) _=_;rw[h];exact h'
def f9(bind:D->aX->O aX)(body:aX->O (Fo×aX))(ρ:aX):dC bind body [] ρ=ok (.nx,ρ):=rfl
def cQ{bind:D->aX->O aX}{body:aX->O (Fo×aX)}{x:D}{ρ2:aX}{r:O (Fo×aX)}(c:bind x ρ=ok ρ1)(b:body ρ1=ok (.nx,ρ2))(a:dC bind body xs ρ2=r):dC bind body (x::xs) ρ=r:=by
 rw[dC,c,cS,b];exact a
def Bt{a:CE}{n:Int}(h:bo Φ a ρ=ok (.int n))(c:0<=n)(b:n<=1000000):bX Φ (.jr a) ρ=ok ((List.range n.toNat).map λ(k:Nat)=>D.int (k:Int),ρ):=by
 show bd (bo Φ a ρ) _=_;rw[h];show(if n<=(du:Int) /\ -(du:Int)<=n then _ else _)=_;have:(du:Int)=1000000:=rfl;rw[cc (by left)]
def Nt{a:CE}(h:bo Φ a ρ=ok (.tup ds)):bX Φ (.seq a) ρ=ok (aw aI ds,if aU bK ds then qO (iE a) 0 ρ else ρ):=by
 show bd (bo Φ a ρ) _=_;rw[h,<- t_];show ok (_,if bh bK (.tup ds)then _ else _)=_;rw[Fc]
variable {f:Fl}
def vU{a:CE}(h:bo Φ a ρ=ok (.lst f ds)):bX Φ (.seq a) ρ=ok (aw aI ds,if (bK f||aU bK ds)then qO (iE a) 0 ρ else ρ):=by
 show bd (bo Φ a ρ) _=_;rw[h,<- t_];show ok (_,if bh bK (.lst f ds)then _ else _)=_;rw[Fd]
noncomputable def gC(t b:Int):Int:=if b<0 then -(Int.gcd t b:Int)else(Int.gcd t b:Int)
def MS(t b:Int):Int:=t.fdiv (gC t b)
def MT(t b:Int):Int:=b.fdiv (gC t b)
def z7{t b:Int}(h:b≠0):0<Int.gcd t b:=Int.gcd_pos_of_ne_zero_right t h
def kH{t b:Int}(h:b≠0):gC t b≠0:=by
 have:=z7 (t:=t) h;unfold gC;split<;>left
def Of{t b:Int}(h:b≠0):Int.gcd t b<=b.natAbs:=acb (by left) (Nat.gcd_dvd_right _ _)
def JG{t b:Int}(h:b≠0):(gC t b).natAbs<=b.natAbs:=by
 have:=Of (t:=t) h;unfold gC;split<;>left
def o6{t b:Int}(h:b≠0):∃i g:Int,t=gC t b*i/\b=gC t b*g/\MS t b=i/\MT t b=g/\1<=g/\Int.gcd i g=1:=by
 have o:=z7 (t:=t) h;obtain⟨t1,j⟩:(Int.gcd t b:Int)∣t:=Int.gcd_dvd_left ..;obtain⟨b1,k⟩:(Int.gcd t b:Int)∣b:=Int.gcd_dvd_right ..;have n:Int.gcd t1 b1=1:=by
  have e:Int.gcd ((Int.gcd t b:Int)*t1) ((Int.gcd t b:Int)*b1)=Int.gcd t b*Int.gcd t1 b1:=by
   rw[Int.gcd_mul_left];simp
  rw[<- j,<- k]at e;have:Int.gcd t b*1=Int.gcd t b*Int.gcd t1 b1:=by rw[Nat.mul_one];exact e
  exact(Nat.eq_of_mul_eq_mul_left o this).symm
 by_cases m:b<0
 ·have a:gC t b = -(Int.gcd t b:Int):=by simp[gC,m]
  have d:t=gC t b*(-t1):=by rw[a,Int.neg_mul_neg];exact j
  have c:b=gC t b*(-b1):=by rw[a,Int.neg_mul_neg];exact k
  refine⟨-t1,-b1,d,c,?_,?_,?_,by rw[Int.gcd_neg,Int.neg_gcd];exact n⟩
  ·unfold MS
   conv=>lhs;arg 1;rw[d]
   exact abp _ (kH h)
  ·unfold MT
   conv=>lhs;arg 1;rw[c]
   exact abp _ (kH h)
  ·have:b1<0:=by
    by_cases l:b1<0
    ·exact l
    ·have:0<=(Int.gcd t b:Int)*b1:=Int.mul_nonneg (by left) (by left);left
   left
 ·have a:gC t b=(Int.gcd t b:Int):=by simp[gC,m]
  have d:t=gC t b*t1:=by rw[a];exact j
  have c:b=gC t b*b1:=by rw[a];exact k
  refine⟨t1,b1,d,c,?_,?_,?_,n⟩
  ·unfold MS
   conv=>lhs;arg 1;rw[d]
   exact abp _ (kH h)
  ·unfold MT
   conv=>lhs;arg 1;rw[c]
   exact abp _ (kH h)
  ·have:0<b1:=by
    by_cases l:0<b1
    ·exact l
    ·have:(Int.gcd t b:Int)*b1<=0:=Int.mul_nonpos_of_nonneg_of_nonpos (by left) (by left);left
   left
noncomputable def qD(q:Rat):D:=.tup [.int q.num,.int q.den]
@[simp]theorem M5(g:Fl->Fl)(q:Rat):aE g (qD q)=qD q:=by unfold qD;simp
@[simp]theorem NZ(g:Fl->Bool)(q:Rat):bh g (qD q)=false:=by unfold qD;simp
noncomputable def a_(qs:aS):aa:=qs.map qD
@[simp]theorem Vq(qs:aS):(a_ qs).length=qs.length:=abJ ..
@[simp]theorem Vp:a_ []=[]:=rfl
@[simp]theorem Rq(q:Rat)(qs:aS):a_ (q::qs)=qD q::a_ qs:=rfl
@[simp]theorem Rp(qs:aS)(q:Rat):a_ qs++[qD q]=a_ (qs++[q]):=by simp[a_]
@[simp]theorem HU(qs:aS)(i:Nat):(a_ qs)[i]?=qs[i]?.map qD:=List.getElem?_map ..
@[simp]theorem Vo(qs:aS)(i:Nat)(q:Rat):(a_ qs).set i (qD q)=a_ (qs.set i q):=by unfold a_;rw[List.map_set]
@[simp]theorem pd(g:Fl->Fl)(qs:aS):aw g (a_ qs)=a_ qs:=e_ g (M5 g) qs
@[simp]theorem Tj(g:Fl->Bool)(qs:aS):aU g (a_ qs)=false:=dM g (NZ g) qs
def D_(n:Nat)(q:Rat):eJ (n+1) (qD q)=true:=by
 unfold qD;rw[nU,gc,gc,fZ,fZ];rfl
def La(p q:Rat):i9 (qD p) (qD q)=decide (p=q):=by
 unfold qD;rw[Js,mF,mF,FA,n_,n_,ky];by_cases h:p=q
 ·subst h;simp
 ·rw[fu h];cases b:decide (p.num=q.num)with
  |false=>rfl
  |true =>
   cases a:decide ((p.den:Int)=(q.den:Int))with
   |false=>rfl
   |true =>
    refine absurd (Rat.ext (by simpa using b) ?_) h;have:(p.den:Int)=q.den:=by simpa using a
    left
@[simp]theorem aa0(q:Rat):nV (qD q) (.int 0)=ok (.int q.num):=by unfold qD;simp
@[simp]theorem aaZ(q:Rat):nV (qD q) (.int 1)=ok (.int q.den):=by unfold qD;simp
def ub{t b:Int}(g:b≠0):t.fdiv (gC t b)=(Rat.divInt t b).num/\b.fdiv (gC t b)=((Rat.divInt t b).den:Int):=by
 obtain⟨a,c,q,p,m,l,r,k⟩:=o6 (t:=t) g;have i:=kH (t:=t) g;have e:Rat.divInt t b=Rat.divInt a c:=by
  generalize gC t b=d at *;rw[q,p];exact Rat.divInt_mul_left i
 obtain⟨n,rfl⟩:∃n:Nat,c=(n:Int):=⟨c.toNat,by left⟩
 have j:a.natAbs.Coprime n:=by
  have:Nat.gcd a.natAbs n=1:=by simpa [Int.gcd]using k
  exact this
 have h:n≠0:=by left
 have o:Rat.divInt a (n:Int)=⟨a,n,h,j⟩:=Rat.mk_eq_divInt.symm;rw[e,o];exact⟨m,l⟩
def j_(q:Rat):(q.den:Int)≠0:=by have:=q.den_pos;left
def Rt(q:Rat):(1:Int)<=q.den:=by have:=q.den_pos;left
def gp(q:Rat):Rat.divInt q.num q.den=q:=Rat.num_divInt_den q
def lu{t b:Int}(a:b≠0):(Rat.divInt t b).num.natAbs<=t.natAbs/\(Rat.divInt t b).den<=b.natAbs:=by
 obtain⟨d,c,m,l,j,i,o,n⟩:=o6 (t:=t) a;obtain⟨g,k⟩:=ub (t:=t) a;have e:1<=(gC t b).natAbs:=by have:=kH (t:=t) a;left
 rw[show t.fdiv (gC t b)=d from j]at g;rw[show b.fdiv (gC t b)=c from i]at k;refine⟨?_,?_⟩
 ·rw[<- g];have:t.natAbs=(gC t b).natAbs*d.natAbs:=by rw[<- gr,<- m]
  rw[this];exact Nat.le_mul_of_pos_left _ e
 ·have h:(Rat.divInt t b).den=c.natAbs:=by left
  rw[h];have:b.natAbs=(gC t b).natAbs*c.natAbs:=by rw[<- gr,<- l]
  rw[this];exact Nat.le_mul_of_pos_left _ e
def Kx(p q:Rat):p+q=Rat.divInt (p.num*q.den+q.num*p.den) (p.den*q.den):=by
 conv=>lhs;rw[<- gp p,<- gp q]
 exact Rat.divInt_add_divInt _ _ (j_ p) (j_ q)
def Ku(p q:Rat):p - q=Rat.divInt (p.num*q.den - q.num*p.den) (p.den*q.den):=by
 conv=>lhs;rw[<- gp p,<- gp q]
 exact Rat.divInt_sub_divInt _ _ (j_ p) (j_ q)
def Kv(p q:Rat):p*q=Rat.divInt (p.num*q.num) (p.den*q.den):=by
 conv=>lhs;rw[<- gp p,<- gp q]
 exact Rat.divInt_mul_divInt _ _
def Kw(p q:Rat):p / q=Rat.divInt (p.num*q.den) (p.den*q.num):=by
 rw[Rat.div_def]
 conv=>lhs;rw[<- gp p,<- gp q,Rat.inv_divInt]
 exact Rat.divInt_mul_divInt _ _
def Sm(k:Nat)(q:Rat):Prop:=q.num.natAbs<2 ^ k/\q.den<2 ^ k
def Sm.mono{k l:Nat}{q:Rat}(h:Sm k q)(hl:k<=l):Sm l q :=
 ⟨aal h.1 (aaD (by decide) hl),aal h.2 (aaD (by decide) hl)⟩
def bW{a b k l:Nat}(h:a<2 ^ k)(h':b<2 ^ l):a*b<2 ^ (k+l):=by
 rw[Nat.pow_add];exact Nat.mul_lt_mul'' h h'
def J6(a b:Int):(a+b).natAbs<=a.natAbs+b.natAbs:=Int.natAbs_add_le a b
def J5(a b:Int):(a - b).natAbs<=a.natAbs+b.natAbs:=by rw[Int.sub_eq_add_neg];exact Int.natAbs_neg b▸Int.natAbs_add_le a (-b)
section
variable {k l:Nat}{p q:Rat}
theorem Sm.den(h:Sm k p)(h':Sm l q):((p.den:Int)*q.den).natAbs<2 ^ (k+l):=by
 rw[gr];exact bW (by simpa using h.2) (by simpa using h'.2)
def Sm.add(h:Sm k p)(h':Sm l q):Sm (k+l+1) (p+q):=by
 have a:(p.den:Int)*q.den≠0:=aby (j_ p) (j_ q);obtain⟨c,b⟩:=lu (t:=p.num*q.den+q.num*p.den) a;rw[<- Kx]at c b;have i:(p.num*q.den).natAbs<2 ^ (k+l):=by rw[gr];exact bW h.1 (by simpa using h'.2)
 have g:(q.num*p.den).natAbs<2 ^ (k+l):=by rw[gr,la];exact bW h'.1 (by simpa using h.2)
 have:=J6 (p.num*q.den) (q.num*p.den);have e:2 ^ (k+l+1)=2 ^ (k+l)*2:=Nat.pow_succ ..;have d:=h.den h';exact⟨by left,by left⟩
def Sm.sub(h:Sm k p)(h':Sm l q):Sm (k+l+1) (p - q):=by
 have a:(p.den:Int)*q.den≠0:=aby (j_ p) (j_ q);obtain⟨c,b⟩:=lu (t:=p.num*q.den - q.num*p.den) a;rw[<- Ku]at c b;have i:(p.num*q.den).natAbs<2 ^ (k+l):=by rw[gr];exact bW h.1 (by simpa using h'.2)
 have g:(q.num*p.den).natAbs<2 ^ (k+l):=by rw[gr,la];exact bW h'.1 (by simpa using h.2)
 have:=J5 (p.num*q.den) (q.num*p.den);have e:2 ^ (k+l+1)=2 ^ (k+l)*2:=Nat.pow_succ ..;have d:=h.den h';exact⟨by left,by left⟩
def Sm.mul(h:Sm k p)(h':Sm l q):Sm (k+l) (p*q):=by
 have a:(p.den:Int)*q.den≠0:=aby (j_ p) (j_ q);obtain⟨c,b⟩:=lu (t:=p.num*q.num) a;rw[<- Kv]at c b;have e:(p.num*q.num).natAbs<2 ^ (k+l):=by rw[gr];exact bW h.1 h'.1
 have d:=h.den h';exact⟨by left,by left⟩
def DB(h:q≠0):q.num≠0:=λz=>h (by rw[<- gp q,z];simp)
def Sm.div(h:Sm k p)(h':Sm l q)(a:q≠0):Sm (k+l) (p / q):=by
 have b:(p.den:Int)*q.num≠0:=aby (j_ p) (DB a);obtain⟨e,c⟩:=lu (t:=p.num*q.den) b;rw[<- Kw]at e c;have g:(p.num*q.den).natAbs<2 ^ (k+l):=by rw[gr];exact bW h.1 (by simpa using h'.2)
 have d:((p.den:Int)*q.num).natAbs<2 ^ (k+l):=by rw[gr];exact bW (by simpa using h.2) h'.1
 exact⟨by left,by left⟩
def Sm.big(h:Sm k p)(a:k<=9000):p.num.natAbs<2 ^ 9000/\(p.den:Int).natAbs<2 ^ 9000:=by
 have:=h.mono a;exact⟨this.1,by simpa using this.2⟩
end
def A8{t b:Int}{k:Nat}(a:b≠0)(d:t.natAbs<2 ^ k)(c:b.natAbs<2 ^ k):Sm k (Rat.divInt t b):=by
 obtain⟨g,e⟩:=lu (t:=t) a;exact⟨by left,by left⟩
def eH(d:D):Bool:=eE .int d&&!eE .bool d
def eh(m:au):Prop:=∀d,m [d]=ok (.bl (eH d))
noncomputable def iS:af:=[.ret (.and [(.vV (.v 0) .int),(.not (.vV (.v 0) .bool))])]
def xZ(Φ:aT):eh (mk Φ 1 1 iS):=by
 intro d;simp[mk_eq,iS,eH]
def pM(a:Int){b:Int}(h:b≠0):(a.fmod b).natAbs<b.natAbs:=by
 rcases Int.lt_or_gt_of_ne h with c|c
 ·have e:=Int.neg_fmod_neg a b;have g:=ab_ (-a) (show 0 < -b by left);have d:=acu (-a) (show 0 < -b by left);left
 ·have g:=ab_ a c;have d:=acu a c;left
def Fn(a b:Int):Int.gcd b (a.fmod b)=Int.gcd a b:=by
 rw[Int.fmod_def,Int.gcd_sub_mul_left_right,Int.gcd_comm]
def bI(m:au):Prop:=∀a b:Int,m [.int a,.int b]=ok (.int (Int.gcd a b))
noncomputable def CG:CS:=.Ke (.cmp .ne (.v 1) (.int 0)) [.asg (.nm 2) (.bin .mod (.v 0) (.v 1)),.asg (.nm 0) (.v 1),.asg (.nm 1) (.v 2)]
def dP:af:=[CG,.ret (.bf .abs [(.v 0)])]
def JW(Φ:aT):∀(n:Nat) (a b:Int) (r:aJ),b.natAbs<=n->∃(g:Int) (d:aJ),ib Φ CG [some (.int a),some (.int b),r]=ok (.nx,[some (.int g),some (.int 0),d])/\g.natAbs=Int.gcd a b:=by
 intro n;induction n with
 |zero =>
  intro a b r h;have c:b=0:=by left
  subst c;refine⟨a,r,?_,by simp⟩;rw[CG,qX];exact iF (by simp)
 |succ n i =>
  intro a b r h;by_cases c:b=0
  ·subst c;refine⟨a,r,?_,by simp⟩;rw[CG,qX];exact iF (by simp)
  ·have k:=pM a c;obtain⟨g,d,e,j⟩:=i b (a.fmod b) (some (.int (a.fmod b))) (by left);refine⟨g,d,?_,by rw[j,Fn]⟩;rw[CG,qX]at e ⊢;rw[<- e];exact oJ (by simp[c])
def mi(Φ:aT):bI (mk Φ 2 3 dP):=by
 intro a b;obtain⟨g,d,e,h⟩:=JW Φ b.natAbs a b none (aaj _);have c:(g.natAbs:Int)=(Int.gcd a b:Int):=by left
 simp[mk_eq,dP,e,c]
def j5(m:au):Prop:=∀t b:Int,b≠0->b.natAbs<2 ^ 9000->m [.int t,.int b]=ok (qD (Rat.divInt t b))
def fE(m:au):Prop:=j5 m/\∀t:Int,m [.int t,.int 0]=some (.error 0)
noncomputable def dh:af:=[.ifs (.cmp .eq (.v 1) (.int 0)) [.rs 0] [],.asg (.nm 2) (.call 1 [(.v 0),(.v 1)]),.ifs (.cmp .lt (.v 1) (.int 0)) [.asg (.nm 2) (.neg (.v 2))] [],.ret (.tup [(.bin .fdiv (.v 0) (.v 2)),(.bin .fdiv (.v 1) (.v 2))])]
def og{t b:Int}(a:b≠0)(h:b.natAbs<2 ^ 9000)(x:Int):dD .fdiv (.int x) (.int (gC t b))=ok (.int (x.fdiv (gC t b))) :=
 qc (jG (kH a) (aaK (JG a) h))
def qJ(Φ:aT)(d:bI (Φ 1)):fE (mk Φ 2 3 dh):=by
 refine⟨λt b a h=>?_,λt=>by simp[mk_eq,dh]⟩;obtain⟨k,j⟩:=ub (t:=t) a;unfold bI at d;have i:=og (t:=t) a h t;have g:=og (t:=t) a h b;rw[qD,<- k,<- j];by_cases c:b<0
 ·have e:-(Int.gcd t b:Int)=gC t b:=by simp[gC,c]
  simp[mk_eq,dh,a,d,c,e,i,g]
 ·have e:(Int.gcd t b:Int)=gC t b:=by simp[gC,c]
  simp[mk_eq,dh,a,d,c,e,i,g]
noncomputable def dB:D->Bool
 |.tup [.int a,.int b]=>decide (1<=b)&&decide (Int.gcd a b=1)
 |_=>false
def Ac(q:Rat):dB (qD q)=true:=by
 have b:=Rt q;have a:Int.gcd q.num q.den=1:=by
  have:=q.reduced;simpa [Int.gcd]using this
 simp[qD,dB,b,a]
def fD(m:au):Prop:=∀d,m [d]=ok (.bl (dB d))
noncomputable def ck:af:=[.ifs (.or [(.not (.vV (.v 0) .tuple)),(.cmp .ne (.bf .len [(.v 0)]) (.int 2))]) [.ret (.bl false)] [],.ifs (.or [(.not (.call 0 [(.ix (.v 0) (.int 0))])),(.not (.call 0 [(.ix (.v 0) (.int 1))]))]) [.ret (.bl false)] [],.ret (.and [(.cmp .ge (.ix (.v 0) (.int 1)) (.int 1)),(.cmp .eq (.call 1 [(.ix (.v 0) (.int 0)),(.ix (.v 0) (.int 1))]) (.int 1))])]
def mS(g:Fl->Fl)(d:D):eH (aE g d)=eH d:=by simp[eH]
def oI{d:D}(h:eH d=true):∃i,d=.int i:=by
 cases d<;>simp[eH,eE]at h ⊢
def rT{x y:D}(h:eH x=false\/eH y=false):dB (.tup [x,y])=false:=by
 cases x<;>cases y<;>simp[eH,eE]at h<;>rfl
def BS(h:ds.length≠2):dB (.tup ds)=false:=by
 unfold dB;split
 ·rename_i e;cases e;simp at h
 ·rfl
def qI(Φ:aT)(g:eh (Φ 0))(i:bI (Φ 1)):fD (mk Φ 1 1 ck):=by
 intro d;unfold eh at g;unfold bI at i;cases d with
 |tup ds =>
  by_cases hl:ds.length=2
  ·match ds,hl with
   |[x,y],_ =>
    by_cases c:eH x=true
    ·by_cases e:eH y=true
     ·obtain⟨a,rfl⟩:=oI c;obtain⟨b,rfl⟩:=oI e;simp[mk_eq,ck,g,i,c,e,eE,dB];by_cases h:a.gcd b=1
      ·simp[h]
      ·simp[h];left
     ·simp[mk_eq,ck,g,c,e,eE,mS,rT (.inr (by simpa using e))]
    ·simp[mk_eq,ck,g,c,eE,mS,rT (.inl (by simpa using c))]
  ·have j:¬ (ds.length:Int)=2:=by left
   simp[mk_eq,ck,eE,j,BS hl]
 |_=>simp[mk_eq,ck,eE,dB]
def xi(m:au):Prop:=∀p q,Sm 4000 p->Sm 4000 q->m [qD p,qD q]=ok (qD (p+q))
def y6(m:au):Prop:=∀p q,Sm 4000 p->Sm 4000 q->m [qD p,qD q]=ok (qD (p - q))
def oy(m:au):Prop:=∀p q,Sm 4000 p->Sm 4000 q->m [qD p,qD q]=ok (qD (p*q))
def J_(m:au):Prop:=(∀p q,Sm 4000 p->Sm 4000 q->q≠0->m [qD p,qD q]=ok (qD (p / q)))/\∀p,Sm 4000 p->m [qD p,qD 0]=some (.error 0)
noncomputable def AJ(f:Nat):af:=[.ret (.call f [(.bin .add (.bin .mul (.ix (.v 0) (.int 0)) (.ix (.v 1) (.int 1))) (.bin .mul (.ix (.v 1) (.int 0)) (.ix (.v 0) (.int 1)))),(.bin .mul (.ix (.v 0) (.int 1)) (.ix (.v 1) (.int 1)))])]
noncomputable def uB(f:Nat):af:=[.ret (.call f [(.bin .sub (.bin .mul (.ix (.v 0) (.int 0)) (.ix (.v 1) (.int 1))) (.bin .mul (.ix (.v 1) (.int 0)) (.ix (.v 0) (.int 1)))),(.bin .mul (.ix (.v 0) (.int 1)) (.ix (.v 1) (.int 1)))])]
noncomputable def oi(f:Nat):af:=[.ret (.call f [(.bin .mul (.ix (.v 0) (.int 0)) (.ix (.v 1) (.int 0))),(.bin .mul (.ix (.v 0) (.int 1)) (.ix (.v 1) (.int 1)))])]
noncomputable def Gj(f:Nat):af:=[.ret (.call f [(.bin .mul (.ix (.v 0) (.int 0)) (.ix (.v 1) (.int 1))),(.bin .mul (.ix (.v 0) (.int 1)) (.ix (.v 1) (.int 0)))])]
section
variable (Φ:aT){f:Nat}(h2:j5 (Φ f))
def O4{p q:Rat}(b:Sm 4000 p)(a:Sm 4000 q):(p.den:Int)*q.den≠0/\((p.den:Int)*q.den).natAbs<2 ^ 9000 :=
 ⟨aby (j_ p) (j_ q),aal (b.den a) (aaD (by decide) (by decide))⟩
def Bl{p q:Rat}(g:Sm 4000 p)(e:Sm 4000 q):dD .mul (.int p.num) (.int q.den)=ok (.int (p.num*q.den))/\dD .mul (.int p.num) (.int q.num)=ok (.int (p.num*q.num))/\dD .mul (.int p.den) (.int q.den)=ok (.int (p.den*q.den))/\dD .mul (.int p.den) (.int q.num)=ok (.int (p.den*q.num)):=by
 obtain⟨a,b⟩:=g.big (by decide);obtain⟨c,d⟩:=e.big (by decide);exact⟨kn (mulOk_of a d),kn (mulOk_of a c),kn (mulOk_of b d),kn (mulOk_of b c)⟩
include h2
def Rb:xi (mk Φ 2 2 (AJ f)):=by
 intro p q h g;obtain⟨a,b,c,d⟩:=Bl h g;obtain⟨i,m,l,j⟩:=Bl g h;obtain⟨n,k⟩:=O4 h g;have e:=h2 (p.num*q.den+q.num*p.den) _ n k;rw[<- Kx]at e;simp[mk_eq,AJ,a,i,c,e]
def Mk:y6 (mk Φ 2 2 (uB f)):=by
 intro p q h g;obtain⟨a,b,c,d⟩:=Bl h g;obtain⟨i,m,l,j⟩:=Bl g h;obtain⟨n,k⟩:=O4 h g;have e:=h2 (p.num*q.den - q.num*p.den) _ n k;rw[<- Ku]at e;simp[mk_eq,uB,a,i,c,e]
def HC:oy (mk Φ 2 2 (oi f)):=by
 intro p q h g;obtain⟨a,b,c,d⟩:=Bl h g;obtain⟨n,k⟩:=O4 h g;have e:=h2 (p.num*q.num) _ n k;rw[<- Kv]at e;simp[mk_eq,oi,b,c,e]
omit h2 in
def s_by(h2:fE (Φ f)):J_ (mk Φ 2 2 (Gj f)):=by
 refine⟨λp q g h i=>?_,λp g=>?_⟩
 ·obtain⟨a,b,c,d⟩:=Bl g h;have n:(p.den:Int)*q.num≠0:=aby (j_ p) (DB i);have k:((p.den:Int)*q.num).natAbs<2 ^ 9000:=by
   rw[gr];exact aal (bW (by simpa using g.2) h.1) (aaD (by decide) (by decide))
  have e:=h2.1 (p.num*q.den) _ n k;rw[<- Kw]at e;simp[mk_eq,Gj,a,d,e]
 ·have e:=h2.2 p.num;simp[mk_eq,Gj,e]
end
def wM{bind:D->O aX}{test:aX->O Bool}{el:aX->O D}{g:D->D}(h:∀x∈xs,∃ρ,bind x=ok ρ/\test ρ=ok true/\el ρ=ok (g x)):i_ bind test el xs=ok (xs.map g):=by
 have:=bH (bind:=bind) (test:=test) (el:=el) (e:=λd=>d) (g:=g) (xs:=xs) h
 rwa [List.map_id']at this
def kD(g:Fl->Fl)(d:D):dB (aE g d)=dB d:=by
 cases d with
 |tup ds =>
  match ds with
  |[]=>simp
  |[_]=>simp[dB]
  |[x,y]=>cases x<;>cases y<;>simp[dB]
  |_::_::_::_=>simp[dB]
 |_=>simp[dB]
def cH(d:D)(n:Int):Bool:=match d with
 |.lst _ ds=>decide ((ds.length:Int)=n)&&ds.all dB
 |_=>false
def eN(d:D):Prop:=match d with
 |.lst _ ds=>ds.length<=1000000
 |.tup ds=>ds.length<64
 |_=>True
def jb(m:au):Prop:=∀d n,eN d->m [d,.int n]=ok (.bl (cH d n))
noncomputable def cE:af:=[.ifs (.or [(.not (.vV (.v 0) .list)),(.cmp .ne (.bf .len [(.v 0)]) (.v 1))]) [.ret (.bl false)] [],.ret (.bf .all1 [(.comp 1 (.nm 0) [] .seq [(.v 0)] [] (.call 3 [(.v 0)]))])]
def nG(Φ:aT)(b:fD (Φ 3)):jb (mk Φ 2 2 cE):=by
 intro d n e;unfold fD at b;cases d with
 |lst f ds =>
  by_cases a:(ds.length:Int)=n
  ·have c:bo Φ (.comp 1 (.nm 0) [] .seq [(.v 0)] [] (.call 3 [(.v 0)])) [some (.lst f ds),some (.int n)]=ok (.lst .ow (lQ (ds.map dB))):=by
    rw[bY (xs:=[.lst (bg f) (aw bg ds)]) (by simp) (b6 ..) (wM (g:=λd=>.bl (dB d)) λx _=>⟨[some x],by simp[bx],by simp,by simp[b,kD]⟩) (by simp;exact bA e)];simp[aG,Function.comp_def,kD,lQ]
   simp[mk_eq,cE,eE,a,c,cH]
  ·simp[mk_eq,cE,eE,a,cH]
 |_=>simp[mk_eq,cE,eE,cH]
def qd(f:Fl)(qs:aS)(n:Int):cH (.lst f (a_ qs)) n=decide ((qs.length:Int)=n):=by
 unfold cH;have:(a_ qs).all dB=true:=by unfold a_;rw[g6];exact List.all_eq_true.mpr λq _=>Ac q
 simp[this]
noncomputable def cU(qs:aS):Nat:=qs.foldl (λb q=>Nat.lcm b q.den) 1
def Eu(b:Nat)(q:Rat):(b:Int).fdiv (Int.gcd b q.den)*q.den=(Nat.lcm b q.den:Nat):=by
 have c:0<Nat.gcd b q.den:=Nat.gcd_pos_of_pos_right _ q.den_pos;have e:Int.gcd (b:Int) (q.den:Int)=Nat.gcd b q.den:=by simp[Int.gcd]
 rw[e,hM _ (by left)];have:((b:Int) / (Nat.gcd b q.den:Nat))=((b / Nat.gcd b q.den:Nat):Int):=(Int.natCast_ediv ..).symm;rw[this,Nat.lcm];have a:Nat.gcd b q.den∣b:=Nat.gcd_dvd_left ..;rw[pG b,Nat.mul_div_assoc _ a,pG];exact(Int.natCast_mul ..).symm
theorem lcm_pos{b:Nat}(a:0<b)(q:Rat):0<Nat.lcm b q.den:=Nat.lcm_pos a q.den_pos
theorem zS:∀(qs:aS) (b k j:Nat),0<b->b<2 ^ j->(∀q∈qs,Sm k q)->0<qs.foldl (λb q=>Nat.lcm b q.den) b/\qs.foldl (λb q=>Nat.lcm b q.den) b<2 ^ (j+k*qs.length)/\b∣qs.foldl (λb q=>Nat.lcm b q.den) b/\∀q∈qs,q.den∣qs.foldl (λb q=>Nat.lcm b q.den) b
 |[],b,k,j,h0,h1,_=>⟨h0,by simpa using h1,Nat.dvd_refl _,λq c=>nomatch c⟩
 |q::qs,b,k,j,h0,h1,hs=>by
  have c:=hs q aak;have g:Nat.lcm b q.den<2 ^ (j+k):=aaK (Nat.lcm_le_mul h0 q.den_pos) (bW h1 c.2);obtain⟨l,i,d,h⟩:=zS qs (Nat.lcm b q.den) k (j+k) (lcm_pos h0 q) g λp a=>hs p (aai _ a);have e:j+k*(q::qs).length=j+k+k*qs.length:=by rw[cz,p_];left
  refine⟨l,by rw[e];exact i,Nat.dvd_trans (Nat.dvd_lcm_left ..) d,λp a=>?_⟩;rcases List.mem_cons.mp a with rfl|a
  ·exact Nat.dvd_trans (Nat.dvd_lcm_right ..) d
  ·exact h p a
structure Cb(k:Nat)(qs:aS):Prop where
 sm:∀q∈qs,Sm k q
 Ct:k*qs.length<=3000
 len:qs.length<=1000
variable {qs:aS}
def Cb.lcm{k:Nat}(h:Cb k qs):0<cU qs/\cU qs<2 ^ (1+k*qs.length)/\∀q∈qs,q.den∣cU qs:=by
 obtain⟨c,b,_,a⟩:=zS qs 1 k 1 (by decide) (by decide) h.sm;exact⟨c,b,a⟩
def yo{n j:Nat}(h:n<2 ^ j)(a:j<=9000):n<2 ^ 9000:=aal h (aaD (by decide) a)
def fR(m:au):Prop:=∀f qs k,Cb k qs->m [.lst f (a_ qs)]=ok (.int (cU qs))
noncomputable def cC:af:=[.asg (.nm 1) (.bin .mul (.bin .fdiv (.v 1) (.call 1 [(.v 1),(.ix (.v 2) (.int 1))])) (.ix (.v 2) (.int 1)))]
def c9:af:=[.asg (.nm 1) (.int 1),.fr (.nm 2) (.seq (.v 0)) cC,.ret (.v 1)]
theorem AF(Φ:aT)(g:bI (Φ 1))(x:aJ):∀(qs:aS) (b k j:Nat) (z:aJ),0<b->b<2 ^ j->j+k*qs.length<=8000->(∀q∈qs,Sm k q) ->
  ∃c,dC (λd ρ=>bU (.nm 2) d ρ) (λρ=>bE Φ cC ρ) (a_ qs) [x,some (.int b),z]=ok (.nx,[x,some (.int (qs.foldl (λb q=>Nat.lcm b q.den) b:Nat)),c])
 |[],b,k,j,z,_,_,_,_=>⟨z,rfl⟩
 |q::qs,b,k,j,z,h0,hb,hj,hs=>by
  have h:=hs q aak;have n:Nat.lcm b q.den<2 ^ (j+k):=aaK (Nat.lcm_le_mul h0 q.den_pos) (bW hb h.2);have e:j+k*(q::qs).length=j+k+k*qs.length:=by rw[cz,p_];left
  obtain⟨c,i⟩:=AF Φ g x qs (Nat.lcm b q.den) k (j+k) (some (qD q)) (lcm_pos h0 q) n (by left) λp l=>hs p (aai _ l);have u:0<Nat.gcd b q.den:=Nat.gcd_pos_of_pos_right _ q.den_pos;have o:Int.gcd (b:Int) (q.den:Int)=Nat.gcd b q.den:=by simp[Int.gcd]
  have t:Nat.gcd b q.den<=b:=acb h0 (Nat.gcd_dvd_left ..);have a:b<2 ^ 9000:=yo hb (by left);have s:dD .fdiv (.int b) (.int (Nat.gcd b q.den:Nat))=ok (.int ((b:Int).fdiv (Nat.gcd b q.den:Nat))):=qc (jG (by left) (by simpa using Nat.lt_of_le_of_lt t a));have m:((b:Int).fdiv (Nat.gcd b q.den:Nat)).natAbs<=b:=by
   rw[hM _ (by left),<- Int.natCast_ediv];simp;exact Nat.div_le_self ..
  have r:dD .mul (.int ((b:Int).fdiv (Nat.gcd b q.den:Nat))) (.int q.den)=ok (.int (Nat.lcm b q.den:Nat)):=by
   have:=Eu b q;rw[o]at this;rw[kn (mulOk_of (Nat.lt_of_le_of_lt m a) (h.big (by
    rw[e]at hj;have:k<=j+k+k*qs.length:=by left
    left)).2),this]
  unfold bI at g;refine⟨c,cQ (ρ1:=[x,some (.int b),some (qD q)]) (by simp) (ρ2:=[x,some (.int (Nat.lcm b q.den:Nat)),some (qD q)]) ?_ i⟩;simp[cC,g,s,r]
def nE(Φ:aT)(j:bI (Φ 1)):fR (mk Φ 1 3 c9):=by
 intro f qs k h;have a:bX Φ (.seq (.v 0)) [some (.lst f (a_ qs)),some (.int 1),none]=ok (a_ qs,if (bK (bg f)||false)then[some (.lst (aI f) (a_ qs)),some (.int 1),none]else[some (.lst f (a_ qs)),some (.int 1),none]):=by
  rw[vU (f:=bg f) (ds:=a_ qs) (by simp)];simp[show iE (.v 0)=[0] from rfl]
 have l:=h.Ct;have g:∀x:aJ,∃c,dC (λd ρ=>bU (.nm 2) d ρ) (λρ=>bE Φ cC ρ) (a_ qs) [x,some (.int (1:Nat)),none]=ok (.nx,[x,some (.int (cU qs)),c]):=λx=>AF Φ j x qs 1 k 1 none (by decide) (by decide) (by left) h.sm;cases i:(bK (bg f)||false)with
 |true =>
  rw[i]at a;obtain⟨c,e⟩:=g (some (.lst (aI f) (a_ qs)));have:=dT (t:=.nm 2) (b:=cC) a e;simp[mk_eq,c9,this]
 |false =>
  rw[i]at a;obtain⟨c,e⟩:=g (some (.lst f (a_ qs)));have:=dT (t:=.nm 2) (b:=cC) a e;simp[mk_eq,c9,this]
noncomputable def dU(b:Nat)(q:Rat):Int:=q.num*(b:Int).fdiv q.den
def Ru(q:Rat):(q.num:Rat)=q*(q.den:Rat):=by
 have h:(q.den:Rat)≠0:=by
  have:=q.den_pos;intro z;have:((q.den:Int):Rat)=0:=by rw[hD];exact z
  rw[kx]at this;left
 have e:q=(q.num:Rat) / (q.den:Rat):=by
  conv=>lhs;rw[<- gp q,g9,hD]
 grind
def CU{b:Nat}{q:Rat}(h:q.den∣b):((dU b q:Int):Rat)=q*(b:Rat):=by
 obtain⟨c,rfl⟩:=h;have a:(q.den:Int)≠0:=j_ q;unfold dU;rw[Int.natCast_mul,Int.mul_fdiv_cancel_left _ a,Rat.intCast_mul,Ru,Rat.natCast_mul,hD];grind
theorem oO{b:Nat}:∀{qs:aS},(∀q∈qs,q.den∣b)->(((qs.map (dU b)).sum:Int):Rat)=qs.sum*(b:Rat)
 |[],_=>by simp
 |q::qs,h=>by
  rw[dx,f7,f7,Rat.intCast_add,CU (h q kq),oO λp a=>h p (i5 _ a)];grind
def jL(m:au):Prop:=∀f qs k (b:Nat),Cb k qs->b<2 ^ 8000->m [.lst f (a_ qs),.int b]=ok (.lst .ow (ag (qs.map (dU b))))
noncomputable def gU:af:=[.ret (.comp 1 (.nm 0) [1] .seq [(.v 0)] [] (.bin .mul (.ix (.v 0) (.int 0)) (.bin .fdiv (.v 1) (.ix (.v 0) (.int 1)))))]
def Hw{k:Nat}(h:Cb k qs){q:Rat}(a:q∈qs):Sm 3000 q:=by
 refine(h.sm q a).mono ?_;have c:=h.Ct;have b:0<qs.length:=List.length_pos_of_mem a;have:k*1<=k*qs.length:=abt _ b;left
def vw(Φ:aT):jL (mk Φ 2 2 gU):=by
 intro f qs k b a e;have c:bo Φ (.comp 1 (.nm 0) [1] .seq [(.v 0)] [] (.bin .mul (.ix (.v 0) (.int 0)) (.bin .fdiv (.v 1) (.ix (.v 0) (.int 1))))) [some (.lst f (a_ qs)),some (.int b)]=ok (.lst .ow (ag (qs.map (dU b)))):=by
  rw[bY (xs:=[.lst (bg f) (a_ qs)]) (items:=a_ qs) (ds:=qs.map λq=>.int (dU b q)) (by simp) (by rw[b6];simp) (bH λq d=>?_) (by have:=a.len;simp;exact bA (by left))]
  ·have:(qs.map λq=>D.int (dU b q))=ag (qs.map (dU b)):=by simp[ag]
   rw[this,eA]
  ·refine⟨[some (qD q),some (.int b)],by simp[bx],by simp,?_⟩;have h:=Hw a d;obtain⟨j,i⟩:=h.big (by decide);have m:dD .fdiv (.int b) (.int q.den)=ok (.int ((b:Int).fdiv q.den)):=qc (jG (j_ q) i);have l:dD .mul (.int q.num) (.int ((b:Int).fdiv q.den))=ok (.int (q.num*(b:Int).fdiv q.den)):=by
    refine kn (mulOk_of j ?_);rw[hM _ (by left),<- Int.natCast_ediv];have:=Nat.div_le_self b q.den;have g:=yo e (by decide);rw[qw];exact aaK this g
   simp[m,l,dU]
 simp[mk_eq,gU,c]
def qh(m:au):Prop:=∀f qs k,Cb k qs->m [.lst f (a_ qs)]=ok (.tup [.int (cU qs),.lst .ow (ag (qs.map (dU (cU qs))))])
noncomputable def iQ:af:=[.asg (.nm 1) (.call 9 [(.v 0)]),.ret (.tup [(.v 1),(.call 10 [(.v 0),(.v 1)])])]
def Cb.Nc{k:Nat}(h:Cb k qs):cU qs<2 ^ 8000:=aal h.lcm.2.1 (aaD (by decide) (by have:=h.Ct;left))
def xY(Φ:aT)(b:fR (Φ 9))(e:jL (Φ 10)):qh (mk Φ 1 2 iQ):=by
 intro f qs k a;have d:=λf=>b f qs k a;have c:=λf=>e f qs k (cU qs) a a.Nc;simp[mk_eq,iQ,d,c]
def gg(m:au):Prop:=∀f qs k,Cb k qs->m [.lst f (a_ qs)]=ok (qD qs.sum)
noncomputable def gd:af:=[.asg (.nm 1) (.call 41 [(.v 0)]),.ret (.call 2 [(.bf .ku [(.ix (.v 1) (.int 1))]),(.ix (.v 1) (.int 0))])]
def sG{b:Nat}(c:0<b)(h:∀q∈qs,q.den∣b):Rat.divInt (qs.map (dU b)).sum b=qs.sum:=by
 have a:((b:Nat):Rat)≠0:=by
  intro z;have:((b:Int):Rat)=0:=by rw[hD];exact z
  rw[kx]at this;left
 rw[g9,oO h,hD];grind
def sO(Φ:aT)(d:fE (Φ 2))(b:qh (Φ 41)):gg (mk Φ 1 2 gd):=by
 intro f qs k a;have h:=λf=>b f qs k a;obtain⟨g,i,e⟩:=a.lcm;have c:=d.1 (qs.map (dU (cU qs))).sum (cU qs) (by left) (by have:=yo a.Nc (by decide);simpa using this);rw[sG g e]at c;simp[mk_eq,gd,h,c]
noncomputable def cB(n:Int):D->Bool
 |.int i=>decide (0<=i)&&decide (i<n)
 |_=>false
def mZ(g:Fl->Fl)(n:Int)(d:D):cB n (aE g d)=cB n d:=by
 cases d<;>simp[cB]
theorem gS{n:Int}:∀{ds:aa},ds.all (cB n)=true->∃ns:ae,ds=ag ns
 |[],_=>⟨[],rfl⟩
 |d::ds,h=>by
  simp only[gc,cM]at h;obtain⟨ns,rfl⟩:=gS h.2;cases d with
  |int i=>exact⟨i::ns,rfl⟩
  |_=>simp[cB]at h
def numsOf(ds:aa):ae:=(intsOf ds).getD []
def fJ(ns:ae):numsOf (ag ns)=ns:=by unfold numsOf ag;rw[bC];rfl
def cN(d:D)(n:Int):Bool:=match d with
 |.tup ds=>ds.all (cB n)&&decide ((eY (numsOf ds)).length=ds.length)
 |_=>false
def jw(d:D)(n:Int):Bool:=cN d n&&(match d with
 |.tup ds=>decide (numsOf ds=sortI (numsOf ds))
 |_=>false)
def iU(m:au):Prop:=∀d n,eN d->m [d,.int n]=ok (.bl (cN d n))
noncomputable def dQ:af:=[.ifs (.not (.vV (.v 0) .tuple)) [.ret (.bl false)] [],.ifs (.not (.bf .all1 [(.comp 1 (.nm 0) [1] .seq [(.v 0)] [] (.and [(.call 0 [(.v 0)]),(.cmp .ge (.v 0) (.int 0)),(.cmp .lt (.v 0) (.v 1))]))])) [.ret (.bl false)] [],.ret (.cmp .eq (.mx (.v 0)) (.bf .len [(.v 0)]))]
def sP(Φ:aT)(b:eh (Φ 0)):iU (mk Φ 2 2 dQ):=by
 intro d n h;unfold eh at b;cases d with
 |tup ds =>
  have hl:ds.length<64:=h;have c:bo Φ (.comp 1 (.nm 0) [1] .seq [(.v 0)] [] (.and [(.call 0 [(.v 0)]),(.cmp .ge (.v 0) (.int 0)),(.cmp .lt (.v 0) (.v 1))])) [some (.tup ds),some (.int n)]=ok (.lst .ow (lQ (ds.map (cB n)))):=by
   rw[bY (xs:=[.tup (aw bg ds)]) (by simp) (tR ..) (wM (g:=λd=>.bl (cB n d)) λx _=>⟨[some x,some (.int n)],by simp[bx],by simp,?_⟩) (by simp;exact bA (by left))]
   ·simp[aG,Function.comp_def,mZ,lQ]
   ·cases x with
    |int i =>
     simp[b,eH,eE,cB]
    |_=>simp[b,eH,eE,cB]
  cases a:ds.all (cB n)with
  |true =>
   obtain⟨ns,rfl⟩:=gS a;have j:ns.length<4000:=by simp at hl;left
   have e:(List.all (List.map (cB n) (ag ns)) id)=true:=by rw[g6];exact a
   simp[mk_eq,dQ,eE,c,e,OL j,cN,a,fJ];simp[Int.natCast_inj]
  |false =>
   have e:(List.all (List.map (cB n) ds) id)=false:=by rw[g6];exact a
   simp only[mk_eq,dQ,cz,gI];simp[eE,c,e,cN,a]
 |_=>simp[mk_eq,dQ,eE,cN]
def iz(m:au):Prop:=∀d n,eN d->m [d,.int n]=ok (.bl (jw d n))
noncomputable def iy:af:=[.ret (.and [(.call 43 [(.v 0),(.v 1)]),(.cmp .eq (.bf .list1 [(.v 0)]) (.bf .iI [(.v 0)]))])]
def vI(n:Nat)(f:Fl)(ns:ae):eJ (n+1) (.lst f (ag ns))=true:=lB (fZ n) ns
def rJ(n:Nat)(ns:ae):eJ (n+1) (.tup (ag ns))=true:=lB (fZ n) ns
def BX(ns a:ae):ff (ag ns) (ag a)=decide (ns=a):=lN (λx y=>n_ x y) ns a
def lG(g:Fl->Fl)(d:D)(n:Int):cN (aE g d) n=cN d n:=by
 cases d with
 |tup ds =>
  cases h:ds.all (cB n)with
  |true =>
   obtain⟨ns,rfl⟩:=gS h;simp
  |false =>
   have a:(aw g ds).all (cB n)=false:=by
    rw[aG,g6,show(cB n∘aE g)=cB n from funext λd=>mZ g n d];exact h
   simp[cN,h,a]
 |_=>simp[cN]
def iw{g:Fl->Fl}{d:D}(h:eN d):eN (aE g d):=by
 cases d<;>simp_all [eN]
def Dl(Φ:aT)(h:iU (Φ 43)):iz (mk Φ 2 2 iy):=by
 intro d n c;have a:=h (aE aI (aE bg d)) n (iw (iw c));rw[lG,lG]at a;cases d with
 |tup ds =>
  have hl:ds.length<64:=c;simp only[En]at a;cases b:cN (.tup ds) n with
  |true =>
   have e:=b;simp only[cN,cM]at e;obtain⟨ns,rfl⟩:=gS e.1;have i:ns.length<64:=by simpa using hl
   have g:cY .eq (.lst .ow (ag ns)) (.lst .ow (ag (sortI ns)))=ok (.bl (decide (ns=sortI ns))):=by
    rw[kf (vI 39 _ _) (vI 39 _ _),Jt,BX]
   rw[b]at a;simp at a;simp[mk_eq,iy,a,Jj i,g,jw,b,fJ]
  |false =>
   rw[b]at a;simp[mk_eq,iy,a,jw,b]
 |_=>(simp at a;simp[mk_eq,iy,a,jw,cN])
def qV(n:Nat)(l:ae):Prop:=l.Pairwise (· < ·)/\∀h∈l,0<=h/\h<(n:Int)
theorem ug:∀(l m:ae),(∀x∈l,x∉m)->l.Nodup->l.foldl (λ(m:ae) (k:Int)=>if m.any (· == k)then m else m++[k]) m=m++l
 |[],m,_,_=>by simp
 |x::l,m,h,hn=>by
  have b:m.any (· == x)=false:=by
   rw[List.any_eq_false];intro y a z;have:y=x:=by simpa using z
   exact h x aak (this▸a)
  rw[g5,b,cb dX,ug l (m++[x])]
  ·simp
  ·intro y a z;rcases List.mem_append.mp z with z|z
   ·exact h y (aai _ a) z
   ·have:y=x:=by simpa using z
    subst this;exact(List.nodup_cons.mp hn).1 a
  ·exact(List.nodup_cons.mp hn).2
def qV.nodup{n:Nat}{l:ae}(h:qV n l):l.Nodup:=h.1.imp λz=>by left
def C7{l:ae}(h:l.Pairwise (· < ·)):sortI l=l:=by
 unfold sortI;apply List.mergeSort_of_pairwise;exact h.imp λz=>by simp;left
theorem qV.jw{n:Nat}{l:ae}(h:qV n l):jw (.tup (ag l)) n=true:=by
 have c:(ag l).all (cB n)=true:=by
  unfold ag;rw[g6,gv];intro x a;have:=h.2 x a;simp[cB,this.1,this.2]
 have b:eY l=l:=by
  have:=ug l [] (by simp) h.nodup;rw[fx]at this;exact this
 simp[DI.jw,cN,c,fJ,b,C7 h.1]
def cW(c:Nat)(p:D->Int->Bool)(m:au):Prop:=∀d n,eN d->m [d,.int n]=if p d n then ok .bP else some (.error c)
noncomputable def gf(f c:Nat):af:=[.ifs (.not (.call f [(.v 0),(.v 1)])) [.rs c] []]
def mK(g:Fl->Fl)(d:D)(n:Int):cH (aE g d) n=cH d n:=by
 cases d<;>simp[cH];rw[aG,g6,show(dB∘aE g)=dB from funext λd=>kD g d]
def zp(Φ:aT){f c:Nat}{p:D->Int->Bool}(b:∀g d n,p (aE g d) n=p d n)(h:∀d n,eN d->Φ f [d,.int n]=ok (.bl (p d n))):cW c p (mk Φ 2 2 (gf f c)):=by
 intro d n i;have a:=h (aE aI (aE bg d)) n (iw (iw i));rw[b,b]at a;cases e:p d n with
 |true=>rw[e]at a;simp[mk_eq,gf,a]
 |false=>rw[e]at a;simp[mk_eq,gf,a]
noncomputable def bG(ns:ae)(k:Int):Int :=
 let c:=if k<ns.length then ns.getD k.toNat 0 else 0
 if (10:Int) ^ 18<=c then(c - 10 ^ 18).fmod (10 ^ 60)else
  let n:=(c*48271+k*69621+11).fmod 2147483629
  let n:=(n*n).fmod 2147483587
  n*2147483563+(n*n).fmod 2147483563
def ql(m:au):Prop:=∀(ns:ae) (k:Int),0<=k->m [.lst .sc (ag ns),.int k]=ok (.int (bG ns k))
noncomputable def fQ:af:=[.asg (.nm 2) (.int 0),.ifs (.cmp .lt (.v 1) (.bf .len [(.v 0)])) [.asg (.nm 2) (.ix (.v 0) (.v 1))] [],.ifs (.cmp .ge (.v 2) (.bin .pow (.int 10) (.int 18))) [.ret (.bin .mod (.bin .sub (.v 2) (.bin .pow (.int 10) (.int 18))) (.bin .pow (.int 10) (.int 60)))] [],.asg (.nm 3) (.bin .mod (.bin .add (.bin .add (.bin .mul (.v 2) (.int 48271)) (.bin .mul (.v 1) (.int 69621))) (.int 11)) (.int 2147483629)),.asg (.nm 3) (.bin .mod (.bin .mul (.v 3) (.v 3)) (.int 2147483587)),.ret (.bin .add (.bin .mul (.v 3) (.int 2147483563)) (.bin .mod (.bin .mul (.v 3) (.v 3)) (.int 2147483563)))]
def fC(a:Int){b:Int}(h:0<b):0<=a.fmod b/\a.fmod b<b:=⟨ab_ a h,acu a h⟩
def B4(Φ:aT)(x:D)(k c:Int)(p:eE .list x=true)(o:aJ):lO (bE Φ (fQ.drop 2) [some x,some (.int k),some (.int c),o])=ok (.int (if (10:Int) ^ 18<=c then(c - 10 ^ 18).fmod (10 ^ 60)else
  let n:=(c*48271+k*69621+11).fmod 2147483629
  let n:=(n*n).fmod 2147483587
  n*2147483563+(n*n).fmod 2147483563)):=by
 have d:dD .pow (.int 10) (.int 18)=ok (.int (10 ^ 18)):=Li (by decide);have e:dD .pow (.int 10) (.int 60)=ok (.int (10 ^ 60)):=Li (by decide);by_cases h:(10:Int) ^ 18<=c
 ·have a:(1000000000000000000:Int)<=c:=h;simp[fQ,d,e,a]
 ·have a:¬ (1000000000000000000:Int)<=c:=h;obtain⟨t,s⟩:=fC (c*48271+k*69621+11) (b:=2147483629) (by decide);generalize j:(c*48271+k*69621+11).fmod 2147483629=n at *;obtain⟨r,q⟩:=fC (n*n) (b:=2147483587) (by decide);have i:dD .mul (.int n) (.int n)=ok (.int (n*n)):=kn (tF _ (by left));generalize l:(n*n).fmod 2147483587=m at *;have g:dD .mul (.int m) (.int m)=ok (.int (m*m)):=kn (tF _ (by left));simp[fQ,d,a,j,i,l,g]
def Mn(Φ:aT):ql (mk Φ 2 4 fQ):=by
 intro ns k a;have:=λc=>B4 Φ (.lst .sc (ag ns)) k c rfl none;by_cases h:k<ns.length
 ·have b:uH (ag ns) k=ok (.int (ns.getD k.toNat 0)):=by
   have hl:k.toNat<ns.length:=by left
   rw[at_of a (d:=.int (ns.getD k.toNat 0)) (by rw[BB,List.getElem?_eq_getElem hl,nI,fI,List.getElem?_eq_getElem hl];rfl)];simp
  have e:lO (bE Φ fQ ([some (D.lst Fl.sc (ag ns)),some (D.int k)]++[none,none]))=lO (bE Φ (fQ.drop 2) [some (.lst .sc (ag ns)),some (.int k),some (.int (ns.getD k.toNat 0)),none]):=by
   rw[fQ,cp,CF];simp only[KP,Lb,jy,pC];simp only[h9,fx,ou,cz,gI,Nat.reduceAdd,Nat.reduceLT,ve,qx,ri];rw[cp,sA];simp[h,b]
  rw[mk_eq (ar:=2) (ds:=[_,_]) rfl];refine(show _=_ from e).trans ?_;rw[this,bG,cc h]
 ·have e:lO (bE Φ fQ ([some (D.lst Fl.sc (ag ns)),some (D.int k)]++[none,none]))=lO (bE Φ (fQ.drop 2) [some (.lst .sc (ag ns)),some (.int k),some (.int 0),none]):=by
   rw[fQ,cp,CF];simp only[KP,Lb,jy,pC];simp only[h9,fx,ou,cz,gI,Nat.reduceAdd,Nat.reduceLT,ve,qx,ri];rw[cp,sA];simp[h]
  rw[mk_eq (ar:=2) (ds:=[_,_]) rfl];refine(show _=_ from e).trans ?_;rw[this,bG,cb h]
noncomputable def kZ:CS:=.Ke (.cmp .gt (.v 3) (.int 0)) [.par 2 3 (.v 3) (.bin .mod (.v 2) (.v 3))]
def lT:af:=[.asg (.nm 2) (.bf .abs [(.v 0)]),.asg (.nm 3) (.bf .abs [(.v 1)]),kZ,.ifs (.cmp .lt (.v 1) (.int 0)) [.asg (.nm 2) (.bin .sub (.int 0) (.v 2))] [],.ret (.tup [(.bin .fdiv (.v 0) (.v 2)),(.bin .fdiv (.v 1) (.v 2))])]
def yp(Φ:aT)(x y:aJ):∀(n:Nat) (a b:Nat),b<=n->ib Φ kZ [x,y,some (.int a),some (.int b)]=ok (.nx,[x,y,some (.int (Nat.gcd a b)),some (.int 0)]):=by
 intro n;induction n with
 |zero =>
  intro a b h;have c:b=0:=by left
  subst c;rw[kZ,qX];exact iF (by simp)
 |succ n d =>
  intro a b h;by_cases c:b=0
  ·subst c;rw[kZ,qX];exact iF (by simp)
  ·have l:=Nat.mod_lt a (show 0<b by left);have e:=d b (a % b) (by left);have k:Nat.gcd b (a % b)=Nat.gcd a b:=by rw[Nat.gcd_comm a b,Nat.gcd_rec b a,Nat.gcd_comm]
   rw[k]at e;rw[kZ,qX]at e ⊢;rw[<- e];have g:0<b:=by left
   have j:((a:Int)).fmod (b:Int)=((a % b:Nat):Int):=by
    rw[Int.fmod_eq_emod_of_nonneg _ (by left)];exact(Int.natCast_emod a b).symm
   have i:ib Φ (.par 2 3 (.v 3) (.bin .mod (.v 2) (.v 3))) [x,y,some (.int a),some (.int b)]=ok (.nx,[x,y,some (.int b),some (.int ((a % b:Nat):Int))]):=by
    rw[Qv];simp[c,j]
   exact oJ (by simp[g,i])
def HG(Φ:aT):j5 (mk Φ 2 4 lT):=by
 intro t b c h;obtain⟨k,j⟩:=ub (t:=t) c;have i:=og (t:=t) c h t;have g:=og (t:=t) c h b;have hl:=yp Φ (some (.int t)) (some (.int b)) b.natAbs t.natAbs b.natAbs (aaj _);rw[qD,<- k,<- j];by_cases a:b<0
 ·have e:0 - (Nat.gcd t.natAbs b.natAbs:Int)=gC t b:=by simp[gC,a,Int.gcd]
  have d:-(Nat.gcd t.natAbs b.natAbs:Int)=gC t b:=by simp[gC,a,Int.gcd]
  simp[mk_eq,lT,hl,a,d,i,g]
 ·have e:(Nat.gcd t.natAbs b.natAbs:Int)=gC t b:=by simp[gC,a,Int.gcd]
  simp[mk_eq,lT,hl,a,e,i,g]
noncomputable def uU(qs:aS)(h:Int):Rat:=qs.getD h.toNat 0
variable {h:Int}
def cj(b:0<=h)(a:h<qs.length):qs[h.toNat]?=some (uU qs h)/\uU qs h∈qs:=by
 have hl:h.toNat<qs.length:=by left
 have e:qs[h.toNat]?=some (uU qs h):=by
  unfold uU;rw[fI,List.getElem?_eq_getElem hl];rfl
 exact⟨e,aas e⟩
def m8(a:0<=h)(b:h<qs.length):uH (a_ qs) h=ok (qD (uU qs h)):=by
 rw[at_of a (d:=qD (uU qs h)) (by rw[HU,(cj a b).1];rfl)];simp
def ie{q:Rat}(h:0<q):0<q.num:=by
 have:=(Rat.lt_iff 0 q).mp h;simpa using this
def qV.len{n:Nat}{l:ae}(h:qV n l):l.length<=n:=by
 have d:(l.map Int.toNat).Nodup:=by
  unfold List.Nodup;rw[List.pairwise_map];refine h.1.imp_of_mem λi g z e=>?_;have:=h.2 _ i;have:=h.2 _ g;left
 have c:(l.map Int.toNat) ⊆ List.range n:=λx b=>by
  obtain⟨y,a,rfl⟩:=List.mem_map.mp b;have:=h.2 y a;rw[l4];left
 have:=d.length_le_of_subset c;simpa using this
def qV.du{n:Nat}{l:ae}(h:qV n l)(hn:n<=12):eN (.tup (ag l)):=by
 have:=h.len;show(ag l).length<64;simp;left
abbrev Row:=Rat×ae
abbrev ai:=List Row
def rD(r:Row):D:=.tup [qD r.1,.tup (ag r.2)]
@[simp]theorem M4(g:Fl->Fl)(r:Row):aE g (rD r)=rD r:=by unfold rD;simp
@[simp]theorem NY(g:Fl->Bool)(r:Row):bh g (rD r)=false:=by unfold rD;simp
noncomputable def bL(rs:ai):aa:=rs.map rD
@[simp]theorem Vl(rs:ai):(bL rs).length=rs.length:=abJ ..
@[simp]theorem pb(g:Fl->Fl)(rs:ai):aw g (bL rs)=bL rs:=e_ g (M4 g) rs
@[simp]theorem Ti(g:Fl->Bool)(rs:ai):aU g (bL rs)=false:=dM g (NY g) rs
def RK(n:Nat)(r:Row):eJ (n+2) (rD r)=true:=by
 unfold rD;rw[nU,gc,gc,D_ n];have:eJ (n+1) (.tup (ag r.2))=true:=by
  rw[nU];exact lB (λ_=>by cases n<;>rfl) r.2
 rw[this];rfl
def wz(a b:ae):ff (ag a) (ag b)=decide (a=b):=lN (λx y=>by show(x==y)=_;rfl) a b
def Uo(r s:Row):i9 (rD r) (rD s)=decide (r=s):=by
 unfold rD;show(i9 (qD r.1) (qD s.1)&&(ff (ag r.2) (ag s.2)&&true))=_;rw[La,wz,ky];have:decide (r=s)=decide (r.1=s.1/\r.2=s.2):=by
  congr 1;exact propext ⟨λh=>by rw[h];exact⟨rfl,rfl⟩,λh=>acA h.1 h.2⟩
 rw[this,<- Bool.decide_and]
def Jr(r s:ai):ff (bL r) (bL s)=decide (r=s):=lN Uo r s
def aQ(n:Nat)(rs:ai):D:=.tup [.int n,.lst .fz (bL rs)]
def xo(rs:ai):Prop:=∃W:Nat,0<W/\W<64/\∀r∈rs,r.1.den∣W
def Rw(n:Nat)(l:ae):Prop:=l.Nodup/\l.length<=n/\∀h∈l,0<=h/\h<(n:Int)
def qV.rw{n:Nat}{l:ae}(h:qV n l):Rw n l:=⟨h.nodup,h.len,h.2⟩
structure Dp(P:ae->Prop)(k n:Nat)(rs:ai):Prop where
 n1:1<=n
 n2:n<=12
 Ct:k*(rs.length+1)<=66
 fin:k*(rs.length+1)<=60\/xo rs
 len:rs.length<=1000
 lot:∀r∈rs,P r.2
 pos:∀r∈rs,0<r.1
 sm:∀r∈rs,Sm k r.1
 one:(rs.map (·.1)).sum=1
 rise:Gy (rs.map (·.2))
abbrev Dr(k n:Nat)(rs:ai):Prop:=Dp (qV n) k n rs
def Dp.imp{P Q:ae->Prop}{k n:Nat}{rs:ai}(I:Dp P k n rs)(h:∀r∈rs,P r.2->Q r.2):Dp Q k n rs:=⟨I.n1,I.n2,I.Ct,I.fin,I.len,λr a=>h r a (I.lot r a),I.pos,I.sm,I.one,I.rise⟩
noncomputable def cZ(rs:ai):aS:=rs.map (·.1)
section
variable {P:ae->Prop}{k n:Nat}{rs:ai}(I:Dp P k n rs)
include I
def Dp.WZ:Cb k (cZ rs):=⟨λq b=>by
 obtain⟨r,a,rfl⟩:=List.mem_map.mp b;exact I.sm r a,by
  have:=I.Ct;have h:k*(cZ rs).length<=k*(rs.length+1):=abt _ (by simp[cZ]);left,by simp[cZ];exact I.len⟩
omit I in
theorem vQ{W:Nat}:∀(qs:aS) (b:Nat),b∣W->(∀q∈qs,q.den∣W)->qs.foldl (λb q=>Nat.lcm b q.den) b∣W
 |[],_,h,_=>h
 |q::qs,b,h,hq=>vQ qs _ (Nat.lcm_dvd h (hq q aak)) λp a=>hq p (aai _ a)
def Dp.bot:0<cU (cZ rs)/\cU (cZ rs)<2 ^ 61/\∀q∈cZ rs,q.den∣cU (cZ rs):=by
 obtain⟨a,b,c⟩:=I.WZ.lcm;refine⟨a,?_,c⟩;rcases I.fin with f|⟨W,d,w1,w2⟩
 ·refine aal b (aaD (by decide) ?_);have h:k*(cZ rs).length<=k*(rs.length+1):=abt _ (by simp[cZ]);left
 ·have:cU (cZ rs)∣W:=vQ _ 1 (Nat.one_dvd _) λq g=>by
   obtain⟨r,e,rfl⟩:=List.mem_map.mp g;exact w2 r e
  exact aaK (acb d this) (aal w1 (by decide))
end
def qj(m:au):Prop:=∀(r:Row) (n:Nat),n<=12->Rw n r.2->0<r.1->m [rD r,.int n]=ok (.bl true)
noncomputable def lU:af:=[.ifs (.or [(.not (.vV (.v 0) .tuple)),(.cmp .ne (.bf .len [(.v 0)]) (.int 2))]) [.ret (.bl false)] [],.ifs (.not (.call 43 [(.ix (.v 0) (.int 1)),(.v 1)])) [.ret (.bl false)] [],.ret (.and [(.call 3 [(.ix (.v 0) (.int 0))]),(.cmp .gt (.ix (.ix (.v 0) (.int 0)) (.int 0)) (.int 0))])]
def Rw.houses{n:Nat}{l:ae}(h:Rw n l):cN (.tup (ag l)) n=true:=by
 have c:(ag l).all (cB n)=true:=by
  unfold ag;rw[g6,gv];intro x a;have:=h.2.2 x a;simp[cB,this.1,this.2]
 have b:eY l=l:=by
  have:=ug l [] (by simp) h.1;rw[fx]at this;exact this
 simp[cN,c,fJ,b]
def Rw.du{n:Nat}{l:ae}(h:Rw n l)(hn:n<=12):eN (.tup (ag l)):=by
 have:=h.2.1;show(ag l).length<64;simp;left
def Dk(Φ:aT)(e:fD (Φ 3))(j:iU (Φ 43)):qj (mk Φ 2 2 lU):=by
 intro r n d hl c;have b:=j (.tup (ag r.2)) n (hl.du d);rw[hl.houses]at b;have a:=e (qD r.1);rw[Ac]at a;have k:=ie c;have i:rD r=.tup [qD r.1,.tup (ag r.2)]:=rfl;have g:qD r.1=.tup [.int r.1.num,.int r.1.den]:=rfl;simp[mk_eq,lU,i,eE,b,a];simp[g,k]
def HP(c:Φ 1022=Qc){a b:ae}(h:HT.lexLt a b=true):Φ 1022 [.tup (ag a),.tup (ag b)]=ok (.bl false):=by
 rw[c];show(match intsOf (ag a)with|some ns=>(match intsOf (ag b)with|some ms=>ok (D.bl (!HT.lexLt ns ms))|none=>none)|none=>none)=_;unfold ag;rw[bC,bC];show ok (D.bl (!HT.lexLt a b))=_;rw[h];rfl
def jM(m:au):Prop:=∀(rs:ai),1<=rs.length->Gy (rs.map (·.2))->m [.lst .fz (bL rs)]=ok (.bl true)
noncomputable def CV:af:=[.ifs (.cL 1022 [(.ix (.v 1) (.int 1)),(.ix (.v 2) (.int 1))]) [.ret (.bl false)] []]
theorem zq(Φ:aT)(g:Φ 1022=Qc)(c0:aJ):∀(rs:ai) (r:Row) (c1 a:aJ),Gy ((r::rs).map (·.2)) ->
  ∃c b,dC (λd ρ=>bU (.tp [1,2]) d ρ) (λρ=>bE Φ CV ρ) (List.zipWith (λx y=>D.tup [x,y]) (bL (r::rs)) (bL rs)) [c0,c1,a]=ok (.nx,[c0,c,b])
 |[],r,c1,a,_=>⟨c1,a,rfl⟩
 |s::rs,r,c1,a,h=>by
  have i:=List.pairwise_cons.mp h;obtain⟨c,b,j⟩:=zq Φ g c0 rs s (some (rD r)) (some (rD s)) i.2;have hl:=i.1 s.2 (by simp);have e:=HP g hl;refine⟨c,b,cQ (ρ1:=[c0,some (rD r),some (rD s)]) (by simp) (ρ2:=[c0,some (rD r),some (rD s)]) ?_ j⟩;have k:∀r:Row,rD r=.tup [qD r.1,.tup (ag r.2)]:=λ_=>rfl;simp[CV,k,e]
def gR(rs:ai):aa:=rs.map λr=>.tup (ag r.2)
@[simp]theorem kA(g:Fl->Fl)(rs:ai):aw g (gR rs)=gR rs:=e_ g (λr=>by simp) rs
@[simp]theorem NV(g:Fl->Bool)(rs:ai):aU g (gR rs)=false:=dM g (λr=>by simp) rs
def oG(b:Nat)(rs:ai):aa:=rs.map λr=>.tup [.int (dU b r.1),.tup (ag r.2)]
@[simp]theorem Em(g:Fl->Fl)(b:Nat)(rs:ai):aw g (oG b rs)=oG b rs:=e_ g (λr=>by simp) rs
@[simp]theorem Th(g:Fl->Bool)(b:Nat)(rs:ai):aU g (oG b rs)=false:=dM g (λr=>by simp) rs
noncomputable def JC:CE:=.comp 2 (.tp [0,1]) [] .seq [(.v 0)] [] (.v 0)
noncomputable def Jx:CE:=.comp 2 (.tp [0,1]) [] .seq [(.v 0)] [] (.v 1)
def UB(Φ:aT){rs:ai}(h:rs.length<=1000)(r:aX):bo Φ JC (some (.lst .fz (bL rs))::r)=ok (.lst .ow (a_ (cZ rs))):=by
 unfold JC;rw[bY (xs:=[.lst .fz (bL rs)]) (items:=bL rs) (ds:=rs.map λr=>qD r.1) (by simp) (by rw[b6];simp) (bH λr a=>?_) (by simp;exact bA (by left))]
 ·simp[a_,cZ,aG]
 ·exact⟨[some (qD r.1),some (.tup (ag r.2))],by simp[bx,rD],by simp,by simp⟩
def R6(Φ:aT){rs:ai}(h:rs.length<=1000)(r:aX):bo Φ Jx (some (.lst .fz (bL rs))::r)=ok (.lst .ow (gR rs)):=by
 unfold Jx;rw[bY (xs:=[.lst .fz (bL rs)]) (items:=bL rs) (ds:=rs.map λr=>.tup (ag r.2)) (by simp) (by rw[b6];simp) (bH λr a=>?_) (by simp;exact bA (by left))]
 ·exact aaI (λx=>ok (D.lst .ow x)) (kA eX rs)
 ·exact⟨[some (qD r.1),some (.tup (ag r.2))],by simp[bx,rD],by simp,by simp⟩
def j0(m:au):Prop:=∀(rs:ai) k,Cb k (cZ rs)->m [.lst .fz (bL rs)]=ok (.tup [.int (cU (cZ rs)),.lst .ow (oG (cU (cZ rs)) rs)])
def jW:af:=[.asg (.nm 1) JC,.asg (.nm 2) Jx,.asg (.nm 3) (.call 9 [(.v 1)]),.ret (.tup [(.v 3),(.cL 1040 [(.call 10 [(.v 1),(.v 3)]),(.v 2)])])]
def Ba(Φ:aT)(d:fR (Φ 9))(n:jL (Φ 10))(m:Φ 1040=R4):j0 (mk Φ 1 4 jW):=by
 intro a k c;have hl:a.length<=1000:=by have:=c.len;simpa [cZ]using this
 have l:=UB Φ hl;have j:=R6 Φ hl;have i:=λf=>d f (cZ a) k c;have g:=λf=>n f (cZ a) k (cU (cZ a)) c c.Nc;generalize cU (cZ a)=b at *;have e:Φ 1040 [.lst .ow (ag ((cZ a).map (dU b))),.lst .al (gR a)]=ok (.lst .ow (oG b a)):=by
  rw[m];show ok (D.lst .ow (aw bg (List.zipWith pairD (ag ((cZ a).map (dU b))) (gR a))))=_;rw[gQ,eA,kA];unfold cZ ag gR oG;rw[fb,fb,List.zipWith_map,List.zipWith_self];rfl
 simp[mk_eq,jW,Co Φ JC _ rfl,Co Φ Jx _ rfl,l,j,i,g,e]
noncomputable def FD:CE:=.comp 2 (.tp [0,1]) [] .seq [(.ix (.v 1) (.int 1))] [] (.v 0)
def ko(m:au):Prop:=∀(rs:ai) k,Cb k (cZ rs)->(cZ rs).sum=1->m [.lst .fz (bL rs)]=ok (.bl true)
def dg:af:=[.asg (.nm 1) (.call 14 [(.v 0)]),.ret (.cmp .eq (.bf .ku [FD]) (.ix (.v 1) (.int 0)))]
def CT{b:Nat}(h:∀q∈qs,q.den∣b)(a:qs.sum=1):(qs.map (dU b)).sum=(b:Int):=by
 have:=oO h;rw[a,Rat.one_mul,<- hD]at this;exact Rat.intCast_inj.mp this
def qH(Φ:aT)(o:j0 (Φ 14)):ko (mk Φ 1 2 dg):=by
 intro a k c g;have hl:a.length<=1000:=by have:=c.len;simpa [cZ]using this
 have n:=o a k c;have e:=c.lcm;have m:=CT e.2.2 g;generalize cU (cZ a)=b at *;have l:∀d,bo Φ FD [d,some (.tup [.int b,.lst .ow (oG b a)])]=ok (.lst .ow (ag ((cZ a).map (dU b)))):=λd=>by
  unfold FD;rw[bY (xs:=[.lst .al (oG b a)]) (items:=oG b a) (ds:=a.map λr=>.int (dU b r.1)) (by simp) (by rw[b6];simp) (bH λr p=>?_) (by simp;exact bA (by left))]
  ·simp[ag,cZ,aG]
  ·exact⟨[some (.int (dU b r.1)),some (.tup (ag r.2))],by simp[bx],by simp,by simp⟩
 have j:uT .ku [.lst .ow (ag ((cZ a).map (dU b)))]=ok (.int b):=by
  show(match intsOf (ag ((cZ a).map (dU b)))with|some ns=>ok (D.int ns.sum)|none=>none)=_;unfold ag;rw[bC];show ok (D.int ((cZ a).map (dU b)).sum)=_;rw[m]
 have i:cY .eq (.int (b:Int)) (.int (b:Int))=ok (.bl true):=by
  show(if eJ 40 (.int (b:Int))&&eJ 40 (.int (b:Int))then ok (D.bl ((b:Int)==(b:Int)))else none)=_;simp[eJ]
 simp[mk_eq,dg,n,l,j,i]
noncomputable def lg:af:=[.ifs (.not (.call 12 [(.v 3),(.v 1)])) [.ret (.bl false)] []]
def fm:af:=[.ifs (.or [(.not (.vV (.v 0) .tuple)),(.cmp .ne (.bf .len [(.v 0)]) (.int 2))]) [.ret (.bl false)] [],.asg (.nm 1) (.ix (.v 0) (.int 0)),.asg (.nm 2) (.ix (.v 0) (.int 1)),.ifs (.or [(.not (.call 0 [(.v 1)])),(.cmp .lt (.v 1) (.int 1)),(.cmp .gt (.v 1) (.glo "MOST_HOUSES" 12))]) [.ret (.bl false)] [],.ifs (.not (.vV (.v 2) .list)) [.ret (.bl false)] [],.fr (.nm 3) (.seq (.v 2)) lg,.ret (.and [(.call 44 [(.v 2)]),(.call 15 [(.v 2)])])]
def U1(m:au):Prop:=∀k n a,Dr k n a->m [aQ n a]=ok (.bl true)
def Lp(m:au):Prop:=∀k n a,Dp (Rw n) k n a->m [aQ n a]=ok (.bl true)
theorem pV(Φ:aT)(g:qj (Φ 12)){n:Nat}(hn:n<=12)(c0 a:aJ):∀(rs:ai) (c3:aJ),(∀r∈rs,Rw n r.2/\0<r.1)->∃b,dC (λd ρ=>bU (.nm 3) d ρ) (λρ=>bE Φ lg ρ) (bL rs) [c0,some (.int n),a,c3]=ok (.nx,[c0,some (.int n),a,b])
 |[],c3,_=>⟨c3,rfl⟩
 |r::rs,c3,h=>by
  obtain⟨b,i⟩:=pV Φ g hn c0 a rs (some (rD r)) λs j=>h s (aai _ j);have c:=h r aak;have e:=g r n hn c.1 c.2;refine⟨b,cQ (ρ1:=[c0,some (.int n),a,some (rD r)]) (by simp) (ρ2:=[c0,some (.int n),a,some (rD r)]) ?_ i⟩;simp[lg,e]
def Dp.some{P:ae->Prop}{k n:Nat}{rs:ai}(I:Dp P k n rs):1<=rs.length:=by
 cases rs with
 |nil=>have:=I.one;simp at this
 |cons r rs=>simp
def x_(Φ:aT)(i:eh (Φ 0))(y:qj (Φ 12))(q:ko (Φ 15))(s:jM (Φ 44)):Lp (mk Φ 1 4 fm):=by
 intro k n a I;have z:=I.n1;have g:=I.n2;have o:=q a k I.WZ I.one;have m:=s a I.some I.rise;have l:Φ 0 [.int (n:Int)]=ok (.bl true):=by rw[i];rfl
 obtain⟨c3,j⟩:=pV Φ y g (some (aQ n a)) (some (.lst .fz (bL a))) a none λr d=>⟨I.lot r d,I.pos r d⟩
 have c:bX Φ (.seq (.v 2)) [some (aQ n a),some (.int n),some (.lst .fz (bL a)),none]=ok (bL a,[some (aQ n a),some (.int n),some (.lst .fz (bL a)),none]):=by
  rw[vU (f:=.fz) (ds:=bL a) (by simp)];simp
 have e:=dT (Φ:=Φ) (t:=.nm 3) (b:=lg) c j;have c1:cY .lt (.int (n:Int)) (.int 1)=ok (.bl false):=by
  show ok (D.bl (decide ((n:Int)<1)))=_;rw[fu (by left)]
 have p:cY .gt (.int (n:Int)) (.int 12)=ok (.bl false):=by
  show ok (D.bl (decide ((12:Int)<n)))=_;rw[fu (by left)]
 have u:∀ds,eE .tuple (.tup ds)=true:=λ_=>rfl;have x:∀f ds,eE .list (.lst f ds)=true:=λ_ _=>rfl;unfold aQ at e ⊢;simp[mk_eq,fm,u,x,l,c1,p,e,m,o]
noncomputable def OY:CE:=.comp 2 (.tp [0,1]) [0] .seq [(.ix (.v 0) (.int 1))] [] (.call 11 [(.v 1),(.ix (.v 2) (.int 0))])
def dO:af:=[.ret (.and [(.call 45 [(.v 0)]),(.bf .all1 [OY])])]
def sN(Φ:aT)(m:iz (Φ 11))(l:Lp (Φ 45)):U1 (mk Φ 1 1 dO):=by
 intro k n a I;have j:=l k n a (I.imp λ_ _ h=>h.rw);have i:bo Φ OY [some (aQ n a)]=ok (.lst .ow (lQ (a.map λ_=>true))):=by
  unfold OY;rw[bY (xs:=[.lst .fz (bL a)]) (items:=bL a) (ds:=a.map λ_=>.bl true) (by simp[aQ]) (by rw[b6];simp) (bH λr d=>?_) (by simp;exact bA (by have:=I.len;left))]
  ·simp[lQ,aG]
  ·have hl:=I.lot r d;have e:=m (.tup (ag r.2)) n (hl.du I.n2);rw[hl.jw]at e;exact⟨[some (qD r.1),some (.tup (ag r.2)),some (aQ n a)],by simp[bx,rD,aQ],by simp,by simp[aQ,e]⟩
 have g:uT .all1 [.lst .ow (lQ (a.map λ_=>true))]=ok (.bl true):=by
  show(match jI (lQ (a.map λ_=>true))with|some bs=>ok (D.bl (bs.all id))|none=>none)=_;unfold lQ;rw[mH];show ok (D.bl ((a.map λ_=>true).all id))=_;congr 2;simp
 have c:aE aI (aQ n a)=aQ n a:=by simp[aQ]
 have b:aE bg (aQ n a)=aQ n a:=by simp[aQ]
 simp[mk_eq,dO,c,b,j,i,g]
def qk(m:au):Prop:=∀k n a,Dr k n a->m [aQ n a]=ok .bP
noncomputable def b9:af:=[.ifs (.not (.call 16 [(.v 0)])) [.rs 1] []]
def nF(Φ:aT)(e:U1 (Φ 16)):qk (mk Φ 1 1 b9):=by
 intro k n a I;have d:=e k n a I;have c:aE aI (aQ n a)=aQ n a:=by simp[aQ]
 have b:aE bg (aQ n a)=aQ n a:=by simp[aQ]
 simp[mk_eq,b9,c,b,d]
def CD{i j:Nat}{k e:CE}{ρ':aX}{d:D}{z:Int}(g:jD Φ e ρ=ok (d,ρ'))(c:bo Φ k ρ'=ok (.int z))(b:ρ'[i]?=some (some (.lst .ow ds)))(a:vT ds.length z=some j):
  ib Φ (.setI i k e) ρ=ok (.nx,ρ'.set i (some (.lst .ow (ds.set j d)))):=by
 show bd (jD Φ e ρ) _=_;rw[g,cS];dsimp only;rw[c];show(match yg ρ'[i]? with|some ds=>_|none=>_)=_;rw[b];show(match vT ds.length z with|some j=>_|none=>_)=_;rw[a]
def EA{n:Nat}(b:0<=h)(a:h<n):vT n h=some h.toNat:=by
 unfold vT;rw[cc b,cc a]
def DC(n:Int):D.tup [.int n,.int 1]=qD (n:Rat):=by
 unfold qD;rw[Rat.num_intCast,Rat.den_intCast];rfl
def Ko{t b:Int}{k:Nat}(d:b≠0)(c:t.natAbs<2 ^ k)(a:b.natAbs<2 ^ k):Sm k (Rat.divInt t b):=A8 d c a
def yK{t b:Int}(c:0<t)(d:0<b):0<Rat.divInt t b:=by
 rw[g9];have g:(0:Rat)<(t:Rat):=by
  have:=Rat.intCast_lt_intCast (a:=0) (b:=t);simpa using this.mpr c
 have e:(0:Rat)<(b:Rat):=by
  have:=Rat.intCast_lt_intCast (a:=0) (b:=b);simpa using this.mpr d
 rw[Rat.div_def];exact Rat.mul_pos g (Rat.inv_pos.mpr e)
noncomputable def WW(l:ae)(f:Int->Rat):Rat:=(l.map f).sum
@[simp]theorem QZ(f:Int->Rat):WW [] f=0:=rfl
structure Gs(j n:Nat)(ws xs:aS):Prop where
 l1:ws.length=n
 l2:xs.length=n
 s1:∀q∈ws,Sm j q
 s2:∀q∈xs,Sm j q
 jj:j<=100
variable {es:aA}
def xG{p i:Nat}{d d':D}(e:bJ Φ es ρ=ok xs)(c:aU bK xs=false)(b:ρ[i]?=some (some d))(a:Φ p (d::xs)=ok d'):ib Φ (.mut p i es) ρ=ok (.nx,ρ.set i (some d')):=by
 show bd (bJ Φ es ρ) (λxs=>yi Φ p i (pq es xs ρ))=_;rw[e,cS];unfold pq;rw[c,cb dX];unfold yi;rw[b];show bd (Φ p (d::xs)) _=_;rw[a];rfl
def Pf(i:Int):dD .band (.int i) (.int 1)=ok (.int (i % 2)):=rfl
theorem mB(c:ae):∀(cs:aL) (ws:ae),cJ cs (ag ws) c=(cJ cs ws c).map D.int
 |[],_=>by cases ‹ae› <;> rfl
 |_::_,[]=>rfl
 |c'::cs,w::ws=>by
  show(if c'=c then some (D.int w)else cJ cs (ag ws) c)=Option.map D.int (if c'=c then some w else cJ cs ws c);by_cases e:c'=c
  ·rw[cc e,cc e];rfl
  ·rw[cb e,cb e];exact mB c cs ws
theorem rm(c:ae)(v:Int):∀(cs:aL) (ws:ae),setC cs (ag ws) c (.int v)=ag (setC cs ws c v)
 |[],_=>by cases ‹ae› <;> rfl
 |_::_,[]=>rfl
 |c'::cs,w::ws=>by
  show(if c'=c then D.int v else D.int w)::setC cs (ag ws) c (.int v)=D.int (if c'=c then v else w)::ag (setC cs ws c v);rw[rm c v cs ws];by_cases e:c'=c
  ·rw[cc e,cc e]
  ·rw[cb e,cb e]
def xH(cs:aL)(ws:ae)(c:ae)(v:Int):cq cs (ag ws) c (.int v)=ag (cq cs ws c v):=by
 unfold cq;by_cases e:c∈cs
 ·rw[cc e,cc e];exact rm c v cs ws
 ·rw[cb e,cb e];simp
def cP(cs:aL)(ws:ae)(c:ae):Int:=(cJ cs ws c).getD 0
theorem pH{a:Type}{c:ae}:∀{cs:aL} (ws:List a),c∉cs->cJ cs ws c=none
 |[],_,_=>by cases ‹List a› <;> rfl
 |_::_,[],_=>rfl
 |c'::cs,w::ws,h=>by
  show(if c'=c then some w else cJ cs ws c)=none;rw[cb λe=>h (by rw[e];exact kq)];exact pH ws λz=>h (aai _ z)
theorem lK{a:Type}{c:ae}:∀{cs:aL} {ws:List a},cs.length=ws.length->c∈cs->∃w,cJ cs ws c=some w/\w∈ws
 |[],_,_,h=>nomatch h
 |_::_,[],hl,_=>by simp at hl
 |c'::cs,w::ws,hl,h=>by
  by_cases e:c'=c
  ·exact⟨w,aa4 e,aak⟩
  ·have d:c∈cs:=(List.mem_cons.mp h).resolve_left λz=>e z.symm;obtain⟨b,i,g⟩:=lK (cs:=cs) (ws:=ws) (by simpa using hl) d;exact⟨b,(acB e).trans i,aai _ g⟩
theorem o_:∀{cs:aL} {ws:ae},cs.Nodup->cs.length=ws.length->cs.map (cP cs ws)=ws
 |[],[],_,_=>rfl
 |[],_::_,_,h=>by simp at h
 |_::_,[],_,h=>by simp at h
 |c::cs,w::ws,hn,hl=>by
  have a:=List.nodup_cons.mp hn;have b:=o_ (cs:=cs) (ws:=ws) a.2 (by simpa using hl);rw[dx];have g:cP (c::cs) (w::ws) c=w:=by
   show(if c=c then some w else cJ cs ws c).getD 0=w;rw[cc rfl];rfl
  have e:cs.map (cP (c::cs) (w::ws))=cs.map (cP cs ws):=aay λx d=>by
   show(if c=x then some w else cJ cs ws x).getD 0=_;rw[cb (show ¬ c=x from λz=>a.1 (by rw[z];exact d))];rfl
  rw[g,e,b]
theorem vq{c:ae}{v:Int}:∀{cs:aL} {ws:ae},cs.Nodup->cs.length=ws.length->c∈cs->(setC cs ws c v).sum=ws.sum - cP cs ws c+v/\(setC cs ws c v).length=ws.length
 |[],_,_,_,h=>nomatch h
 |_::_,[],_,h,_=>by simp at h
 |a::cs,w::ws,hn,hl,h=>by
  have i:=List.nodup_cons.mp hn;have k:cs.length=ws.length:=by simpa using hl
  have es:setC (a::cs) (w::ws) c v=(if a=c then v else w)::setC cs ws c v:=rfl;by_cases e:a=c
  ·have p:∀{cs:aL} {ws:ae},cs.length=ws.length->c∉cs->setC cs ws c v=ws:=λ{cs}=>by
    induction cs with
    |nil=>intro ws hl _;cases ws with|nil=>rfl|cons _ _=>simp at hl
    |cons d cs l =>
     intro ws hl j;cases ws with
     |nil=>simp at hl
     |cons w ws =>
      show(if d=c then v else w)::setC cs ws c v=_;rw[cb λz=>j (by rw[z];exact kq),l (by simpa using hl) λz=>j (i5 _ z)]
   have b:c∉cs:=e▸i.1;rw[es,cc e,p k b];have g:cP (a::cs) (w::ws) c=w:=by
    show(if a=c then some w else cJ cs ws c).getD 0=w;rw[cc e];rfl
   rw[g];refine⟨?_,rfl⟩;rw[f7,f7];left
  ·have o:c∈cs:=(List.mem_cons.mp h).resolve_left λz=>e z.symm;obtain⟨n,m⟩:=vq (v:=v) i.2 k o;have g:cP (a::cs) (w::ws) c=cP cs ws c:=by
    show(if a=c then some w else cJ cs ws c).getD 0=_;rw[cb e];rfl
   rw[es,cb e,g];refine⟨?_,by rw[cz,cz,m]⟩;rw[f7,f7,n];left
theorem vt{c:ae}{v:Int}:∀{cs:aL} {ws:ae} {x:Int},x∈setC cs ws c v->x∈ws\/x=v
 |[],_,_,h=>by cases ‹ae› <;> exact nomatch h
 |_::_,[],_,h=>nomatch h
 |c'::cs,w::ws,x,h=>by
  have h:x∈(if c'=c then v else w)::setC cs ws c v:=h;rcases List.mem_cons.mp h with e|h
  ·by_cases q:c'=c
   ·rw[cc q]at e;exact .inr e
   ·rw[cb q]at e;rw[e];exact .inl aak
  ·rcases vt h with h|h
   ·exact .inl (aai _ h)
   ·exact .inr h
structure Tab(P:ae->Prop)(j:Nat)(cs:aL)(ws:ae):Prop where
 nd:cs.Nodup
 ln:cs.length=ws.length
 Ct:cs.length<=j
 lot:∀c∈cs,P c
 pos:∀w∈ws,1<=w
 sum:ws.sum<=7*j
 ne:1<=j->cs≠[]
variable {cs:aL}
def Tab.get{n:ae->Prop}{j:Nat}(T:Tab n j cs ws)(c:ae):0<=cP cs ws c:=by
 by_cases h:c∈cs
 ·obtain⟨w,e,m⟩:=lK T.ln h;unfold cP;rw[e];have:=T.pos w m;show 0<=w;left
 ·unfold cP;rw[pH ws h];exact acG _
def Tab.put{n:ae->Prop}{j:Nat}(T:Tab n j cs ws){c:ae}(m:n c){i:Int}(u:1<=i)(t:i<=7):Tab n (j+1) (dw cs c) (cq cs ws c (cP cs ws c+i)):=by
 have r:=T.get c;have s:=T.Ct;have q:=T.sum;by_cases h:c∈cs
 ·obtain⟨k,g⟩:=vq (v:=cP cs ws c+i) T.nd T.ln h;unfold dw cq;rw[cc h,cc h];refine⟨T.nd,by rw[g];exact T.ln,by left,T.lot,λw hw=>?_,by rw[k];left,λ_ z=>by rw[z]at h;cases h⟩;rcases vt hw with hw|rfl
  ·exact T.pos w hw
  ·left
 ·have l:cP cs ws c=0:=by unfold cP;rw[pH ws h];rfl
  unfold dw cq;rw[cb h,cb h,l];refine⟨?_,by rw[c8,c8,T.ln];rfl,by rw[c8,hL];left,λd hd=>?_,λw hw=>?_,by rw[List.sum_append];simp;left,λ_ z=>by simp at z⟩
  ·refine List.nodup_append.mpr ⟨T.nd,List.nodup_cons.mpr ⟨List.not_mem_nil,ab3⟩,λa p b o e=>?_⟩;rw[List.mem_singleton.mp o]at e;exact h (e▸p)
  ·rcases List.mem_append.mp hd with hd|hd
   ·exact T.lot d hd
   ·rw[List.mem_singleton.mp hd];exact m
  ·rcases List.mem_append.mp hw with hw|hw
   ·exact T.pos w hw
   ·rw[List.mem_singleton.mp hw];left
def ny(cs:aL)(ws:ae):ai:=(b5 cs).map λc=>(Rat.divInt (cP cs ws c) ws.sum,c)
def Tab.zN{n:ae->Prop}{j:Nat}(T:Tab n j cs ws):∀w∈ws,w<=ws.sum:=λw hw=>by
 have:∀l:ae,(∀x∈l,1<=x)->0<=l.sum/\∀x∈l,x<=l.sum:=λl=>by
  induction l with
  |nil=>intro _;exact⟨acG _,λ_ h=>nomatch h⟩
  |cons a l c =>
   intro h;obtain⟨e,d⟩:=c λx b=>h x (aai _ b);have g:=h a aak;rw[f7];refine⟨by left,λx b=>?_⟩;rcases List.mem_cons.mp b with rfl|b
   ·left
   ·have:=d x b;left
 exact(this ws T.pos).2 w hw
theorem zj(W:Int)(b:W≠0):∀a:ae,(a.map λx=>Rat.divInt x W).sum=Rat.divInt a.sum W
 |[]=>by simp
 |x::a=>by
  rw[dx,f7,zj W b a,f7,g9,g9,g9,Rat.intCast_add];grind
def DU{a b:aS}(h:a.Perm b):a.sum=b.sum:=by
 induction h with
 |nil=>rfl
 |cons x _ c=>rw[f7,f7,c]
 |swap x y l=>rw[f7,f7,f7,f7];grind
 |trans _ _ e d=>rw[e,d]
def Tab.dr{P:ae->Prop}{n j:Nat}(T:Tab P j cs ws)(l:1<=j)(u:j<=8)(k:1<=n)(i:n<=12):Dp P 6 n (ny cs ws):=by
 have g:(b5 cs).Perm cs:=abq _ _;have hl:(ny cs ws).length=cs.length:=by unfold ny;rw[b4];exact g.length_eq
 have s:=T.Ct;have q:=T.sum;have b:∀c∈b5 cs,1<=cP cs ws c/\cP cs ws c<=ws.sum:=λc a=>by
  obtain⟨w,e,m⟩:=lK T.ln (g.mem_iff.mp a);unfold cP;rw[e];exact⟨T.pos w m,T.zN w m⟩
 have t:1<=ws.sum:=by
  obtain⟨c,a⟩:=List.exists_mem_of_ne_nil cs (T.ne l);have:=b c (g.mem_iff.mpr a);left
 refine⟨k,i,by rw[hl];left,.inl (by rw[hl];left),by rw[hl];left,λr d=>?_,λr d=>?_,λr d=>?_,?_,?_⟩
 ·obtain⟨c,a,rfl⟩:=List.mem_map.mp d;exact T.lot c (g.mem_iff.mp a)
 ·obtain⟨c,a,rfl⟩:=List.mem_map.mp d;exact yK (by have:=b c a;left) (by left)
 ·obtain⟨c,a,rfl⟩:=List.mem_map.mp d;have:=b c a;exact Ko (by left) (by show _<64;left) (by show _<64;left)
 ·have e:(ny cs ws).map (·.1)=(b5 cs).map λc=>Rat.divInt (cP cs ws c) ws.sum:=by
   unfold ny;rw[fb];rfl
  rw[e];have p:((b5 cs).map λc=>Rat.divInt (cP cs ws c) ws.sum).sum=(cs.map λc=>Rat.divInt (cP cs ws c) ws.sum).sum:=DU (g.map _);have o:(cs.map λc=>Rat.divInt (cP cs ws c) ws.sum)=(cs.map (cP cs ws)).map λx=>Rat.divInt x ws.sum:=by rw[fb];rfl
  rw[p,o,o_ T.nd T.ln,zj _ (by left),g9];have z:((ws.sum:Int):Rat)≠0:=λz=>by rw[kx]at z;left
  grind
 ·have e:(ny cs ws).map (·.2)=b5 cs:=by
   unfold ny;rw[fb];exact(aay λ_ _=>rfl).trans (List.map_id _)
  rw[e];exact oS T.nd
def Xz(n:Nat)(t:Nat->Bool):qV n (((List.range n).filter t).map λ(k:Nat)=>(k:Int)):=by
 refine⟨?_,λh b=>?_⟩
 ·rw[List.pairwise_map];refine(List.Pairwise.filter _ List.pairwise_lt_range).imp λz=>?_;left
 ·obtain⟨k,a,rfl⟩:=List.mem_map.mp b;have:=List.mem_range.mp (List.mem_filter.mp a).1;left
noncomputable def yI:CE:=.comp 1 (.nm 0) [7] .jr [(.v 4)] [(.cmp .eq (.bin .band (.bin .shr (.v 1) (.v 0)) (.int 1)) (.int 1))] (.v 0)
noncomputable def yU:CS:=.mut 1033 5 [(.bin .add (.bin .add (.cL 1031 [(.v 5),(.v 8),(.int 0)]) (.int 1)) (.bin .mod (.bin .fdiv (.v 7) (.int 4096)) (.int 7))),(.v 8)]
def Hm:af:=[.asg (.nm 7) (.call 200 [(.v 0),(.bin .add (.bin .add (.v 1) (.int 1)) (.v 6))]),.asg (.nm 8) (.bf .tuple1 [yI]),yU]
noncomputable def OW:CE:=.comp 1 (.nm 0) [5] (.cL 1100) [(.v 5)] [] (.cL 1032 [(.v 1),(.v 0)])
noncomputable def OX:CE:=.comp 1 (.nm 0) [9,5] .seq [(.cL 1035 [(.v 5)])] [] (.tup [(.call 201 [(.cL 1032 [(.v 2),(.v 0)]),(.v 1)]),(.v 0)])
def jZ:af:=[.asg (.nm 3) (.call 200 [(.v 0),(.v 1)]),.asg (.nm 4) (.bin .add (.int 1) (.bin .mod (.v 3) (.v 2))),.asg (.nm 3) (.bin .fdiv (.v 3) (.v 2)),.asg (.nm 5) (.cL 1030 []),.fr (.nm 6) (.jr (.bin .add (.int 1) (.bin .mod (.v 3) (.int 6)))) Hm,.asg (.nm 9) (.bf .ku [OW]),.ret (.tup [(.v 4),OX])]
structure GF(Φ:aT):Prop where
 TU:Φ 1030=FK
 TR:Φ 1031=wH
 TQ:Φ 1032=FP
 TN:Φ 1033=wF
 TM:Φ 1035=pU
 TC:Φ 1100=pW
def JK(Φ:aT){n:Nat}(hn:n<=12)(N:Int)(a b c d e f:aJ)(r:aX):∃g,qV n g/\bo Φ yI (a::b::c::d::some (.int n)::e::f::some (.int N)::r)=ok (.lst .ow (ag g)):=by
 refine⟨_,Xz n λ(k:Nat)=>decide (N / 2 ^ k % 2=1),?_⟩;unfold yI;rw[bY (xs:=[.int n]) (ds:=((List.range n).filter λ(k:Nat)=>decide (N / 2 ^ k % 2=1)).map λ(k:Nat)=>D.int (k:Int)) (by simp) (tS Φ (by left) (by left)) ?_ ?_]
 ·simp[aG,ag]
 ·rw[dV];refine eB λk j=>⟨[some (.int k),some (.int N)],by simp[bx],?_,λ_=>by simp⟩
  have i:dD .shr (.int N) (.int k)=ok (.int (N / 2 ^ k)):=by rw[UJ (by left)];simp
  simp[i,Pf]
 ·have:=abB (λ(k:Nat)=>decide (N / 2 ^ k % 2=1)) (List.range n);simp at this ⊢;exact bA (by left)
def O3(P:GF Φ)(f:Fl)(cs:aL)(ws:ae)(c:ae):Φ 1031 [.cX f cs (ag ws),.tup (ag c),.int 0]=ok (.int (cP cs ws c)):=by
 rw[P.TR];show(match intsOf (ag c)with|some c=>if aU anyF (ag ws)=false/\bh anyF (.int 0)=false then ok ((cJ cs (ag ws) c).getD (.int 0))else none|none=>none)=_;unfold ag;rw[bC];show(if aU anyF (ag ws)=false/\bh anyF (.int 0)=false then ok ((cJ cs (ag ws) c).getD (.int 0))else none)=_;rw[cc ⟨v9 _ _,rfl⟩,mB];unfold cP;cases cJ cs ws c<;>rfl
def O0(P:GF Φ)(hl:cs.length<1000)(ws:ae)(c:ae)(v:Int):Φ 1033 [.cX .ow cs (ag ws),.int v,.tup (ag c)]=ok (.cX .ow (dw cs c) (ag (cq cs ws c v))):=by
 rw[P.TN];show(match intsOf (ag c)with|some c=>if cO .ow=true/\bh anyF (.int v)=false/\cs.length<du then ok (D.cX .ow (dw cs c) (cq cs (ag ws) c (.int v)))else none|none=>none)=_;unfold ag;rw[bC];show(if cO .ow=true/\bh anyF (.int v)=false/\cs.length<du then ok (D.cX .ow (dw cs c) (cq cs (ag ws) c (.int v)))else none)=_;rw[cc ⟨rfl,rfl,by show _<1000000;left⟩,xH];rfl
def Lc(P:GF Φ)(f:Fl)(hl:cs.length=ws.length){c:ae}(h:c∈cs):Φ 1032 [.cX f cs (ag ws),.tup (ag c)]=ok (.int (cP cs ws c)):=by
 obtain⟨w,e,_⟩:=lK hl h;rw[P.TQ];show(match intsOf (ag c)with|some c=>(match cJ cs (ag ws) c with|some v=>if bh anyF v=false then ok v else none|none=>none)|none=>none)=_;unfold ag;rw[bC];show(match cJ cs (ag ws) c with|some v=>if bh anyF v=false then ok v else none|none=>none)=_;rw[mB,e];unfold cP;rw[e];rfl
theorem Au(Φ:aT)(P:GF Φ)(s:ql (Φ 200))(ns:ae){a:Int}(u:0<=a){n:Nat}(hn:n<=12)(e c3:aJ):∀(k j:Nat) (cs:aL) (ws:ae) (c6 c7 g:aJ),Tab (qV n) j cs ws->j+k<=6 ->
  ∃m l o p q,dC (λd ρ=>bU (.nm 6) d ρ) (λρ=>bE Φ Hm ρ) ((List.range' j k).map λ(i:Nat)=>D.int (i:Int)) [some (.lst .sc (ag ns)),some (.int a),e,c3,some (.int n),some (.cX .ow cs (ag ws)),c6,c7,g,none] =
   ok (.nx,[some (.lst .sc (ag ns)),some (.int a),e,c3,some (.int n),some (.cX .ow m (ag l)),o,p,q,none])/\Tab (qV n) (j+k) m l
 |0,j,cs,ws,c6,c7,g,T,_=>⟨cs,ws,c6,c7,g,rfl,T⟩
 |k+1,j,cs,ws,c6,c7,g,T,hj=>by
  have z:=s ns (a+1+j) (by left);obtain⟨c,hl,y⟩:=JK Φ hn (bG ns (a+1+j)) (some (.lst .sc (ag ns))) (some (.int a)) e c3 (some (.cX .ow cs (ag ws))) (some (.int j)) [g,none];obtain⟨E,C⟩:=fC ((bG ns (a+1+j)).fdiv 4096) (b:=7) (by decide);have hw:cP cs ws c+1+((bG ns (a+1+j)).fdiv 4096).fmod 7=cP cs ws c+(1+((bG ns (a+1+j)).fdiv 4096).fmod 7):=by left
  have A:=T.put hl (i:=1+((bG ns (a+1+j)).fdiv 4096).fmod 7) (by left) (by left);obtain⟨m,l,o,p,q,t,r⟩:=Au Φ P s ns u hn e c3 k (j+1) _ _ (some (.int j)) (some (.int (bG ns (a+1+j)))) (some (.tup (ag c))) A (by left);have x:=λf=>O3 P f cs ws c;have B:=T.Ct;have v:=O0 P (cs:=cs) (by left) ws c (cP cs ws c+(1+((bG ns (a+1+j)).fdiv 4096).fmod 7));have x1:ib Φ yU [some (.lst .sc (ag ns)),some (.int a),e,c3,some (.int n),some (.cX .ow cs (ag ws)),some (.int j),some (.int (bG ns (a+1+j))),some (.tup (ag c)),none]=ok (.nx,[some (.lst .sc (ag ns)),some (.int a),e,c3,some (.int n),some (.cX .ow (dw cs c) (ag (cq cs ws c (cP cs ws c+(1+((bG ns (a+1+j)).fdiv 4096).fmod 7))))),some (.int j),some (.int (bG ns (a+1+j))),some (.tup (ag c)),none]):=by
   unfold yU;refine(xG (xs:=[.int (cP cs ws c+(1+((bG ns (a+1+j)).fdiv 4096).fmod 7)),.tup (ag c)]) (d:=.cX .ow cs (ag ws)) ?_ (by simp) rfl v).trans rfl;simp[x,hw]
  refine⟨m,l,o,p,q,?_,by rw[show j+(k+1)=j+1+k by left];exact r⟩;rw[List.range'_succ,dx];refine cQ (ρ1:=[some (.lst .sc (ag ns)),some (.int a),e,c3,some (.int n),some (.cX .ow cs (ag ws)),some (.int j),c7,g,none]) (by simp) (ρ2:=[some (.lst .sc (ag ns)),some (.int a),e,c3,some (.int n),some (.cX .ow (dw cs c) (ag (cq cs ws c (cP cs ws c+(1+((bG ns (a+1+j)).fdiv 4096).fmod 7))))),some (.int j),some (.int (bG ns (a+1+j))),some (.tup (ag c)),none]) ?_ t;simp[Hm,z,y,x1]
def pY{t b:Int}(c:b≠0):(Rat.divInt t b).den∣b.natAbs:=by
 obtain⟨j,a,o,i,m,e,l,k⟩:=o6 (t:=t) c;obtain⟨n,g⟩:=ub (t:=t) c;rw[show b.fdiv (gC t b)=a from e]at g;have d:(Rat.divInt t b).den=a.natAbs:=by left
 have:b.natAbs=(gC t b).natAbs*a.natAbs:=by rw[<- gr,<- i]
 rw[d,this];exact Nat.dvd_mul_left ..
def mP(m:au):Prop:=∀(ns:ae) (a:Int) (p:Nat),0<=a->1<=p->p<=12->∃n b,n<=p/\Dr 6 n b/\xo b/\m [.lst .sc (ag ns),.int a,.int p]=ok (.tup [.int n,.lst .ow (bL b)])
def Bg(Φ:aT)(P:GF Φ)(o:ql (Φ 200))(R:j5 (Φ 201)):mP (mk Φ 3 10 jZ):=by
 intro ns a p x U S;have K:=o ns a x;obtain⟨f1,Z⟩:=fC (bG ns a) (b:=(p:Int)) (by left);obtain⟨n,E⟩:∃n:Nat,1+(bG ns a).fmod p=(n:Int):=⟨(1+(bG ns a).fmod p).toNat,by left⟩
 obtain⟨Y,X⟩:=fC ((bG ns a).fdiv p) (b:=6) (by decide);obtain⟨k,G⟩:∃k:Nat,1+((bG ns a).fdiv p).fmod 6=(k:Int):=⟨(1+((bG ns a).fdiv p).fmod 6).toNat,by left⟩
 have M:Tab (qV n) 0 [] []:=⟨ab3,rfl,aaj _,(λ_ h=>nomatch h),(λ_ h=>nomatch h),by simp,λh=>by left⟩
 obtain⟨cs,ws,c6,c7,y,J,T⟩:=Au Φ P o ns x (n:=n) (by left) (some (.int p)) (some (.int ((bG ns a).fdiv p))) k 0 [] [] none none none M (by left);rw[p0]at T;have Q:=T.dr (n:=n) (by left) (by left) (by left) (by left);have F:dD .mod (.int (bG ns a)) (.int p)=ok (.int ((bG ns a).fmod p)):=qb (by left);have I:dD .fdiv (.int (bG ns a)) (.int p)=ok (.int ((bG ns a).fdiv p)):=qc (jG (by left) (tI (by left)));have O:Φ 1030 []=ok (.cX .ow [] []):=by rw[P.TU];rfl
 have j:bX Φ (.jr (.bin .add (.int 1) (.bin .mod (.v 3) (.int 6)))) [some (.lst .sc (ag ns)),some (.int a),some (.int p),some (.int ((bG ns a).fdiv p)),some (.int n),some (.cX .ow [] []),none,none,none,none]=ok ((List.range' 0 k).map λ(i:Nat)=>D.int (i:Int),[some (.lst .sc (ag ns)),some (.int a),some (.int p),some (.int ((bG ns a).fdiv p)),some (.int n),some (.cX .ow [] []),none,none,none,none]):=by
  rw[Bt (n:=k) (by simp[G]) (by left) (by left),dV,g8]
 have H:=dT (Φ:=Φ) (t:=.nm 6) (b:=Hm) j J;have s:(b5 cs).Perm cs:=abq _ _;have C:∀f,eK Φ (.cL 1100) [.cX f cs (ag ws)]=ok (cs.map gY):=λf=>by
  show bd (Φ 1100 _) mf=_;rw[P.TC];show ok (aw aI (cs.map gY))=_;rw[gO]
 have u:=T.Ct;have z:∀c,gY c=.tup (ag c):=λ_=>rfl;have l:∀r,bo Φ OW [some (.lst .sc (ag ns)),some (.int a),some (.int p),some (.int ((bG ns a).fdiv p)),some (.int n),some (.cX .ow cs (ag ws)),c6,c7,y,r]=ok (.lst .ow (ag (cs.map (cP cs ws)))):=λr=>by
  unfold OW;rw[bY (xs:=[.cX .al cs (ag ws)]) (by simp) (C _) (ds:=cs.map λc=>.int (cP cs ws c)) (bH λc g=>?_) (by simp;exact bA (by left))]
  ·simp[ag,aG]
  ·have e:=Lc P .fz T.ln g;exact⟨[some (.tup (ag c)),some (.cX .fz cs (ag ws))],by simp[bx,z],by simp,by simp[e]⟩
 rw[o_ T.nd T.ln]at l;have B:uT .ku [.lst .ow (ag ws)]=ok (.int ws.sum):=by
  show(match intsOf (ag ws)with|some ns=>ok (D.int ns.sum)|none=>none)=_;unfold ag;rw[bC]
 have W:1<=ws.sum/\ws.sum<=42:=by
  have V:=T.sum;refine⟨?_,by left⟩;obtain⟨c,g⟩:=List.exists_mem_of_ne_nil cs (T.ne (by left));obtain⟨w,e,m⟩:=lK T.ln g;have:=T.pos w m;have:=T.zN w m;left
 refine⟨n,ny cs ws,by left,Q,⟨ws.sum.toNat,by left,by left,λr q=>?_⟩,?_⟩
 ·unfold ny at q;obtain⟨c,_,rfl⟩:=List.mem_map.mp q;have h:ws.sum=((ws.sum.toNat:Nat):Int):=by left
  show(Rat.divInt (cP cs ws c) ws.sum).den∣_;have d:=pY (t:=cP cs ws c) (b:=ws.sum) (by left)
  rwa [show ws.sum.natAbs=ws.sum.toNat by left]at d
 have N:∀f,Φ 1035 [.cX f cs (ag ws)]=ok (.lst .ow ((b5 cs).map gY)):=λf=>by
  rw[P.TM];show(if cs.length<7 then ok (D.lst .ow ((b5 cs).map gY))else none)=_;rw[cc (by left)]
 have A:bo Φ OX [some (.lst .sc (ag ns)),some (.int a),some (.int p),some (.int ((bG ns a).fdiv p)),some (.int n),some (.cX .ow cs (ag ws)),c6,c7,y,some (.int ws.sum)]=ok (.lst .ow (bL (ny cs ws))):=by
  unfold OX;rw[bY (xs:=[.lst .ow ((b5 cs).map gY)]) (by simp[N]) (items:=(b5 cs).map gY) (by rw[b6,gO]) (ds:=(b5 cs).map λc=>rD (Rat.divInt (cP cs ws c) ws.sum,c)) (bH λc g=>?_) (by rw[b4];exact bA (by rw[s.length_eq];left))]
  ·have:((b5 cs).map λc=>rD (Rat.divInt (cP cs ws c) ws.sum,c))=bL (ny cs ws):=by unfold bL ny;rw[fb];rfl
   rw[this,pb]
  ·have e:=Lc P .fz T.ln (s.mem_iff.mp g);have L:=R (cP cs ws c) ws.sum (by left) (tI (by left));exact⟨[some (.tup (ag c)),some (.int ws.sum),some (.cX .fz cs (ag ws))],by simp[bx,z],by simp,by simp[e,L,rD]⟩
 simp[mk_eq,jZ,K,F,I,E,O];rw[H];simp[l,B,A]
def uM(m:au):Prop:=∀(N:Int) (n:Nat),n<=12->∃qs:aS,m [.int N,.int n]=ok (.lst .ow (a_ qs))/\qs.length=n/\∀q∈qs,Sm 3 q
noncomputable def nQ:af:=[.app 2 (.call 201 [(.bin .sub (.bin .mod (.v 0) (.int 13)) (.int 6)),(.bin .add (.int 1) (.bin .mod (.bin .fdiv (.v 0) (.int 13)) (.int 4)))]),.asg (.nm 0) (.bin .fdiv (.v 0) (.int 52))]
def om:af:=[.asg (.nm 2) (.lst []),.fr (.nm 3) (.jr (.v 1)) nQ,.ret (.v 2)]
theorem pf(Φ:aT)(i:j5 (Φ 201))(y:aJ):∀(ks:aa) (a:aS) (n:Int) (w:aJ),a.length+ks.length<=1000->(∀q∈a,Sm 3 q) ->
  ∃(qs:aS) (n' g:aJ),dC (λd ρ=>bU (.nm 3) d ρ) (λρ=>bE Φ nQ ρ) ks [some (.int n),y,some (.lst .ow (a_ a)),w]=ok (.nx,[n',y,some (.lst .ow (a_ qs)),g])/\qs.length=a.length+ks.length/\∀q∈qs,Sm 3 q
 |[],a,n,w,_,hs=>⟨a,some (.int n),w,rfl,rfl,hs⟩
 |k::ks,a,n,w,h,hs=>by
  simp only[cz]at h;obtain⟨u,t⟩:=fC n (b:=13) (by decide);obtain⟨r,o⟩:=fC (n.fdiv 13) (b:=4) (by decide);have e:=i (n.fmod 13 - 6) (1+(n.fdiv 13).fmod 4) (by left) (tI (by left));have sq:Sm 3 (Rat.divInt (n.fmod 13 - 6) (1+(n.fdiv 13).fmod 4)):=Ko (by left) (by left) (by left);generalize Rat.divInt (n.fmod 13 - 6) (1+(n.fdiv 13).fmod 4)=q at *;obtain⟨qs,n',g,m,l,s⟩:=pf Φ i y ks (a++[q]) (n.fdiv 52) (some k) (by simp;left) (λp c=>by
   rcases List.mem_append.mp c with c|c
   ·exact hs p c
   ·have:p=q:=by simpa using c
    subst this;exact sq)
  have j:a.length<du:=by show _<1000000;left
  refine⟨qs,n',g,cQ (ρ1:=[some (.int n),y,some (.lst .ow (a_ a)),some k]) (by simp) (ρ2:=[some (.int (n.fdiv 52)),y,some (.lst .ow (a_ (a++[q]))),some k]) ?_ m,by rw[l];simp;left,s⟩;simp[nQ,e,j]
def HF(Φ:aT)(g:j5 (Φ 201)):uM (mk Φ 2 4 om):=by
 intro N n m;have c:=Bt (Φ:=Φ) (a:=.v 1) (ρ:=[some (.int N),some (.int n),some (.lst .ow []),none]) (n:=n) (by simp) (by left) (by left);obtain⟨qs,j,i,e,l,s⟩:=pf Φ g (some (.int n)) ((List.range (n:Int).toNat).map λ(k:Nat)=>D.int (k:Int)) [] N none (by simp;left) (by simp);have d:=dT (t:=.nm 3) (b:=nQ) c e;refine⟨qs,?_,by simpa using l,s⟩;simp[mk_eq,om,d]
def mM(m:au):Prop:=∀n a,m [aQ n a]=ok (.tup [.int n,.lst .ow (bL a)])
noncomputable def jY:af:=[.ret (.tup [(.ix (.v 0) (.int 0)),(.bf .list1 [(.ix (.v 0) (.int 1))])])]
def Be(Φ:aT):mM (mk Φ 1 1 jY):=by
 intro n a;simp[mk_eq,jY,aQ]
def Av(f:Fl)(n:Nat)(rs:ai):D:=.tup [.int n,.lst f (bL rs)]
@[simp]theorem zP(g:Fl->Fl)(f:Fl)(n:Nat)(rs:ai):aE g (Av f n rs)=Av (g f) n rs:=by simp[Av]
@[simp]theorem VO(p:Fl->Bool)(f:Fl)(n:Nat)(rs:ai):bh p (Av f n rs)=p f:=by simp[Av]
@[simp]theorem XS(f:Fl)(n:Nat)(rs:ai):nV (Av f n rs) (.int 0)=ok (.int n):=by simp[Av]
noncomputable def eC(g h:Int)(r:Row):Bool:=decide (g∈r.2)&&decide (h∈r.2)
def aB(rs:ai)(g h:Int):Rat:=(cZ (rs.filter (eC g h))).sum
theorem pz(h:Int):∀ns:ae,inD (.int h) (ag ns)=decide (h∈ns)
 |[]=>rfl
 |x::xs=>by
  show(i9 (.int x) (.int h)||inD (.int h) (ag xs))=_;rw[n_,pz h xs];by_cases e:h=x<;>simp[e,eq_comm]
theorem mE:∀ns:ae,(ag ns).all eL=true
 |[]=>rfl
 |x::xs=>by show(eL (.int x)&&(ag xs).all eL)=true;rw[mE xs];rfl
def Lf(h:Int)(ns:ae):cY .vW (.int h) (.tup (ag ns))=ok (.bl (decide (h∈ns))):=by
 show(if eL (.int h)&&(ag ns).all eL then ok (D.bl (inD (.int h) (ag ns)))else none)=_;rw[mE,pz];rfl
noncomputable def Jy:CE:=.comp 2 (.tp [0,1]) [1,2] .seq [(.ix (.v 0) (.int 1))] [(.and [(.cmp .vW (.v 2) (.v 1)),(.cmp .vW (.v 3) (.v 1))])] (.v 0)
def oq:af:=[.asg (.nm 3) Jy,.ret (.call 2 [(.bf .ku [(.v 3)]),(.ix (.v 0) (.int 0))])]
def uN(m:au):Prop:=∀k n rs (g h:Int),Dr k n rs->m [.tup [.int (cU (cZ rs)),.lst .fz (oG (cU (cZ rs)) rs)],.int g,.int h]=ok (qD (aB rs g h))
def HH(Φ:aT)(t:fE (Φ 2)):uN (mk Φ 3 4 oq):=by
 intro k n c g h I;obtain⟨b0,b1,b2⟩:=I.bot;have d:=sG (b:=cU (cZ c)) (qs:=cZ (c.filter (eC g h))) b0 λq o=>by
  obtain⟨r,i,rfl⟩:=List.mem_map.mp o;exact b2 _ (aax ((List.mem_filter.mp i).1))
 generalize cU (cZ c)=b at *;have m:∀a,bo Φ Jy [some (.tup [.int b,.lst .fz (oG b c)]),some (.int g),some (.int h),a]=ok (.lst .ow (ag ((cZ (c.filter (eC g h))).map (dU b)))):=λa=>by
  unfold Jy;rw[bY (xs:=[.lst .fz (oG b c)]) (items:=c.map λr=>.tup [.int (dU b r.1),.tup (ag r.2)]) (ds:=(c.filter (eC g h)).map λr=>.int (dU b r.1)) (by simp) (by rw[b6,Em];rfl) (eB λr i=>⟨[some (.int (dU b r.1)),some (.tup (ag r.2)),some (.int g),some (.int h)],by simp[bx],by
   by_cases s:g∈r.2<;>by_cases p:h∈r.2<;>simp[Lf,eC,s,p],λ_=>by simp⟩) ?_]
  ·simp[ag,aG,cZ]
  ·have:=abB (eC g h) c;have:=I.len;rw[b4];exact bA (by left)
 have l:uT .ku [.lst .ow (ag ((cZ (c.filter (eC g h))).map (dU b)))]=ok (.int ((cZ (c.filter (eC g h))).map (dU b)).sum):=by
  show(match intsOf (ag ((cZ (c.filter (eC g h))).map (dU b)))with|some ns=>ok (D.int ns.sum)|none=>none)=_;unfold ag;rw[bC]
 have e:=t.1 ((cZ (c.filter (eC g h))).map (dU b)).sum b (by left) (by
  rw[qw];exact aal b1 (aaD (by decide) (by decide)))
 rw[d]at e;have j:∀f,uT .ku [.lst f (ag ((cZ (c.filter (eC g h))).map (dU b)))]=ok (.int ((cZ (c.filter (eC g h))).map (dU b)).sum):=λf=>l;simp[mk_eq,oq,Co Φ Jy _ rfl,m,j,e];rfl
def xr(n:Nat)(rs:ai):aS:=(List.range n).map λ(k:Nat)=>aB rs k k
def rH{rs:ai}{W:Nat}(e:∀r∈rs,r.1.den∣W)(i:0<W)(g h:Int):(aB rs g h).den∣W:=by
 have a:=sG (b:=W) (qs:=cZ (rs.filter (eC g h))) i λq d=>by
  obtain⟨r,c,rfl⟩:=List.mem_map.mp d;exact e _ ((List.mem_filter.mp c).1)
 unfold aB;rw[<- a];have:=pY (t:=((cZ (rs.filter (eC g h))).map (dU W)).sum) (b:=(W:Int)) (by left);simpa using this
theorem kh(p:Row->Bool):∀(rs:ai),(∀r∈rs,0<r.1)->0<=(cZ (rs.filter p)).sum/\(cZ (rs.filter p)).sum<=(cZ rs).sum
 |[],_=>by simp[cZ,Rat.le_refl]
 |r::rs,h=>by
  obtain⟨a,b⟩:=kh p rs λx d=>h x (aai _ d);have i:=h r aak;have e:(cZ (r::rs)).sum=r.1+(cZ rs).sum:=rfl;rw[e];cases c:p r with
  |true =>
   rw[nt c];have g:(cZ (r::rs.filter p)).sum=r.1+(cZ (rs.filter p)).sum:=rfl;rw[g];constructor<;>grind
  |false =>
   rw[nv (by simp[c])];constructor<;>grind
def jt{k n:Nat}{rs:ai}(I:Dr k n rs)(g h:Int):0<=aB rs g h/\aB rs g h<=1:=by
 have:=kh (eC g h) rs I.pos;have e:(cZ rs).sum=1:=I.one;rw[e]at this;exact this
def zk{q:Rat}{k:Nat}(c:0<=q)(b:q<=1)(a:q.den<2 ^ k):Sm k q:=by
 refine⟨?_,a⟩;have e:=gp q;have g:=q.den_pos;have d:0<=q.num:=Rat.num_nonneg.mpr c;have:q.num<=q.den:=by
  have:=b;rw[Rat.le_iff]at this;simpa using this
 left
def bO{k n:Nat}{rs:ai}(I:Dr k n rs)(g h:Int):Sm 61 (aB rs g h):=by
 obtain⟨b0,b1,b2⟩:=I.bot;obtain⟨b,a⟩:=jt I g h;have:=rH (rs:=rs) (W:=cU (cZ rs)) (λr c=>b2 _ (aax c)) b0 g h;exact zk b a (aaK (acb b0 this) b1)
def xV{k n:Nat}{rs:ai}(I:Dr k n rs)(F:xo rs)(g h:Int):Sm 6 (aB rs g h):=by
 obtain⟨W,a,w1,w2⟩:=F;obtain⟨c,b⟩:=jt I g h;have:=rH w2 a g h;exact zk c b (aaK (acb a this) w1)
@[simp]theorem Hx(n:Nat)(rs:ai):(xr n rs).length=n:=by simp[xr]
noncomputable def CW:af:=[.ifs (.and [(.cmp .vW (.v 2) (.v 7)),(.cmp .vW (.v 4) (.v 7))]) [.asg (.nm 5) (.call 202 [(.v 5),(.v 6)])] []]
def Hk:af:=[.asg (.nm 5) (.tup [(.int 0),(.int 1)]),.fr (.tp [6,7]) (.seq (.ix (.v 0) (.int 1))) CW,.app 3 (.v 5)]
def Hl:af:=[.asg (.nm 3) (.lst []),.fr (.nm 4) (.jr (.ix (.v 0) (.int 0))) Hk,.app 1 (.v 3)]
def lS:af:=[.asg (.nm 1) (.lst []),.fr (.nm 2) (.jr (.ix (.v 0) (.int 0))) Hl,.ret (.v 1)]
def ye(r:Row)(rs:ai)(g h:Int):aB (r::rs) g h=if eC g h r then r.1+aB rs g h else aB rs g h:=by
 unfold aB;cases e:eC g h r with
 |true=>rw[nt e];rfl
 |false=>rw[nv (by simp[e])];rfl
theorem tu(Φ:aT)(j:xi (Φ 202))(g h:Int)(c0 c1 c3:aJ):∀(rs:ai) (b:Rat) (i:Nat) (c6 c7:aJ),(∀r∈rs,Sm 6 r.1)->Sm (1+7*i) b->i+rs.length<=12 ->
  ∃c e,dC (λd ρ=>bU (.tp [6,7]) d ρ) (λρ=>bE Φ CW ρ) (bL rs) [c0,c1,some (.int g),c3,some (.int h),some (qD b),c6,c7]=ok (.nx,[c0,c1,some (.int g),c3,some (.int h),some (qD (b+aB rs g h)),c,e])
 |[],b,i,c6,c7,_,_,_=>⟨c6,c7,by simp[aB,cZ,bL,f9,Rat.add_zero]⟩
 |r::rs,b,i,c6,c7,hm,hs,hi=>by
  rw[cz]at hi;have m:=hm r aak;have z:=j b r.1 (hs.mono (by left)) (m.mono (by decide));have s:=(hs.add m).mono (l:=1+7*(i+1)) (by left);have q:=hs.mono (l:=1+7*(i+1)) (by left);have n:=λx t=>hm x (aai r t);have o:∀(a:aJ),bo Φ (.and [(.cmp .vW (.v 2) (.v 7)),(.cmp .vW (.v 4) (.v 7))]) [c0,c1,some (.int g),c3,some (.int h),a,some (qD r.1),some (.tup (ag r.2))]=ok (.bl (eC g h r)):=λa=>by
   by_cases y:g∈r.2<;>by_cases u:h∈r.2<;>simp[Lf,eC,y,u]
  rw[ye];cases p:eC g h r with
  |true =>
   obtain⟨c,e,k⟩:=tu Φ j g h c0 c1 c3 rs (b+r.1) (i+1) (some (qD r.1)) (some (.tup (ag r.2))) n s (by left);refine⟨c,e,cQ (ρ1:=[c0,c1,some (.int g),c3,some (.int h),some (qD b),some (qD r.1),some (.tup (ag r.2))]) (by simp[rD]) (ρ2:=[c0,c1,some (.int g),c3,some (.int h),some (qD (b+r.1)),some (qD r.1),some (.tup (ag r.2))]) ?_ ?_⟩
   ·rw[CW,cp,sA,o,p];simp[z]
   ·exact k.trans (by simp[Rat.add_assoc])
  |false =>
   obtain⟨c,e,k⟩:=tu Φ j g h c0 c1 c3 rs b (i+1) (some (qD r.1)) (some (.tup (ag r.2))) n q (by left);refine⟨c,e,cQ (ρ1:=[c0,c1,some (.int g),c3,some (.int h),some (qD b),some (qD r.1),some (.tup (ag r.2))]) (by simp[rD]) (ρ2:=[c0,c1,some (.int g),c3,some (.int h),some (qD b),some (qD r.1),some (.tup (ag r.2))]) ?_ ?_⟩
   ·rw[CW,cp,sA,o,p];simp
   ·exact k.trans (by simp)
theorem zG(Φ:aT)(o:xi (Φ 202)){n:Nat}{rs:ai}(I:Dr 6 n rs)(g:Int)(c1:aJ):∀(k j:Nat) (qs:aS) (c4 c5 c6 c7:aJ),j+k<=12->qs.length=j ->
  ∃l m a c,dC (λd ρ=>bU (.nm 4) d ρ) (λρ=>bE Φ Hk ρ) ((List.range' j k).map λ(i:Nat)=>D.int (i:Int)) [some (aQ n rs),c1,some (.int g),some (.lst .ow (a_ qs)),c4,c5,c6,c7] =
   ok (.nx,[some (aQ n rs),c1,some (.int g),some (.lst .ow (a_ (qs++(List.range' j k).map λ(i:Nat)=>aB rs g i))),l,m,a,c])
 |0,j,qs,c4,c5,c6,c7,_,_=>⟨c4,c5,c6,c7,by simp[f9]⟩
 |k+1,j,qs,c4,c5,c6,c7,hj,hq=>by
  have u:D.tup [.int 0,.int 1]=qD 0:=rfl;have p:=I.Ct;obtain⟨s,r,q⟩:=tu Φ o g j (some (aQ n rs)) c1 (some (.lst .ow (a_ qs))) rs 0 0 c6 c7 I.sm (by constructor<;>decide) (by left);rw[Rat.zero_add]at q;have x1:bo Φ (.ix (.v 0) (.int 1)) [some (aQ n rs),c1,some (.int g),some (.lst .ow (a_ qs)),some (.int j),some (qD 0),c6,c7]=ok (.lst .fz (bL rs)):=by simp[aQ]
  have e:bX Φ (.seq (.ix (.v 0) (.int 1))) [some (aQ n rs),c1,some (.int g),some (.lst .ow (a_ qs)),some (.int j),some (qD 0),c6,c7]=ok (bL rs,[some (aQ n rs),c1,some (.int g),some (.lst .ow (a_ qs)),some (.int j),some (qD 0),c6,c7]):=by
   rw[vU x1];simp
  have y:=dT (Φ:=Φ) (t:=.tp [6,7]) (b:=CW) e q;obtain⟨l,m,a,c,x⟩:=zG Φ o I g c1 k (j+1) (qs++[aB rs g j]) (some (.int j)) (some (qD (aB rs g j))) s r (by left) (by simp[hq]);rw[List.range'_succ,dx,dx];refine⟨l,m,a,c,cQ (ρ1:=[some (aQ n rs),c1,some (.int g),some (.lst .ow (a_ qs)),some (.int j),c5,c6,c7]) (by simp) (ρ2:=[some (aQ n rs),c1,some (.int g),some (.lst .ow (a_ (qs++[aB rs g j]))),some (.int j),some (qD (aB rs g j)),s,r]) ?_ ?_⟩
  ·have z:qs.length<du:=by show _<1000000;left
   simp[Hk,u,y,z]
  ·exact x.trans (by simp)
def bw(n:Nat)(rs:ai)(f:Fl)(j k:Nat):aa:=(List.range' j k).map λ(g:Nat)=>.lst f (a_ ((List.range' 0 n).map λ(h:Nat)=>aB rs g h))
theorem zH(Φ:aT)(u:xi (Φ 202)){n:Nat}{rs:ai}(I:Dr 6 n rs):∀(k j:Nat) (ds:aa) (e c3 c4 c5 c6 c7:aJ),j+k<=12->ds.length=j ->
  ∃o g q s l m,dC (λd ρ=>bU (.nm 2) d ρ) (λρ=>bE Φ Hl ρ) ((List.range' j k).map λ(i:Nat)=>D.int (i:Int)) [some (aQ n rs),some (.lst .ow ds),e,c3,c4,c5,c6,c7] =
   ok (.nx,[some (aQ n rs),some (.lst .ow (ds++bw n rs .ow j k)),o,g,q,s,l,m])
 |0,j,ds,e,c3,c4,c5,c6,c7,_,_=>⟨e,c3,c4,c5,c6,c7,by simp[f9,bw]⟩
 |k+1,j,ds,e,c3,c4,c5,c6,c7,hj,hq=>by
  have H:=I.n2;obtain⟨A,z,y,x,G⟩:=zG Φ u I j (some (.lst .ow ds)) n 0 [] c4 c5 c6 c7 (by left) rfl;have B:∀r:aX,bo Φ (.ix (.v 0) (.int 0)) (some (aQ n rs)::r)=ok (.int n):=λr=>by simp[aQ]
  have c:=Bt (Φ:=Φ) (a:=.ix (.v 0) (.int 0)) (ρ:=[some (aQ n rs),some (.lst .ow ds),some (.int j),some (.lst .ow (a_ [])),c4,c5,c6,c7]) (n:=n) (B _) (by left) (by left);rw[dV,g8]at c;have p:=dT (Φ:=Φ) (t:=.nm 4) (b:=Hk) c G;rw[fx]at p;obtain⟨o,g,q,s,l,m,C⟩:=zH Φ u I k (j+1) (ds++[.lst .ow (a_ ((List.range' 0 n).map λ(h:Nat)=>aB rs j h))]) (some (.int j)) none A z y x (by left) (by simp[hq]);have F:bw n rs .ow j (k+1)=.lst .ow (a_ ((List.range' 0 n).map λ(h:Nat)=>aB rs j h))::bw n rs .ow (j+1) k:=by unfold bw;rw[List.range'_succ,dx]
  rw[List.range'_succ,dx,F];have E:ds.length<du:=by show _<1000000;left
  have q0:a_ []=[]:=rfl;refine⟨o,g,q,s,l,m,cQ (ρ1:=[some (aQ n rs),some (.lst .ow ds),some (.int j),c3,c4,c5,c6,c7]) (by simp) (ρ2:=[some (aQ n rs),some (.lst .ow (ds++[.lst .ow (a_ ((List.range' 0 n).map λ(h:Nat)=>aB rs j h))])),some (.int j),none,A,z,y,x]) ?_ ?_⟩
  ·rw[q0]at p;simp[Hl,p,E]
  ·exact C.trans (by simp)
def qi(m:au):Prop:=∀n a,Dr 6 n a->m [aQ n a]=ok (.lst .ow (bw n a .ow 0 n))
def Dj(Φ:aT)(i:xi (Φ 202)):qi (mk Φ 1 8 lS):=by
 intro n d I;have k:=I.n2;obtain⟨s,q,p,o,m,l,j⟩:=zH Φ i I n 0 [] none none none none none none (by left) rfl;have g:∀r:aX,bo Φ (.ix (.v 0) (.int 0)) (some (aQ n d)::r)=ok (.int n):=λr=>by simp[aQ]
 have c:=Bt (Φ:=Φ) (a:=.ix (.v 0) (.int 0)) (ρ:=[some (aQ n d),some (.lst .ow []),none,none,none,none,none,none]) (n:=n) (g _) (by left) (by left);rw[dV,g8]at c;have e:=dT (Φ:=Φ) (t:=.nm 2) (b:=Hl) c j;rw[fx]at e;simp[mk_eq,lS,e]
noncomputable def Ju:CE:=.comp 1 (.nm 0) [1] .jr [(.ix (.v 0) (.int 0))] [] (.ix (.ix (.v 1) (.v 0)) (.v 0))
def jX:af:=[.asg (.nm 1) (.call 213 [(.v 0)]),.ret Ju]
def sy(m:au):Prop:=∀n a,Dr 6 n a->m [aQ n a]=ok (.lst .ow (a_ (xr n a)))
def ba(g:Fl->Fl)(n:Nat)(rs:ai)(f:Fl)(j k:Nat):aw g (bw n rs f j k)=bw n rs (g f) j k:=by
 unfold bw;rw[aG,fb];refine aay λx _=>?_;show aE g (.lst f (a_ _))=_;simp
def dA(g:Fl->Bool)(n:Nat)(rs:ai)(f:Fl)(j k:Nat)(h:g f=false):aU g (bw n rs f j k)=false:=dM g (λx=>by simp[h]) (List.range' j k)
def rF{n:Nat}{rs:ai}{k:Nat}(h:k<n):uH (bw n rs f 0 n) (k:Int)=ok (aE bg (.lst f (a_ ((List.range' 0 n).map λ(h:Nat)=>aB rs k h)))):=by
 have:=at_of (ds:=bw n rs f 0 n) (i:=(k:Int)) (d:=.lst f (a_ ((List.range' 0 n).map λ(h:Nat)=>aB rs k h))) (by left) (by
  rw[dV,bw,List.getElem?_map,List.getElem?_range' h];simp)
 exact this
def Bc(Φ:aT)(r:qi (Φ 213)):sy (mk Φ 1 2 jX):=by
 intro n a I;have s:=I.n2;have o:=r n a I;have g:aE aI (aQ n a)=aQ n a:=by simp[aQ]
 have c:aE bg (aQ n a)=aQ n a:=by simp[aQ]
 have j:aQ n a=.tup [.int n,.lst .fz (bL a)]:=rfl;have e:nV (aQ n a) (.int 0)=ok (.int n):=by rw[j];simp
 have i:bo Φ Ju [some (aQ n a),some (.lst .ow (bw n a .ow 0 n))]=ok (.lst .ow (a_ (xr n a))):=by
  unfold Ju;rw[bY (xs:=[.int n]) (ds:=(List.range n).map λ(k:Nat)=>qD (aB a k k)) (by simp[c,e]) (tS Φ (by omega) (by omega)) (bH λk b=>⟨[some (.int k),some (.lst .fz (bw n a .fz 0 n))],by simp[bx,ba],by simp,?_⟩) (by simp;exact bA (by omega))]
  ·simp[a_,xr,aG]
  ·rw[dV,l4]at b;have q:=rF (rs:=a) (f:=.fz) b;have d:=m8 (qs:=(List.range' 0 n).map λ(h:Nat)=>aB a k h) (h:=(k:Int)) (by left) (by simp;left);have p:uU ((List.range' 0 n).map λ(h:Nat)=>aB a k h) (k:Int)=aB a k k:=by
    unfold uU;rw[dV,fI,List.getElem?_map,List.getElem?_range' b];simp
   rw[p]at d;simp[ba,q,d]
 have m:eX .ow=.ow:=rfl;have l:=dA bK n a .ow 0 n rfl;simp[mk_eq,jX,Co Φ Ju _ rfl,g,c,o,i,ba,m,l]
theorem kX(Φ:aT):∀(a b:af) (ρ ρ':aX),bE Φ a ρ=ok (.nx,ρ')->bE Φ (a++b) ρ=bE Φ b ρ'
 |[],b,ρ,ρ',h=>by cases h;rfl
 |s::a,b,ρ,ρ',h=>by
  rw[cp]at h;rw[h9,cp];cases e:ib Φ s ρ with
  |none=>rw[e]at h;cases h
  |some r=>cases r with
   |error c=>rw[e]at h;cases h
   |ok r =>
    obtain⟨d,ρ1⟩:=r;rw[e]at h;cases d with
    |nx=>exact kX Φ a b ρ1 ρ' h
    |_=>cases h
noncomputable def Jw:CE:=.comp 1 (.nm 0) [1,3] .jr [(.ix (.v 0) (.int 0))] [] (.call 19 [(.v 1),(.v 2),(.v 0)])
def Hj:af:=[.app 2 Jw]
def fj:af:=[.ex (.call 17 [(.v 0)]),.asg (.nm 1) (.call 14 [(.ix (.v 0) (.int 1))]),.asg (.nm 2) (.lst []),.fr (.nm 3) (.jr (.ix (.v 0) (.int 0))) Hj,.ret (.v 2)]
def bF(m:au):Prop:=∀k n a,Dr k n a->m [aQ n a]=ok (.lst .ow (bw n a .ow 0 n))
theorem zw(Φ:aT)(c:uN (Φ 19)){d n:Nat}{rs:ai}(I:Dr d n rs):∀(k j:Nat) (ds:aa) (c3:aJ),j+k<=12->ds.length=j ->
  ∃a,dC (λd ρ=>bU (.nm 3) d ρ) (λρ=>bE Φ Hj ρ) ((List.range' j k).map λ(i:Nat)=>D.int (i:Int)) [some (aQ n rs),some (.tup [.int (cU (cZ rs)),.lst .ow (oG (cU (cZ rs)) rs)]),some (.lst .ow ds),c3] =
   ok (.nx,[some (aQ n rs),some (.tup [.int (cU (cZ rs)),.lst .ow (oG (cU (cZ rs)) rs)]),some (.lst .ow (ds++bw n rs .ow j k)),a])
 |0,j,ds,c3,_,_=>⟨c3,by simp[f9,bw]⟩
 |k+1,j,ds,c3,hj,hq=>by
  have s:=I.n2;have l:aE bg (aQ n rs)=aQ n rs:=by simp[aQ]
  have p:aQ n rs=.tup [.int n,.lst .fz (bL rs)]:=rfl;have g:nV (aQ n rs) (.int 0)=ok (.int n):=by rw[p];simp
  have m:bo Φ Jw [some (aQ n rs),some (.tup [.int (cU (cZ rs)),.lst .ow (oG (cU (cZ rs)) rs)]),some (.lst .ow ds),some (.int j)]=ok (.lst .ow (a_ ((List.range' 0 n).map λ(h:Nat)=>aB rs j h))):=by
   unfold Jw;rw[bY (xs:=[.int n]) (ds:=(List.range n).map λ(h:Nat)=>qD (aB rs j h)) (by simp[l,g]) (tS Φ (by left) (by left)) (bH λb t=>?_) (by simp;exact bA (by left))]
   ·simp[a_,aG,g8]
   ·have e:=c d n rs j b I;exact⟨[some (.int b),some (.tup [.int (cU (cZ rs)),.lst .fz (oG (cU (cZ rs)) rs)]),some (.int j)],by simp[bx],by simp,by simp[e]⟩
  obtain⟨a,o⟩:=zw Φ c I k (j+1) (ds++[.lst .ow (a_ ((List.range' 0 n).map λ(h:Nat)=>aB rs j h))]) (some (.int j)) (by left) (by simp[hq]);have r:bw n rs .ow j (k+1)=.lst .ow (a_ ((List.range' 0 n).map λ(h:Nat)=>aB rs j h))::bw n rs .ow (j+1) k:=by unfold bw;rw[List.range'_succ,dx]
  rw[List.range'_succ,dx,r];have q:ds.length<du:=by show _<1000000;left
  refine⟨a,cQ (ρ1:=[some (aQ n rs),some (.tup [.int (cU (cZ rs)),.lst .ow (oG (cU (cZ rs)) rs)]),some (.lst .ow ds),some (.int j)]) (by simp) (ρ2:=[some (aQ n rs),some (.tup [.int (cU (cZ rs)),.lst .ow (oG (cU (cZ rs)) rs)]),some (.lst .ow (ds++[.lst .ow (a_ ((List.range' 0 n).map λ(h:Nat)=>aB rs j h))])),some (.int j)]) ?_ ?_⟩
  ·simp[Hj,Co Φ Jw _ rfl,m,q]
  ·exact o.trans (by simp)
def Bb(Φ:aT)(u:j0 (Φ 14))(s:qk (Φ 17))(q:uN (Φ 19)):bF (mk Φ 1 4 fj):=by
 intro k n c I;have x:=I.n2;have p:=s k n c I;have o:=u c k I.WZ;have i:aE bg (aQ n c)=aQ n c:=by simp[aQ]
 have j:aE aI (aQ n c)=aQ n c:=by simp[aQ]
 have l:aQ n c=.tup [.int n,.lst .fz (bL c)]:=rfl;have x1:nV (aQ n c) (.int 1)=ok (.lst .fz (bL c)):=by rw[l];simp
 have g:∀r:aX,bo Φ (.ix (.v 0) (.int 0)) (some (aQ n c)::r)=ok (.int n):=λr=>by simp[aQ]
 obtain⟨y,m⟩:=zw Φ q I n 0 [] none (by left) rfl;have d:=Bt (Φ:=Φ) (a:=.ix (.v 0) (.int 0)) (ρ:=[some (aQ n c),some (.tup [.int (cU (cZ c)),.lst .ow (oG (cU (cZ c)) c)]),some (.lst .ow []),none]) (n:=n) (g _) (by left) (by left);rw[dV,g8]at d;have e:=dT (Φ:=Φ) (t:=.nm 3) (b:=Hj) d m;rw[fx]at e;simp[mk_eq,fj,j,i,x1,p,o,e]
noncomputable def iC(p:Int×Int):D:=.tup [.int p.1,.int p.2]
def bN(ps:List (Int×Int)):aa:=ps.map iC
@[simp]theorem Iv(g:Fl->Fl)(p:Int×Int):aE g (iC p)=iC p:=by unfold iC;simp
@[simp]theorem I_(g:Fl->Bool)(p:Int×Int):bh g (iC p)=false:=by unfold iC;simp
@[simp]theorem jU(g:Fl->Fl)(ps:List (Int×Int)):aw g (bN ps)=bN ps:=e_ g (Iv g) ps
@[simp]theorem rP(g:Fl->Bool)(ps:List (Int×Int)):aU g (bN ps)=false:=dM g (I_ g) ps
@[simp]theorem QE(ps:List (Int×Int)):(bN ps).length=ps.length:=abJ ..
noncomputable def jf(hs a:ae):List (Int×Int):=a.flatMap λg=>hs.map λh=>(g,h)
noncomputable def JF:CE:=.comp 1 (.nm 0) [2] .seq [(.v 0)] [] (.tup [(.v 1),(.v 0)])
def Hn:af:=[.mut 1013 1 [JF]]
def uF:af:=[.asg (.nm 1) (.lst []),.fr (.nm 2) (.seq (.v 0)) Hn,.ret (.v 1)]
noncomputable def lR:af:=[.ret (.ix (.ix (.v 0) (.ix (.v 1) (.int 0))) (.ix (.v 1) (.int 1)))]
noncomputable def uE:af:=[.ret (.call 6 [(.ix (.ix (.v 0) (.ix (.v 1) (.int 0))) (.ix (.v 1) (.int 0))),(.ix (.ix (.v 0) (.ix (.v 1) (.int 1))) (.ix (.v 1) (.int 1)))])]
def gD(m:au):Prop:=∀n rs (g h:Nat),g<n->h<n->m [.lst .fz (bw n rs .fz 0 n),iC (g,h)]=ok (qD (aB rs g h))
def y7(m:au):Prop:=∀k n rs (g h:Nat),Dr k n rs->g<n->h<n->m [.lst .fz (bw n rs .fz 0 n),iC (g,h)]=ok (qD (aB rs g g*aB rs h h))
def mj{n:Nat}{rs:ai}{g h:Nat}(b:h<n):uH (a_ ((List.range' 0 n).map λ(h:Nat)=>aB rs g h)) (h:Int)=ok (qD (aB rs g h)):=by
 have a:=m8 (qs:=(List.range' 0 n).map λ(h:Nat)=>aB rs g h) (h:=(h:Int)) (by left) (by simp;left);have c:uU ((List.range' 0 n).map λ(h:Nat)=>aB rs g h) (h:Int)=aB rs g h:=by
  unfold uU;rw[dV,fI,List.getElem?_map,List.getElem?_range' b];simp
 rw[c]at a;exact a
@[simp]theorem XR(p:Int×Int):nV (iC p) (.int 0)=ok (.int p.1):=by unfold iC;simp
@[simp]theorem XQ(p:Int×Int):nV (iC p) (.int 1)=ok (.int p.2):=by unfold iC;simp
def Di(Φ:aT):gD (mk Φ 2 2 lR):=by
 intro n a g h c b;have e:=rF (rs:=a) (f:=.fz) c;have d:=mj (rs:=a) (g:=g) b;simp[mk_eq,lR,ba,e,d]
def Mo(Φ:aT)(d:oy (Φ 6)):y7 (mk Φ 2 2 uE):=by
 intro k n a g h I c b;have m:=rF (rs:=a) (f:=.fz) c;have l:=mj (rs:=a) (g:=g) c;have j:=rF (rs:=a) (f:=.fz) b;have i:=mj (rs:=a) (g:=h) b;have e:=d _ _ ((bO I g g).mono (by decide)) ((bO I h h).mono (by decide));simp[mk_eq,uE,ba,m,l,j,i,e]
def My(rs:ai)(ws xs:aS)(g h:Int):Rat:=(aB rs g h - aB rs g g*aB rs h h)*(uU ws g*uU xs g*(uU ws h*uU xs h))
noncomputable def oj:af:=[.asg (.nm 4) (.call 6 [(.ix (.v 2) (.ix (.v 1) (.int 0))),(.ix (.v 3) (.ix (.v 1) (.int 0)))]),.asg (.nm 5) (.call 6 [(.ix (.v 2) (.ix (.v 1) (.int 1))),(.ix (.v 3) (.ix (.v 1) (.int 1)))]),.ret (.call 6 [(.call 5 [(.call 62 [(.v 0),(.v 1)]),(.call 61 [(.v 0),(.v 1)])]),(.call 6 [(.v 4),(.v 5)])])]
def AU(m:au):Prop:=∀k n rs f f' ws xs j (g h:Nat),Dr k n rs->Gs j n ws xs->g<n->h<n->m [.lst .fz (bw n rs .fz 0 n),iC (g,h),.lst f (a_ ws),.lst f' (a_ xs)]=ok (qD (My rs ws xs g h))
def HD(Φ:aT)(q:y6 (Φ 5))(a:oy (Φ 6))(D:y7 (Φ 61))(E:gD (Φ 62)):AU (mk Φ 4 6 oj):=by
 intro k n m f K ws xs j g h I G p o;have J:=G.jj;have H:=G.l1;have F:=G.l2;have e:=G.s1 _ (cj (qs:=ws) (h:=(g:Int)) (by left) (by left)).2;have d:=G.s1 _ (cj (qs:=ws) (h:=(h:Int)) (by left) (by left)).2;have c:=G.s2 _ (cj (qs:=xs) (h:=(g:Int)) (by left) (by left)).2;have b:=G.s2 _ (cj (qs:=xs) (h:=(h:Int)) (by left) (by left)).2;have C:=m8 (qs:=ws) (h:=(g:Int)) (by left) (by left);have B:=m8 (qs:=ws) (h:=(h:Int)) (by left) (by left);have A:=m8 (qs:=xs) (h:=(g:Int)) (by left) (by left);have z:=m8 (qs:=xs) (h:=(h:Int)) (by left) (by left);have y:=a _ _ (e.mono (by left)) (c.mono (by left));have x:=a _ _ (d.mono (by left)) (b.mono (by left));have v:=a _ _ ((e.mul c).mono (by left)) ((d.mul b).mono (by left));have u:=D k n m g h I p o;have t:=E n m g h p o;have l:=bO I g h;have i:=(bO I g g).mul (bO I h h);have s:=q _ _ (l.mono (by decide)) (i.mono (by decide));have r:=a _ _ ((l.sub i).mono (by decide)) (((e.mul c).mul (d.mul b)).mono (by left));simp[mk_eq,oj,ba,C,B,A,z,y,x,v,u,t,s,r];rfl
def Gq{hs a:ae}{p:Int×Int}:p∈jf hs a ↔ p.1∈a/\p.2∈hs:=by
 unfold jf;simp only[List.mem_flatMap,List.mem_map];constructor
 ·rintro ⟨g,c,h,b,rfl⟩;exact⟨c,b⟩
 ·rintro ⟨e,d⟩;exact⟨p.1,e,p.2,d,rfl⟩
theorem xd(hs:ae):∀a:ae,(jf hs a).length=a.length*hs.length
 |[]=>by simp[jf]
 |g::a=>by
  have e:jf hs (g::a)=(hs.map λh=>(g,h))++jf hs a:=by simp[jf]
  rw[e,c8,b4,xd hs a,cz,pF];left
def AV(m:au):Prop:=∀a,a.length<=12->m [.tup (ag a)]=ok (.lst .ow (bN (jf a a)))
theorem w_(Φ:aT)(j:Φ 1013=yE)(hs:ae)(hl:hs.length<=12):∀(b:ae) (a:List (Int×Int)) (c:aJ),a.length+12*b.length<=200 ->
  ∃e,dC (λd ρ=>bU (.nm 2) d ρ) (λρ=>bE Φ Hn ρ) (ag b) [some (.tup (ag hs)),some (.lst .ow (bN a)),c]=ok (.nx,[some (.tup (ag hs)),some (.lst .ow (bN (a++jf hs b))),e])
 |[],a,c,_=>⟨c,by simp[f9,jf]⟩
 |g::b,a,c,h=>by
  rw[cz]at h;have k:bo Φ JF [some (.tup (ag hs)),some (.lst .ow (bN a)),some (.int g)]=ok (.lst .ow (bN (hs.map λh=>(g,h)))):=by
   unfold JF;rw[bY (xs:=[.tup (ag hs)]) (items:=hs.map D.int) (ds:=hs.map λh=>iC (g,h)) (by simp) (by rw[tR,eA];rfl) (bH λh o=>⟨[some (.int h),some (.int g)],by simp[bx],by simp,by simp[iC]⟩) (by simp;exact bA (by left))];simp[bN,aG]
  have n:Φ 1013 [.lst .ow (bN a),.lst .ow (bN (hs.map λh=>(g,h)))]=ok (.lst .ow (bN (a++hs.map λh=>(g,h)))):=by
   rw[j];show(if aU anyF (bN (hs.map λh=>(g,h)))=false/\(bN a).length+(bN (hs.map λh=>(g,h))).length<=du then ok (D.lst .ow (bN a++bN (hs.map λh=>(g,h))))else none)=_;rw[cc ⟨rP _ _,by simp;exact bA (by left)⟩];unfold bN;rw[f6]
  have m:=xG (Φ:=Φ) (p:=1013) (i:=1) (es:=[JF]) (ρ:=[some (.tup (ag hs)),some (.lst .ow (bN a)),some (.int g)]) (xs:=[.lst .ow (bN (hs.map λh=>(g,h)))]) (by simp[k]) (by simp) rfl n;obtain⟨e,l⟩:=w_ Φ j hs hl b (a++hs.map λh=>(g,h)) (some (.int g)) (by simp;left);refine⟨e,cQ (ρ1:=[some (.tup (ag hs)),some (.lst .ow (bN a)),some (.int g)]) (by simp) (ρ2:=[some (.tup (ag hs)),some (.lst .ow (bN (a++hs.map λh=>(g,h)))),some (.int g)]) ?_ ?_⟩
  ·rw[Hn,cp,m];simp
  ·exact l.trans (by simp[jf])
def HL(Φ:aT)(g:Φ 1013=yE):AV (mk Φ 1 3 uF):=by
 intro a hl;obtain⟨c,i⟩:=w_ Φ g a hl a [] none (by simp;left);have d:bX Φ (.seq (.v 0)) [some (.tup (ag a)),some (.lst .ow []),none]=ok (ag a,[some (.tup (ag a)),some (.lst .ow []),none]):=by
  rw[Nt (ds:=ag a) (by simp)];simp
 have e:=dT (Φ:=Φ) (t:=.nm 2) (b:=Hn) d i;rw[fx]at e;simp[mk_eq,uF,e]
noncomputable def eV:ae->List (Int×Int)
 |[]=>[]
 |g::gs=>gs.map (λh=>(g,h))++eV gs
def y4(m:au):Prop:=∀a,a.length<=12->m [.tup (ag a)]=ok (.lst .ow (bN (eV a)))
noncomputable def oP:af:=[.ifs (.cmp .eq (.ix (.v 2) (.int 0)) (.int 0)) [.rs 6] []]
def rl:af:=[.fr (.nm 2) (.seq (.v 1)) oP]
def iT:af:=[.fr (.nm 1) (.seq (.v 0)) rl]
def dS(m:au):Prop:=∀n a,n<=12->(∀g h:Nat,g<n->h<n->0<aB a g h)->m [.lst .fz (bw n a .fz 0 n)]=ok .bP
theorem pZ(Φ:aT)(c0 c1:aJ):∀(qs:aS) (a:aJ),(∀q∈qs,0<q)->∃b,dC (λd ρ=>bU (.nm 2) d ρ) (λρ=>bE Φ oP ρ) (a_ qs) [c0,c1,a]=ok (.nx,[c0,c1,b])
 |[],a,_=>⟨a,rfl⟩
 |q::qs,a,h=>by
  have i:=ie (h q aak);obtain⟨b,e⟩:=pZ Φ c0 c1 qs (some (qD q)) λp g=>h p (aai _ g);have c:cY .eq (.int q.num) (.int 0)=ok (.bl false):=by
   rw[kf rfl rfl];show ok (D.bl (q.num==0))=_;rw[beq_eq_false_iff_ne.mpr (by left)]
  refine⟨b,cQ (ρ1:=[c0,c1,some (qD q)]) (by simp) (ρ2:=[c0,c1,some (qD q)]) ?_ e⟩;simp[oP,c]
theorem wK(Φ:aT){n:Nat}{rs:ai}(m:∀g h:Nat,g<n->h<n->0<aB rs g h)(c0:aJ):∀(k j:Nat) (c1 a:aJ),j+k<=n->∃l c,dC (λd ρ=>bU (.nm 1) d ρ) (λρ=>bE Φ rl ρ) (bw n rs .fz j k) [c0,c1,a]=ok (.nx,[c0,l,c])
 |0,j,c1,a,_=>⟨c1,a,rfl⟩
 |k+1,j,c1,a,h=>by
  obtain⟨o,y⟩:=pZ Φ c0 (some (.lst .fz (a_ ((List.range' 0 n).map λ(h:Nat)=>aB rs j h)))) ((List.range' 0 n).map λ(h:Nat)=>aB rs j h) a λq r=>by
   obtain⟨i,s,rfl⟩:=List.mem_map.mp r;have:=List.mem_range'_1.mp s;exact m j i (by left) (by left)
  have e:bX Φ (.seq (.v 1)) [c0,some (.lst .fz (a_ ((List.range' 0 n).map λ(h:Nat)=>aB rs j h))),a]=ok (a_ ((List.range' 0 n).map λ(h:Nat)=>aB rs j h),[c0,some (.lst .fz (a_ ((List.range' 0 n).map λ(h:Nat)=>aB rs j h))),a]):=by
   rw[vU (f:=.fz) (ds:=a_ ((List.range' 0 n).map λ(h:Nat)=>aB rs j h)) (by simp)];simp
  have u:=dT (Φ:=Φ) (t:=.nm 2) (b:=oP) e y;obtain⟨l,c,p⟩:=wK Φ m c0 k (j+1) (some (.lst .fz (a_ ((List.range' 0 n).map λ(h:Nat)=>aB rs j h)))) o (by left);have x:bw n rs .fz j (k+1)=.lst .fz (a_ ((List.range' 0 n).map λ(h:Nat)=>aB rs j h))::bw n rs .fz (j+1) k:=by unfold bw;rw[List.range'_succ,dx]
  rw[x];refine⟨l,c,cQ (ρ1:=[c0,some (.lst .fz (a_ ((List.range' 0 n).map λ(h:Nat)=>aB rs j h))),a]) (by simp) (ρ2:=[c0,some (.lst .fz (a_ ((List.range' 0 n).map λ(h:Nat)=>aB rs j h))),o]) ?_ p⟩;rw[rl,cp,u];rfl
def HK(Φ:aT):dS (mk Φ 1 3 iT):=by
 intro n a i e;obtain⟨c1,j,g⟩:=wK Φ e (some (.lst .fz (bw n a .fz 0 n))) n 0 none none (by left);have c:bX Φ (.seq (.v 0)) [some (.lst .fz (bw n a .fz 0 n)),none,none]=ok (bw n a .fz 0 n,[some (.lst .fz (bw n a .fz 0 n)),none,none]):=by
  rw[vU (f:=.fz) (ds:=bw n a .fz 0 n) (by simp[ba])];have:=dA bK n a .fz 0 n rfl;simp[ba,this]
 have d:=dT (Φ:=Φ) (t:=.nm 1) (b:=rl) c g;simp[mk_eq,iT,d]
noncomputable def JB:CE:=.comp 2 (.tp [0,1]) [] .seq [(.ix (.v 1) (.int 1))] [] (.v 1)
def kL:af:=[.ifs (.or [(.not (.call 11 [(.v 0),(.ix (.v 1) (.int 0))])),(.cL 1043 [(.v 0),JB])]) [.rs 7] []]
def hU(m:au):Prop:=∀k n a r,Dr k n a->r∈a->m [.tup (ag r.2),aQ n a]=ok .bP
def Mm(Φ:aT)(p:iz (Φ 11))(o:Φ 1043=nqD):hU (mk Φ 2 2 kL):=by
 intro k n a r I c;have hl:=I.lot r c;have g:=p (.tup (ag r.2)) n (hl.du I.n2);rw[hl.jw]at g;have e:aE bg (aQ n a)=aQ n a:=by simp[aQ]
 have j:aE aI (aQ n a)=aQ n a:=by simp[aQ]
 have b:aQ n a=.tup [.int n,.lst .fz (bL a)]:=rfl;have i:nV (aQ n a) (.int 0)=ok (.int n):=by rw[b];simp
 have x1:nV (aQ n a) (.int 1)=ok (.lst .fz (bL a)):=by rw[b];simp
 have l:bo Φ JB [some (.tup (ag r.2)),some (aQ n a)]=ok (.lst .ow (gR a)):=by
  unfold JB;rw[bY (xs:=[.lst .fz (bL a)]) (items:=bL a) (ds:=a.map λr=>.tup (ag r.2)) (by simp[e,x1]) (by rw[b6];simp) (bH λr c=>?_) (by simp;exact bA (by have:=I.len;left))]
  ·exact aaI (λx=>ok (D.lst .ow x)) (kA eX a)
  ·exact⟨[some (qD r.1),some (.tup (ag r.2))],by simp[bx,rD],by simp,by simp⟩
 have m:Φ 1043 [.tup (ag r.2),.lst .ow (gR a)]=ok (.bl false):=by
  rw[o];show(if eJ 8 (.tup (ag r.2))=true/\(gR a).all (eJ 8)=true then ok (D.bl (!(gR a).any λd=>i9 d (.tup (ag r.2))))else none)=_;rw[cc ⟨rJ 7 r.2,by
   rw[gv];intro d b;unfold gR at b;obtain⟨s,_,rfl⟩:=List.mem_map.mp b;exact rJ 7 s.2⟩]
  have:((gR a).any λd=>i9 d (.tup (ag r.2)))=true:=by
   rw[ng];refine⟨.tup (ag r.2),by unfold gR;exact aax c,?_⟩;show ff (ag r.2) (ag r.2)=true;rw[wz];simp
  rw[this];rfl
 simp[mk_eq,kL,j,e,i,g,l,m]
noncomputable def BZ:CE:=.comp 2 (.tp [0,1]) [] .seq [(.ix (.v 0) (.int 1))] [] (.bf .len [(.v 1)])
def iR:af:=[.ifs (.cmp .ne (.cL 1042 [BZ]) (.int 1)) [.rs 5] []]
def dR(m:au):Prop:=∀k n rs (z:Nat),Dr k n rs->(∀r∈rs,r.2.length=z)->m [aQ n rs]=ok .bP
def B3(z:Int):∀(m:Nat),(eY (List.replicate (m+1) z)).length=1:=λm=>by
 unfold eY;rw[gb,g5];have:∀m:Nat,(List.replicate m z).foldl (λ(m:ae) (k:Int)=>if m.any (· == k)then m else m++[k]) [z]=[z]:=λm=>by
  induction m with
  |zero=>rfl
  |succ m a =>
   rw[gb,g5];have:([z].any (· == z))=true:=by simp
   rw[cc this,a]
 have e:(if (([]:ae).any (· == z))=true then([]:ae)else[]++[z])=[z]:=rfl;rw[e,this];rfl
def HE(Φ:aT)(q:Φ 1042=vO):dR (mk Φ 1 1 iR):=by
 intro k n a z I l;have hlen:=I.len;obtain⟨m,o⟩:∃m,a.length=m+1:=⟨a.length - 1,by have:=I.some;left⟩
 have i:aE bg (aQ n a)=aQ n a:=by simp[aQ]
 have b:aQ n a=.tup [.int n,.lst .fz (bL a)]:=rfl;have x1:nV (aQ n a) (.int 1)=ok (.lst .fz (bL a)):=by rw[b];simp
 have j:bo Φ BZ [some (aQ n a)]=ok (.lst .ow (ag (List.replicate (m+1) (z:Int)))):=by
  unfold BZ;rw[bY (xs:=[.lst .fz (bL a)]) (items:=bL a) (ds:=a.map λr=>.int (r.2.length:Int)) (by simp[i,x1]) (by rw[b6];simp) (bH λr g=>?_) (by simp;exact bA (by left))]
  ·have e:(a.map λr=>D.int (r.2.length:Int))=ag (List.replicate (m+1) (z:Int)):=by
    rw[<- o];unfold ag;rw[rj];refine List.eq_replicate_iff.mpr ⟨by simp,λd b=>?_⟩;obtain⟨r,g,rfl⟩:=List.mem_map.mp b;rw[l r g]
   rw[e];simp
  ·exact⟨[some (qD r.1),some (.tup (ag r.2))],by simp[bx,rD],by simp,by simp⟩
 have p:Φ 1042 [.lst .ow (ag (List.replicate (m+1) (z:Int)))]=ok (.int 1):=by
  rw[q];show(match intsOf (ag (List.replicate (m+1) (z:Int)))with|some ns=>if ns.length<4000 then ok (D.int (eY ns).length)else none|none=>none)=_;unfold ag;rw[bC];show(if (List.replicate (m+1) (z:Int)).length<4000 then ok (D.int (eY (List.replicate (m+1) (z:Int))).length)else none)=_;rw[cc (by rw[fc];left),B3];rfl
 have c:cY .ne (.int 1) (.int 1)=ok (.bl false):=rfl;simp[mk_eq,iR,j,p,c]
def pI(rs:ai)(xs:aS)(g h:Int):Rat:=(aB rs g g*aB rs h h - aB rs g h)*((uU xs g / aB rs g g - uU xs h / aB rs h h)*(uU xs g / aB rs g g - uU xs h / aB rs h h))
noncomputable def AL:af:=[.asg (.nm 3) (.call 7 [(.ix (.v 2) (.ix (.v 1) (.int 0))),(.ix (.ix (.v 0) (.ix (.v 1) (.int 0))) (.ix (.v 1) (.int 0)))]),.asg (.nm 4) (.call 7 [(.ix (.v 2) (.ix (.v 1) (.int 1))),(.ix (.ix (.v 0) (.ix (.v 1) (.int 1))) (.ix (.v 1) (.int 1)))]),.asg (.nm 5) (.call 5 [(.v 3),(.v 4)]),.ret (.call 6 [(.call 5 [(.call 61 [(.v 0),(.v 1)]),(.call 62 [(.v 0),(.v 1)])]),(.call 6 [(.v 5),(.v 5)])])]
def Gx(m:au):Prop:=∀k n rs f xs j (g h:Nat),Dr k n rs->xs.length=n->(∀q∈xs,Sm j q)->j<=100->g<n->h<n->0<aB rs g g->0<aB rs h h->m [.lst .fz (bw n rs .fz 0 n),iC (g,h),.lst f (a_ xs)]=ok (qD (pI rs xs g h))
def Rh(Φ:aT)(y:y6 (Φ 5))(x:oy (Φ 6))(v:J_ (Φ 7))(M:y7 (Φ 61))(N:gD (Φ 62)):Gx (mk Φ 3 6 AL):=by
 intro k n a f xs j g h I O l P d c s r;have u:aB a g g≠0:=λz=>by rw[z]at s;exact absurd s (by decide)
 have t:aB a h h≠0:=λz=>by rw[z]at r;exact absurd r (by decide)
 have i:=l _ (cj (qs:=xs) (h:=(g:Int)) (by left) (by left)).2;have e:=l _ (cj (qs:=xs) (h:=(h:Int)) (by left) (by left)).2;have L:=m8 (qs:=xs) (h:=(g:Int)) (by left) (by left);have K:=m8 (qs:=xs) (h:=(h:Int)) (by left) (by left);have b1:=rF (rs:=a) (f:=.fz) d;have b2:=mj (rs:=a) (g:=g) d;have b3:=rF (rs:=a) (f:=.fz) c;have J:=mj (rs:=a) (g:=h) c;have H:=v.1 _ _ (i.mono (by left)) ((bO I g g).mono (by decide)) u;have G:=v.1 _ _ (e.mono (by left)) ((bO I h h).mono (by decide)) t;have q:=i.div (bO I g g) u;have p:=e.div (bO I h h) t;have F:=y _ _ (q.mono (by left)) (p.mono (by left));have b:=q.sub p;have E:=x _ _ (b.mono (by left)) (b.mono (by left));have D:=M k n a g h I d c;have C:=N n a g h d c;have o:=bO I g h;have m:=(bO I g g).mul (bO I h h);have B:=y _ _ (m.mono (by decide)) (o.mono (by decide));have A:=x _ _ ((m.sub o).mono (by decide)) ((b.mul b).mono (by left));simp[mk_eq,AL,ba,L,K,b1,b2,b3,J,H,G,F,E,D,C,B,A];rfl
def sgQ(rs:ai)(ws xs:aS)(a:ae):Rat:=((jf a a).map λp=>My rs ws xs p.1 p.2 / aB rs p.1 p.2).sum
def ggQ(rs:ai)(xs:aS)(a:ae):Rat:=((eV a).map λp=>pI rs xs p.1 p.2 / aB rs p.1 p.2).sum
noncomputable def Jv:CE:=.comp 1 (.nm 0) [4,1,3] .seq [(.call 60 [(.v 2)])] [] (.call 7 [(.call 63 [(.v 1),(.v 0),(.v 2),(.v 3)]),(.call 62 [(.v 1),(.v 0)])])
def qR:af:=[.asg (.nm 4) (.call 21 [(.v 0)]),.ex (.call 57 [(.v 4)]),.ex (.call 58 [(.v 2),(.v 0)]),.ex (.call 46 [(.v 1),(.ix (.v 0) (.int 0))]),.ex (.call 47 [(.v 3),(.ix (.v 0) (.int 0))]),.asg (.nm 5) Jv,.ret (.call 42 [(.v 5)])]
def xj(m:au):Prop:=∀k n a r f g ws xs j i,Dr k n a->r∈a->Gs j n ws xs->(∀g h,Sm i (aB a g h))->(∀g h:Nat,g<n->h<n->0<aB a g h)->(4*i+1+4*j)*(r.2.length*r.2.length)<=3000->m [aQ n a,.lst f (a_ ws),.tup (ag r.2),.lst g (a_ xs)]=ok (qD (sgQ a ws xs r.2))
def qV.nat{n:Nat}{l:ae}(h:qV n l){x:Int}(b:x∈l):∃a:Nat,a<n/\x=a:=⟨x.toNat,by have:=h.2 x b;left,by have:=h.2 x b;left⟩
def Dh(Φ:aT)(Z:J_ (Φ 7))(eW:bF (Φ 21))(Tu:gg (Φ 42))(GW:cW 3 cH (Φ 46))(K:cW 4 cH (Φ 47))(T:dS (Φ 57))(M:hU (Φ 58))(D:AV (Φ 60))(Ff:gD (Φ 62))(C:AU (Φ 63)):xj (mk Φ 4 6 qR):=by
 intro k n c r f g ws xs j i I E G o l B;have W:=I.n2;have s:=I.lot r E;have X:=s.len;have S:=G.l1;have R:=G.l2;have hj:=G.jj;have e1:=eW k n c I;have H:=λf=>GW (.lst f (a_ ws)) n (by show(a_ ws).length<=1000000;simp;left);have F:=λf=>K (.lst f (a_ xs)) n (by show(a_ xs).length<=1000000;simp;left);simp only[qd,S,decide_true,if_true]at H;simp only[qd,R,decide_true,if_true]at F;have e4:=T n c W l;have e5:=M k n c r I E;have e6:=D r.2 (by left);have P:aE bg (aQ n c)=aQ n c:=by simp[aQ]
 have Q:aE aI (aQ n c)=aQ n c:=by simp[aQ]
 have Y:aQ n c=.tup [.int n,.lst .fz (bL c)]:=rfl;have J:nV (aQ n c) (.int 0)=ok (.int n):=by rw[Y];simp
 have hlen:=xd r.2 r.2;have EV:r.2.length*r.2.length<=144:=abC (show r.2.length<=12 by left) (show r.2.length<=12 by left);have sz:∀p∈jf r.2 r.2,∃a b:Nat,a<n/\b<n/\p=((a:Int),(b:Int)):=λp l=>by
  obtain⟨O,N⟩:=Gq.mp l;obtain⟨a,d,ea⟩:=s.nat O;obtain⟨b,B,eb⟩:=s.nat N;exact⟨a,b,d,B,acA ea eb⟩
 have U:∀c5,bo Φ Jv [some (aQ n c),some (.lst f (a_ ws)),some (.tup (ag r.2)),some (.lst g (a_ xs)),some (.lst .ow (bw n c .ow 0 n)),c5]=ok (.lst .ow (a_ ((jf r.2 r.2).map λp=>My c ws xs p.1 p.2 / aB c p.1 p.2))):=λc5=>by
  unfold Jv;rw[bY (xs:=[.lst .ow (bN (jf r.2 r.2))]) (items:=(jf r.2 r.2).map iC) (ds:=(jf r.2 r.2).map λp=>qD (My c ws xs p.1 p.2 / aB c p.1 p.2)) (by simp[e6]) (by rw[b6,jU];rfl) (bH λp A=>⟨[some (iC p),some (.lst .fz (bw n c .fz 0 n)),some (.lst (aI f) (a_ ws)),some (.lst (aI g) (a_ xs))],by simp[bx,ba],by simp,?_⟩) (by simp;exact bA (by left))]
  ·simp[a_,aG]
  ·obtain⟨a,b,d,m,rfl⟩:=sz p A;have e:=λf g=>C k n c f g ws xs j a b I G d m;have e':=Ff n c a b d m;have y:aB c a b≠0:=λz=>by have:=l a b d m;rw[z]at this;exact absurd this (by decide)
   have x:=G.s1 _ (cj (qs:=ws) (h:=(a:Int)) (by left) (by left)).2;have v:=G.s1 _ (cj (qs:=ws) (h:=(b:Int)) (by left) (by left)).2;have u:=G.s2 _ (cj (qs:=xs) (h:=(a:Int)) (by left) (by left)).2;have t:=G.s2 _ (cj (qs:=xs) (h:=(b:Int)) (by left) (by left)).2;have L:Sm 4000 (My c ws xs a b):=(((bO I a b).sub ((bO I a a).mul (bO I b b))).mul ((x.mul u).mul (v.mul t))).mono (by left);have ZE:=Z.1 (My c ws xs a b) (aB c a b) L ((bO I a b).mono (by decide)) y;simp[ba,e,e',ZE]
 have e7:=λf=>Tu f ((jf r.2 r.2).map λp=>My c ws xs p.1 p.2 / aB c p.1 p.2) (4*i+1+4*j) ⟨λq V=>by
  obtain⟨p,A,rfl⟩:=List.mem_map.mp V;obtain⟨a,b,d,m,rfl⟩:=sz p A;have y:aB c a b≠0:=λz=>by have:=l a b d m;rw[z]at this;exact absurd this (by decide)
  have x:=G.s1 _ (cj (qs:=ws) (h:=(a:Int)) (by left) (by left)).2;have v:=G.s1 _ (cj (qs:=ws) (h:=(b:Int)) (by left) (by left)).2;have u:=G.s2 _ (cj (qs:=xs) (h:=(a:Int)) (by left) (by left)).2;have t:=G.s2 _ (cj (qs:=xs) (h:=(b:Int)) (by left) (by left)).2;exact((((o a b).sub ((o a a).mul (o b b))).mul ((x.mul u).mul (v.mul t))).div (o a b) y).mono (by left),by rw[b4,hlen];exact B,by rw[b4,hlen];left⟩
 have f1:eX .ow=.ow:=rfl;have f2:=dA bK n c .ow 0 n rfl;simp[mk_eq,qR,Q,P,J,e1,H,F,e4,e5,Co Φ Jv _ rfl,U,e7,ba,f1,f2];rfl
noncomputable def JA:CE:=.comp 1 (.nm 0) [3,2] .seq [(.call 59 [(.v 1)])] [] (.call 7 [(.call 64 [(.v 1),(.v 0),(.v 2)]),(.call 62 [(.v 1),(.v 0)])])
def uC:af:=[.asg (.nm 3) (.call 21 [(.v 0)]),.ex (.call 55 [(.v 0)]),.ex (.call 57 [(.v 3)]),.ex (.call 58 [(.v 1),(.v 0)]),.ex (.call 47 [(.v 2),(.ix (.v 0) (.int 0))]),.asg (.nm 4) JA,.ret (.call 42 [(.v 4)])]
def xl(m:au):Prop:=∀k n a r g xs j i z,Dr k n a->r∈a->(∀r∈a,r.2.length=z)->xs.length=n->(∀q∈xs,Sm j q)->j<=100->(∀g h,Sm i (aB a g h))->(∀g h:Nat,g<n->h<n->0<aB a g h)->(8*i+3+4*j)*(r.2.length*r.2.length)<=3000->m [aQ n a,.tup (ag r.2),.lst g (a_ xs)]=ok (qD (ggQ a xs r.2))
theorem lq:∀{hs:ae} {p:Int×Int},p∈eV hs->p.1∈hs/\p.2∈hs
 |[],_,h=>nomatch h
 |g::gs,p,h=>by
  rcases List.mem_append.mp h with h|h
  ·obtain⟨x,c,rfl⟩:=List.mem_map.mp h;exact⟨aak,aai _ c⟩
  ·obtain⟨a,b⟩:=lq h;exact⟨aai _ a,aai _ b⟩
theorem lr:∀a:ae,(eV a).length<=a.length*a.length
 |[]=>by simp[eV]
 |g::gs=>by
  have:=lr gs;show(gs.map (λh=>(g,h))++eV gs).length<=_;rw[c8,b4,cz,pF,p_];left
def Dm(Φ:aT)(h7:J_ (Φ 7))(eW:bF (Φ 21))(Tu:gg (Φ 42))(J:cW 4 cH (Φ 47))(R:dR (Φ 55))(S:dS (Φ 57))(M:hU (Φ 58))(N5:y4 (Φ 59))(Ff:gD (Φ 62))(G:Gx (Φ 64)):xl (mk Φ 3 5 uC):=by
 intro k n c r g xs j i z I C U B v Y D o m;have W:=I.n2;have u:=I.lot r C;have X:=u.len;have e1:=eW k n c I;have E:=λf=>J (.lst f (a_ xs)) n (by show(a_ xs).length<=1000000;simp;left);simp only[qd,B,decide_true,if_true]at E;have e0:=R k n c z I U;have e4:=S n c W o;have e5:=M k n c r I C;have e6:=N5 r.2 (by left);have P:aE bg (aQ n c)=aQ n c:=by simp[aQ]
 have Q:aE aI (aQ n c)=aQ n c:=by simp[aQ]
 have Z:aQ n c=.tup [.int n,.lst .fz (bL c)]:=rfl;have H:nV (aQ n c) (.int 0)=ok (.int n):=by rw[Z];simp
 have hlen:=lr r.2;have EV:r.2.length*r.2.length<=144:=abC (show r.2.length<=12 by left) (show r.2.length<=12 by left);have sz:∀p∈eV r.2,∃a b:Nat,a<n/\b<n/\p=((a:Int),(b:Int)):=λp o=>by
  obtain⟨O,N⟩:=lq o;obtain⟨a,d,ea⟩:=u.nat O;obtain⟨b,m,eb⟩:=u.nat N;exact⟨a,b,d,m,acA ea eb⟩
 have t:∀a b:Nat,a<n->b<n->aB c a b≠0:=λa b d m z=>by have:=o a b d m;rw[z]at this;exact absurd this (by decide)
 have F:∀(y:Nat) (a b:Nat),a<n->b<n->(∀g h,Sm y (aB c g h))->Sm (7*y+3+4*j) (pI c xs a b):=λy a b d m s=>by
  have L:=v _ (cj (qs:=xs) (h:=(a:Int)) (by left) (by left)).2;have K:=v _ (cj (qs:=xs) (h:=(b:Int)) (by left) (by left)).2;have A:=(L.div (s a a) (t a a d d)).sub (K.div (s b b) (t b b m m));exact((((s a a).mul (s b b)).sub (s a b)).mul (A.mul A)).mono (by left)
 have T:∀c4,bo Φ JA [some (aQ n c),some (.tup (ag r.2)),some (.lst g (a_ xs)),some (.lst .ow (bw n c .ow 0 n)),c4]=ok (.lst .ow (a_ ((eV r.2).map λp=>pI c xs p.1 p.2 / aB c p.1 p.2))):=λc4=>by
  unfold JA;rw[bY (xs:=[.lst .ow (bN (eV r.2))]) (items:=(eV r.2).map iC) (ds:=(eV r.2).map λp=>qD (pI c xs p.1 p.2 / aB c p.1 p.2)) (by simp[e6]) (by rw[b6,jU];rfl) (bH λp x=>⟨[some (iC p),some (.lst .fz (bw n c .fz 0 n)),some (.lst (aI g) (a_ xs))],by simp[bx,ba],by simp,?_⟩) (by simp;exact bA (by left))]
  ·simp[a_,aG]
  ·obtain⟨a,b,d,l,rfl⟩:=sz p x;have e:=λf=>G k n c f xs j a b I B v Y d l (o a a d d) (o b b l l);have e':=Ff n c a b d l;have ZE:=h7.1 (pI c xs a b) (aB c a b) ((F 61 a b d l (bO I)).mono (by left)) ((bO I a b).mono (by decide)) (t a b d l);simp[ba,e,e',ZE]
 have e7:=λf=>Tu f ((eV r.2).map λp=>pI c xs p.1 p.2 / aB c p.1 p.2) (8*i+3+4*j) ⟨λq V=>by
  obtain⟨p,x,rfl⟩:=List.mem_map.mp V;obtain⟨a,b,d,l,rfl⟩:=sz p x;exact((F i a b d l D).div (D a b) (t a b d l)).mono (by left),by rw[b4];exact aaG (abt _ hlen) m,by rw[b4];left⟩
 have f1:eX .ow=.ow:=rfl;have f2:=dA bK n c .ow 0 n rfl;simp[mk_eq,uC,Q,P,H,e0,e1,E,e4,e5,Co Φ JA _ rfl,T,e7,ba,f1,f2];rfl
noncomputable def OZ:CE:=.comp 1 (.nm 0) [] .seq [(.call 233 [(.v 0)])] [(.cmp .eq (.ix (.v 0) (.int 0)) (.int 0))] (.v 0)
def J1:af:=[.ret (.cmp .eq (.bf .len [OZ]) (.int 0))]
def U3(m:au):Prop:=∀n a,Dr 6 n a->m [aQ n a]=ok (.bl (decide ((xr n a).filter (λq=>decide (q=0))=[])))
def W5(Φ:aT)(k:sy (Φ 233)):U3 (mk Φ 1 1 J1):=by
 intro n a I;have o:=I.n2;have hl:=Hx n a;have j:=k n a I;have c:aE aI (aQ n a)=aQ n a:=by simp[aQ]
 have b:aE bg (aQ n a)=aQ n a:=by simp[aQ]
 have d:bo Φ OZ [some (aQ n a)]=ok (.lst .ow (a_ ((xr n a).filter λq=>decide (q=0)))):=by
  unfold OZ;rw[bY (xs:=[.lst .ow (a_ (xr n a))]) (items:=a_ (xr n a)) (ds:=((xr n a).filter λq=>decide (q=0)).map qD) (by simp[c,b,j]) (by rw[b6,pd]) (eB λq m=>⟨[some (qD q)],by simp[bx],?_,λ_=>by simp⟩) (by
   have:=List.length_filter_le (λq=>decide (q=0)) (xr n a);simp only[b4];exact bA (by left))]
  ·show ok (D.lst .ow (aw eX (a_ _)))=_;rw[pd]
  ·have i:qD q=.tup [.int q.num,.int q.den]:=rfl;have g:cY .eq (.int q.num) (.int 0)=ok (.bl (decide (q=0))):=by
    rw[kf rfl rfl];show ok (D.bl (q.num==0))=_;have:(q.num==0)=decide (q=0):=by
     rw[show(q.num==0)=decide (q.num=0) from rfl];exact decide_eq_decide.mpr Rat.num_eq_zero
    rw[this]
   rw[i];simp[g]
 have e:cY .eq (.int (((xr n a).filter λq=>decide (q=0)).length:Int)) (.int 0)=ok (.bl (decide ((xr n a).filter (λq=>decide (q=0))=[]))):=by
  rw[kf rfl rfl];show ok (D.bl ((((xr n a).filter λq=>decide (q=0)).length:Int)==0))=_;generalize (xr n a).filter (λq=>decide (q=0))=l;cases l with
  |nil=>rfl
  |cons x l =>
   have:(((x::l).length:Int)==0)=false:=by rw[beq_eq_false_iff_ne,cz];left
   rw[this];rfl
 simp[mk_eq,J1,c,b,d,e]
def qg(m:au):Prop:=∀a,a.length<=12->m [.lst .fz (ag a)]=ok (.lst .ow (bN (eV a)))
def IH(Φ:aT)(a:Φ 1003=g_)(h:bo Φ (.v 0) ρ=ok (.lst .fz ds))(hf:aU bK ds=false):bX Φ (.xu 1003 [(.v 0)]) ρ=ok (aw aI (br 0 ds),ρ):=by
 have b:bX Φ (.xu 1003 [(.v 0)]) ρ=bd (bJ Φ [(.v 0)] ρ) λxs=>bd (Φ 1003 xs) λd=>bd (mf d) λitems=>ok (items,if aU bK xs then iM (dN [(.v 0)]) ρ else ρ):=rfl;rw[b];have:bJ Φ [(.v 0)] ρ=ok [.lst .fz ds]:=by simp[h]
 rw[this,cS,a];show bd (ok (D.lst .ow (br 0 ds))) _=_;rw[cS];show bd (ok (aw aI (br 0 ds))) _=_;rw[cS];have:aU bK [D.lst .fz ds]=false:=by simp[hf,bK]
 rw[this];rfl
theorem pR(g:Fl->Fl):∀(ds:aa) (j:Nat),aw g (br j ds)=br j (aw g ds)
 |[],_=>rfl
 |d::ds,j=>by
  show aE g (.tup [.int j,d])::aw g (br (j+1) ds)=_;rw[pR g ds (j+1)];rfl
def Cn(n:Nat)(rs:ai)(g:Nat):D:=.lst .fz (a_ ((List.range' 0 n).map λ(h:Nat)=>aB rs g h))
def vE(n:Nat)(rs:ai)(j k:Nat):bw n rs .fz j (k+1)=Cn n rs j::bw n rs .fz (j+1) k:=by unfold bw Cn;rw[List.range'_succ,dx]
noncomputable def ma:af:=[.ifs (.cmp .eq (.ix (.ix (.v 2) (.v 1)) (.int 0)) (.int 0)) [.rs 6] []]
def kK:af:=[.fr (.tp [1,2]) (.xu 1003 [(.v 0)]) ma]
def mO(m:au):Prop:=∀n a,n<=12->(∀g:Nat,g<n->0<aB a g g)->m [.lst .fz (bw n a .fz 0 n)]=ok .bP
def Al(Φ:aT){n:Nat}{rs:ai}{c0:aJ}{j:Nat}(a:j<n):bo Φ (.ix (.ix (.v 2) (.v 1)) (.int 0)) [c0,some (.int j),some (Cn n rs j)]=ok (.int (aB rs j j).num):=by
 have b:=mj (rs:=rs) (g:=j) a;simp[Cn,b]
theorem rX(Φ:aT){n:Nat}{rs:ai}(i:∀g:Nat,g<n->0<aB rs g g)(c0:aJ):∀(k j:Nat) (c1 a:aJ),j+k<=n->∃e b,dC (λd ρ=>bU (.tp [1,2]) d ρ) (λρ=>bE Φ ma ρ) (br j (bw n rs .fz j k)) [c0,c1,a]=ok (.nx,[c0,e,b])
 |0,j,c1,a,_=>⟨c1,a,by simp[f9,bw,br]⟩
 |k+1,j,c1,a,h=>by
  obtain⟨e,b,l⟩:=rX Φ i c0 k (j+1) (some (.int j)) (some (Cn n rs j)) (by left);have m:=ie (i j (by left));have c:cY .eq (.int (aB rs j j).num) (.int 0)=ok (.bl false):=by
   rw[kf rfl rfl];show ok (D.bl ((aB rs j j).num==0))=_;rw[beq_eq_false_iff_ne.mpr (by left)]
  rw[vE];refine⟨e,b,cQ (ρ1:=[c0,some (.int j),some (Cn n rs j)]) (by simp[Cn]) (ρ2:=[c0,some (.int j),some (Cn n rs j)]) ?_ l⟩;have:=Al Φ (rs:=rs) (c0:=c0) (show j<n by left);simp only[ma,cp,sA,As,this];simp[c]
def Am(Φ:aT)(b:Φ 1003=g_)(n:Nat)(rs:ai):bX Φ (.xu 1003 [(.v 0)]) [some (.lst .fz (bw n rs .fz 0 n)),none,none]=ok (br 0 (bw n rs .fz 0 n),[some (.lst .fz (bw n rs .fz 0 n)),none,none]):=by
 have a:=IH Φ b (ρ:=[some (.lst .fz (bw n rs .fz 0 n)),none,none]) (ds:=bw n rs .fz 0 n) (by simp[ba]) (dA bK n rs .fz 0 n rfl);rw[pR,ba]at a;exact a
def Ml(Φ:aT)(c:Φ 1003=g_):mO (mk Φ 1 3 kK):=by
 intro n a i e;obtain⟨c1,j,g⟩:=rX Φ e (some (.lst .fz (bw n a .fz 0 n))) n 0 none none (by left);have d:=dT (Φ:=Φ) (t:=.tp [1,2]) (b:=ma) (Am Φ c n a) g;simp[mk_eq,kK,d]
def G1(ds:aa):Prop:=∃(k n:Nat) (rs:ai),Dr k n rs/\(∃g:Nat,g<n/\aB rs g g=0)/\ds=[.lst .fz (bw n rs .fz 0 n)]
theorem An(Φ:aT)(d:Nat->aa->Prop){n:Nat}{rs:ai}(hn:∀g h:Int,0<=aB rs g h)(c0:aJ):∀(k j:Nat) (c1 a:aJ),j+k<=n->(∃g:Nat,j<=g/\g<j+k/\aB rs g g=0)->Cy Φ d 6 (.tp [1,2]) ma (br j (bw n rs .fz j k)) [c0,c1,a]
 |0,j,c1,a,_,h=>by obtain⟨g,o,m,_⟩:=h;left
 |k+1,j,c1,a,hjk,hz=>by
  rw[vE];have e0:bU (.tp [1,2]) (.tup [.int j,Cn n rs j]) [c0,c1,a]=ok [c0,some (.int j),some (Cn n rs j)]:=by simp[Cn]
  have b:=Al Φ (rs:=rs) (c0:=c0) (show j<n by left);by_cases e:aB rs j j=0
  ·refine .hd e0 (.hd (.BD ?_ (.hd .rs)));rw[e]at b;simp[-OV,b]
  ·have p:0<aB rs j j:=by have:=hn j j;grind
   have q:=ie p;have c:cY .eq (.int (aB rs j j).num) (.int 0)=ok (.bl false):=by
    rw[kf rfl rfl];show ok (D.bl ((aB rs j j).num==0))=_;rw[beq_eq_false_iff_ne.mpr (by left)]
   refine .tl e0 (ρ2:=[c0,some (.int j),some (Cn n rs j)]) (by simp only[ma,cp,sA,As,b];simp[c]) (An Φ d hn c0 k (j+1) _ _ (by left) ?_);obtain⟨g,o,m,i⟩:=hz;refine⟨g,?_,by left,i⟩;by_cases l:g=j
   ·subst l;exact absurd i e
   ·left
def Uj(Φ:aT)(b:Nat->aa->Prop)(c:Φ 1003=g_)(ds:aa)(h:G1 ds):ds.length=1/\Er Φ b 6 kK (ds.map some++List.replicate (3 - ds.length) none):=by
 obtain⟨k,n,a,I,⟨g,e,d⟩,rfl⟩:=h;exact⟨rfl,.hd (.fr (items:=br 0 (bw n a .fz 0 n)) (ρ1:=[some (.lst .fz (bw n a .fz 0 n)),none,none]) (Am Φ c n a) (An Φ b (λg h=>(jt I g h).1) _ n 0 _ _ (by left) ⟨g,by left,by left,d⟩) rfl)⟩
noncomputable def qt(n g h:Nat)(a b:Int):aS:=((List.replicate n (0:Rat)).set g (a:Rat)).set h (b:Rat)
def Ir{n:Nat}(hn:n<=12):dD .mul (.lst .ow [qD 0]) (.int n)=ok (.lst .ow (a_ (List.replicate n 0))):=by
 show(if qM .ow=false/\[qD 0].length*(n:Int).toNat<=du/\(n:Int)<=du /\ -du<=(n:Int)then ok (D.lst .ow (aw bg (List.replicate (n:Int).toNat [qD 0]).flatten))else none)=_;rw[cc ⟨rfl,by show 1*(n:Int).toNat<=1000000;left,by show(n:Int)<=1000000;left,by show -1000000<=(n:Int);left⟩,dV,List.flatten_replicate_singleton];have:List.replicate n (qD 0)=a_ (List.replicate n 0):=by unfold a_;rw[rj]
 rw[this];simp
noncomputable def AI:af:=[.asg (.nm 4) (.bin .mul (.lst [(.tup [(.int 0),(.int 1)])]) (.v 0)),.setI 4 (.ix (.v 1) (.int 0)) (.tup [(.v 2),(.int 1)]),.setI 4 (.ix (.v 1) (.int 1)) (.tup [(.v 3),(.int 1)]),.ret (.v 4)]
def Gv(m:au):Prop:=∀(n g h:Nat) (a b:Int),n<=12->g<n->h<n->m [.int n,iC (g,h),.int a,.int b]=ok (.lst .ow (a_ (qt n g h a b)))
def Mt(qs:aS)(i:Nat)(q:Rat):(a_ qs).set i (qD q)=a_ (qs.set i q):=by unfold a_;rw[List.map_set]
def Ra(Φ:aT):Gv (mk Φ 4 5 AI):=by
 intro n g h a b p r q;have o:D.tup [.int 0,.int 1]=qD 0:=rfl;have m:=Ir p;have l:=CD (Φ:=Φ) (i:=4) (j:=g) (k:=.ix (.v 1) (.int 0)) (e:=.tup [(.v 2),(.int 1)]) (ρ:=[some (.int n),some (iC (g,h)),some (.int a),some (.int b),some (.lst .ow (a_ (List.replicate n 0)))]) (ρ':=[some (.int n),some (iC (g,h)),some (.int a),some (.int b),some (.lst .ow (a_ (List.replicate n 0)))]) (d:=qD a) (z:=g) (ds:=a_ (List.replicate n 0)) (by rw[<- DC];simp) (by simp) rfl (by simp;rw[EA (by left) (by left)];simp);have c:=CD (Φ:=Φ) (i:=4) (j:=h) (k:=.ix (.v 1) (.int 1)) (e:=.tup [(.v 3),(.int 1)]) (ρ:=[some (.int n),some (iC (g,h)),some (.int a),some (.int b),some (.lst .ow (a_ ((List.replicate n 0).set g (a:Rat))))]) (ρ':=[some (.int n),some (iC (g,h)),some (.int a),some (.int b),some (.lst .ow (a_ ((List.replicate n 0).set g (a:Rat))))]) (d:=qD b) (z:=h) (ds:=a_ ((List.replicate n 0).set g (a:Rat))) (by rw[<- DC];simp) (by simp) rfl (by simp;rw[EA (by left) (by left)];simp);rw[Mt]at l c;have l:ib Φ (.setI 4 (.ix (.v 1) (.int 0)) (.tup [(.v 2),(.int 1)])) [some (.int n),some (iC (g,h)),some (.int a),some (.int b),some (.lst .ow (a_ (List.replicate n 0)))]=ok (.nx,[some (.int n),some (iC (g,h)),some (.int a),some (.int b),some (.lst .ow (a_ ((List.replicate n 0).set g (a:Rat))))]):=l;have c:ib Φ (.setI 4 (.ix (.v 1) (.int 1)) (.tup [(.v 3),(.int 1)])) [some (.int n),some (iC (g,h)),some (.int a),some (.int b),some (.lst .ow (a_ ((List.replicate n 0).set g (a:Rat))))]=ok (.nx,[some (.int n),some (iC (g,h)),some (.int a),some (.int b),some (.lst .ow (a_ (qt n g h a b)))]):=c;simp[mk_eq,AI,o,m,l,c]
theorem FV(Φ:aT)(d:Nat->aa->Prop)(c0 c1:aJ):∀(qs:aS) (b:aJ),(∀q∈qs,0<=q)->(∃q∈qs,q=0)->Cy Φ d 6 (.nm 2) oP (a_ qs) [c0,c1,b]
 |[],_,_,h=>by obtain⟨_,h,_⟩:=h;cases h
 |q::qs,b,hn,h=>by
  have e0:bU (.nm 2) (qD q) [c0,c1,b]=ok [c0,c1,some (qD q)]:=by simp
  by_cases e:q=0
  ·subst e;refine .hd e0 (.hd (.BD ?_ (.hd .rs)));simp
  ·have g:0<q:=by have:=hn q aak;grind
   have i:=ie g;have c:cY .eq (.int q.num) (.int 0)=ok (.bl false):=by
    rw[kf rfl rfl];show ok (D.bl (q.num==0))=_;rw[beq_eq_false_iff_ne.mpr (by left)]
   refine .tl e0 (ρ2:=[c0,c1,some (qD q)]) (by simp[oP,c]) (FV Φ d c0 c1 qs _ (λp a=>hn p (aai _ a)) ?_);obtain⟨p,a,rfl⟩:=h;rcases List.mem_cons.mp a with rfl|a
   ·exact absurd rfl e
   ·exact⟨_,a,rfl⟩
theorem FW(Φ:aT)(e:Nat->aa->Prop){n:Nat}{rs:ai}(hn:∀g h:Int,0<=aB rs g h)(c0:aJ):∀(k j:Nat) (c1 a:aJ),j+k<=n->(∃g h:Nat,j<=g/\g<j+k/\h<n/\aB rs g h=0)->Cy Φ e 6 (.nm 1) rl (bw n rs .fz j k) [c0,c1,a]
 |0,j,c1,a,_,h=>by obtain⟨g,h,o,u,_⟩:=h;left
 |k+1,j,c1,a,hjk,hz=>by
  have x:bw n rs .fz j (k+1)=.lst .fz (a_ ((List.range' 0 n).map λ(h:Nat)=>aB rs j h))::bw n rs .fz (j+1) k:=by unfold bw;rw[List.range'_succ,dx]
  have e0:bU (.nm 1) (.lst .fz (a_ ((List.range' 0 n).map λ(h:Nat)=>aB rs j h))) [c0,c1,a]=ok [c0,some (.lst .fz (a_ ((List.range' 0 n).map λ(h:Nat)=>aB rs j h))),a]:=by simp
  have c:bX Φ (.seq (.v 1)) [c0,some (.lst .fz (a_ ((List.range' 0 n).map λ(h:Nat)=>aB rs j h))),a]=ok (a_ ((List.range' 0 n).map λ(h:Nat)=>aB rs j h),[c0,some (.lst .fz (a_ ((List.range' 0 n).map λ(h:Nat)=>aB rs j h))),a]):=by
   rw[vU (f:=.fz) (ds:=a_ ((List.range' 0 n).map λ(h:Nat)=>aB rs j h)) (by simp)];simp
  rw[x];by_cases l:∃q∈(List.range' 0 n).map (λ(h:Nat)=>aB rs j h),q=0
  ·refine .hd e0 (.hd (.fr c (FV Φ e _ _ _ _ (λq d=>?_) l) rfl));obtain⟨i,_,rfl⟩:=List.mem_map.mp d;exact hn _ _
  ·obtain⟨A,y⟩:=pZ Φ c0 (some (.lst .fz (a_ ((List.range' 0 n).map λ(h:Nat)=>aB rs j h)))) ((List.range' 0 n).map λ(h:Nat)=>aB rs j h) a λq d=>by
    have B:0<=q:=by obtain⟨i,_,rfl⟩:=List.mem_map.mp d;exact hn _ _
    have o:q≠0:=λz=>l ⟨q,d,z⟩;grind
   have r:=dT (Φ:=Φ) (t:=.nm 2) (b:=oP) c y;refine .tl e0 (ρ2:=[c0,some (.lst .fz (a_ ((List.range' 0 n).map λ(h:Nat)=>aB rs j h))),A]) (by rw[rl,cp,r];rfl) (FW Φ e hn c0 k (j+1) _ _ (by left) ?_);obtain⟨g,h,o,u,s,m⟩:=hz;refine⟨g,h,?_,by left,s,m⟩;by_cases p:g=j
   ·subst p;exact absurd ⟨_,List.mem_map.mpr ⟨h,List.mem_range'_1.mpr (by left),rfl⟩,m⟩ l
   ·left
def G0(ds:aa):Prop:=∃(k n:Nat) (rs:ai),Dr k n rs/\(∃g h:Nat,g<n/\h<n/\aB rs g h=0)/\ds=[.lst .fz (bw n rs .fz 0 n)]
def Ui(Φ:aT)(b:Nat->aa->Prop)(ds:aa)(h:G0 ds):ds.length=1/\Er Φ b 6 iT (ds.map some++List.replicate (3 - ds.length) none):=by
 obtain⟨k,n,a,I,⟨g,h,e,d,c⟩,rfl⟩:=h;refine⟨rfl,.hd (.fr (items:=bw n a .fz 0 n) (ρ1:=[some (.lst .fz (bw n a .fz 0 n)),none,none]) ?_ (FW Φ b (λg h=>(jt I g h).1) _ n 0 _ _ (by left) ⟨g,h,by left,by left,d,c⟩) rfl)⟩;show bX Φ (.seq (.v 0)) [some (.lst .fz (bw n a .fz 0 n)),none,none]=_;rw[vU (f:=.fz) (ds:=bw n a .fz 0 n) (by simp[ba])];have:=dA bK n a .fz 0 n rfl;simp[ba,this]
def X68(ds:aa):Prop:=∃(k n:Nat) (rs:ai) (a b c:D),Dr k n rs/\(∃g h:Nat,g<n/\h<n/\aB rs g h=0)/\ds=[aQ n rs,a,b,c]
def Zp(Φ:aT)(e:Nat->aa->Prop)(p:bF (Φ 21))(j:∀ds,G0 ds->e 57 ds)(ds:aa)(h:X68 ds):ds.length=4/\Er Φ e 6 qR (ds.map some++List.replicate (6 - ds.length) none):=by
 obtain⟨k,n,d,a,b,c,I,l,rfl⟩:=h;have q:=p k n d I;have i:aE aI (aQ n d)=aQ n d:=by simp[aQ]
 have g:aE bg (aQ n d)=aQ n d:=by simp[aQ]
 have o:eX .ow=.ow:=rfl;have m:=dA bK n d .ow 0 n rfl;refine⟨rfl,.tl (ρ':=[some (aQ n d),some a,some b,some c,some (.lst .ow (bw n d .ow 0 n)),none]) ?_ (.hd (.ex (xs:=[.lst .al (bw n d .al 0 n)]) ?_ (j _ ⟨k,n,d,I,l,?_⟩)))⟩
 ·show ib Φ (.asg (.nm 4) (.call 21 [(.v 0)])) [some (aQ n d),some a,some b,some c,none,none]=_;simp[i,g,q,ba,o,m]
 ·simp[ba,bg]
 ·simp[ba,aI]
theorem uf{x:Int}:∀(ns a:ae),x∈a\/x∈ns->x∈ns.foldl (λ(m:ae) (k:Int)=>if m.any (· == k)then m else m++[k]) a
 |[],a,h=>by simpa using h
 |k::ns,a,h=>by
  rw[g5];refine uf ns _ ?_;by_cases b:a.any (· == k)=true
  ·rw[cc b];rcases h with h|h
   ·exact .inl h
   ·rcases List.mem_cons.mp h with rfl|h
    ·obtain⟨y,c,e⟩:=List.any_eq_true.mp b;rw[mY]at e;subst e;exact .inl c
    ·exact .inr h
  ·rw[cb b];rcases h with h|h
   ·exact .inl (aaw _ h)
   ·rcases List.mem_cons.mp h with rfl|h
    ·exact .inl (aam _ (by simp))
    ·exact .inr h
def JN{x y:Int}(e:x∈ns)(d:y∈ns)(hn:x≠y):(eY ns).length≠1:=λh=>by
 have b:=uf ns [] (.inr e);have a:=uf ns [] (.inr d);obtain⟨z,c⟩:=List.length_eq_one_iff.mp h;unfold eY at c;rw[c]at b a;rw[List.mem_singleton]at b a;exact hn (b.trans a.symm)
def J8(ds:aa):Prop:=∃(k n:Nat) (rs:ai) (r a:Row),Dr k n rs/\r∈rs/\a∈rs/\r.2.length≠a.2.length/\ds=[aQ n rs]
def Uk(Φ:aT)(d:Nat->aa->Prop)(q:Φ 1042=vO)(ds:aa)(h:J8 ds):ds.length=1/\Er Φ d 5 iR (ds.map some++List.replicate (1 - ds.length) none):=by
 obtain⟨k,n,a,r,s,I,b,p,i,rfl⟩:=h;have hlen:=I.len;have g:aE bg (aQ n a)=aQ n a:=by simp[aQ]
 have m:aQ n a=.tup [.int n,.lst .fz (bL a)]:=rfl;have x1:nV (aQ n a) (.int 1)=ok (.lst .fz (bL a)):=by rw[m];simp
 have j:bo Φ BZ [some (aQ n a)]=ok (.lst .ow (ag (a.map λr=>(r.2.length:Int)))):=by
  unfold BZ;rw[bY (xs:=[.lst .fz (bL a)]) (items:=bL a) (ds:=a.map λr=>.int (r.2.length:Int)) (by simp[g,x1]) (by rw[b6];simp) (bH λr b=>?_) (by simp;exact bA (by left))]
  ·have e:(a.map λr=>D.int (r.2.length:Int))=ag (a.map λr=>(r.2.length:Int)):=by
    unfold ag;rw[fb];rfl
   rw[e];simp
  ·exact⟨[some (qD r.1),some (.tup (ag r.2))],by simp[bx,rD],by simp,by simp⟩
 have o:Φ 1042 [.lst .ow (ag (a.map λr=>(r.2.length:Int)))]=ok (.int (eY (a.map λr=>(r.2.length:Int))).length):=by
  rw[q];show(match intsOf (ag (a.map λr=>(r.2.length:Int)))with|some ns=>if ns.length<4000 then ok (D.int (eY ns).length)else none|none=>none)=_;unfold ag;rw[bC];show(if (a.map λr=>(r.2.length:Int)).length<4000 then ok (D.int (eY (a.map λr=>(r.2.length:Int))).length)else none)=_;rw[cc (by rw[b4];left)]
 have l:=JN (aax (f:=λr:Row=>(r.2.length:Int)) b) (aax p) (λz=>i (Int.ofNat_inj.mp z));have c:cY .ne (.int ((eY (a.map λr=>(r.2.length:Int))).length:Int)) (.int 1)=ok (.bl true):=by
  show ok (D.bl (!((((eY (a.map λr=>(r.2.length:Int))).length:Int))==1)))=_;rw[beq_eq_false_iff_ne.mpr (by left)];rfl
 refine⟨rfl,.hd (.BD ?_ (.hd .rs))⟩;show nM Φ (.cmp .ne (.cL 1042 [BZ]) (.int 1)) [some (aQ n a)]=_;simp[j,o,c]
def GZ(ds:aa):Prop:=∃(k n:Nat) (rs:ai) (d:D),Dr k n rs/\eN d/\aE aI (aE bg d)=d/\jw d n=false/\ds=[d,aQ n rs]
def Uh(Φ:aT)(c:Nat->aa->Prop)(m:iz (Φ 11))(ds:aa)(h:GZ ds):ds.length=2/\Er Φ c 7 kL (ds.map some++List.replicate (2 - ds.length) none):=by
 obtain⟨k,n,a,d,I,l,i,hl,rfl⟩:=h;have b:=m d n l;rw[hl]at b;have g:aE bg (aQ n a)=aQ n a:=by simp[aQ]
 have j:aQ n a=.tup [.int n,.lst .fz (bL a)]:=rfl;have e:nV (aQ n a) (.int 0)=ok (.int n):=by rw[j];simp
 refine⟨rfl,.hd (.BD ?_ (.hd .rs))⟩;show nM Φ (.or [(.not (.call 11 [(.v 0),(.ix (.v 1) (.int 0))])),(.cL 1043 [(.v 0),JB])]) [some d,some (aQ n a)]=_;simp[g,e,i,b]
structure Fz(d:D):Prop where
 fz:aE aI d=d
 al:aE bg d=d
 ow:bh cO d=false
noncomputable def m7:af:=[.asg (.tp [2,3,4,5]) (.v 1),.ifs (.cmp .eq (.v 0) (.int 0)) [.ex (.call 67 [(.v 2),(.v 5)])] [],.ifs (.cmp .eq (.v 0) (.int 1)) [.ex (.call 68 [(.v 2),(.v 3),(.v 4),(.v 5)])] [],.ifs (.cmp .eq (.v 0) (.int 2)) [.ex (.call 69 [(.v 2),(.v 4),(.v 5)])] [],.ifs (.cmp .eq (.v 0) (.int 3)) [.ex (.call 71 [(.v 2)])] []]
noncomputable def yX(w:Nat):Nat:=if w=0 then 67 else if w=1 then 68 else if w=2 then 69 else 71
noncomputable def je(w:Nat)(a b c d:D):aa:=if w=0 then[a,d]else if w=1 then[a,b,c,d]else if w=2 then[a,c,d]else[a]
noncomputable def Gm(w:Nat):aA:=if w=0 then[(.v 2),(.v 5)]else if w=1 then[(.v 2),(.v 3),(.v 4),(.v 5)]else if w=2 then[(.v 2),(.v 4),(.v 5)]else[(.v 2)]
section
variable (Φ:aT){a b c d:D}(ha:Fz a)(hb:Fz b)(hc:Fz c)(hd:Fz d)
include ha hb hc hd
def AQ(w:Int):ib Φ (.asg (.tp [2,3,4,5]) (.v 1)) [some (.int w),some (.tup [a,b,c,d]),none,none,none,none]=ok (.nx,[some (.int w),some (.tup [a,b,c,d]),some a,some b,some c,some d]):=by
 have h:aU cO [a,b,c,d]=false:=by simp[aU,ha.ow,hb.ow,hc.ow,hd.ow]
 simp[ha.al,hb.al,hc.al,hd.al,h,ic]
def w9(hw:w<4):bJ Φ (Gm w) [some (.int w),some (.tup [a,b,c,d]),some a,some b,some c,some d]=ok (je w a b c d):=by
 match w,hw with
 |0,_=>simp[Gm,je,ha.al,hd.al]
 |1,_=>simp[Gm,je,ha.al,hb.al,hc.al,hd.al]
 |2,_=>simp[Gm,je,ha.al,hc.al,hd.al]
 |3,_=>simp[Gm,je,ha.al]
def Gk(hw:w<4):aw aI (je w a b c d)=je w a b c d:=by
 match w,hw with
 |0,_=>simp[je,ha.fz,hd.fz]
 |1,_=>simp[je,ha.fz,hb.fz,hc.fz,hd.fz]
 |2,_=>simp[je,ha.fz,hc.fz,hd.fz]
 |3,_=>simp[je,ha.fz]
end
def kM(Φ:aT)(w k:Int)(h:w≠k)(b:af)(t:aX):ib Φ (.ifs (.cmp .eq (.v 0) (.int k)) b []) (some (.int w)::t)=ok (.nx,some (.int w)::t):=by
 have c:cY .eq (.int w) (.int k)=ok (.bl false):=by rw[kf rfl rfl];show ok (D.bl (w==k))=_;rw[beq_eq_false_iff_ne.mpr h]
 simp[c]
def lV(Φ:aT)(w:Int)(t:aX):nM Φ (.cmp .eq (.v 0) (.int w)) (some (.int w)::t)=ok true:=by
 have c:cY .eq (.int w) (.int w)=ok (.bl true):=by rw[kf rfl rfl];show ok (D.bl (w==w))=_;rw[hY]
 simp[c]
def xg(e:Nat->aa->Prop)(ds:aa):Prop:=∃(w:Nat) (a b c d:D),w<4/\(Fz a/\Fz b/\Fz c/\Fz d)/\e (yX w) (je w a b c d)/\ds=[.int w,.tup [a,b,c,d]]
def K_(Φ:aT)(m:Nat->aa->Prop)(n:Nat)(ds:aa)(h:xg m ds):ds.length=2/\Er Φ m n m7 (ds.map some++List.replicate (6 - ds.length) none):=by
 obtain⟨w,a,b,c,d,hw,⟨l,k,j,i⟩,e,rfl⟩:=h;have p:=AQ Φ l k j i w;have g:=w9 Φ l k j i hw;rw[<- Gk l k j i hw]at e;refine⟨rfl,.tl p ?_⟩
 match w,hw with
 |0,_=>exact .hd (.BD (lV Φ _ _) (.hd (.ex g e)))
 |1,_=>exact .tl (kM Φ 1 0 (by decide) _ _) (.hd (.BD (lV Φ _ _) (.hd (.ex g e))))
 |2,_=>exact .tl (kM Φ 2 0 (by decide) _ _) (.tl (kM Φ 2 1 (by decide) _ _) (.hd (.BD (lV Φ _ _) (.hd (.ex g e)))))
 |3,_=>exact .tl (kM Φ 3 0 (by decide) _ _) (.tl (kM Φ 3 1 (by decide) _ _) (.tl (kM Φ 3 2 (by decide) _ _) (.hd (.BD (lV Φ _ _) (.hd (.ex g e))))))
def Ri(Φ:aT){a b c d r:D}(hw:w<4)(l:Fz a)(j:Fz b)(i:Fz c)(e:Fz d)(h:Φ (yX w) (je w a b c d)=ok r):mk Φ 2 6 m7 [.int w,.tup [a,b,c,d]]=ok .bP:=by
 have p:=AQ Φ l j i e w;have g:=w9 Φ l j i e hw;rw[<- Gk l j i e hw]at h;have y:∀{f:Nat} {es:aA} {t:aX},bJ Φ es (some (.int w)::t)=ok (je w a b c d)->Φ f (aw aI (je w a b c d))=ok r->ib Φ (.ifs (.cmp .eq (.v 0) (.int w)) [.ex (.call f es)] []) (some (.int w)::t)=ok (.nx,some (.int w)::t):=λo m=>by
  rw[sA];show EB Φ _ _ _ (nM Φ _ _)=_;rw[lV,Nr,cp,Qw,yJ,o,wW,m];rfl
 refine(mk_eq (by rfl)).trans ?_;show lO (bE Φ m7 [some (.int w),some (.tup [a,b,c,d]),none,none,none,none])=_;unfold m7;rw[cp,p];show lO (bE Φ _ _)=_;have z:∀{s:CS} {ss:af} {ρ:aX},ib Φ s ρ=ok (.nx,ρ)->bE Φ ss ρ=ok (.nx,ρ)->bE Φ (s::ss) ρ=ok (.nx,ρ):=λo m=>by rw[cp,o];exact m
 have n:∀{k:Int} {bb:af} {t:aX},(w:Int)≠k->ib Φ (.ifs (.cmp .eq (.v 0) (.int k)) bb []) (some (.int w)::t)=ok (.nx,some (.int w)::t):=λq=>kM Φ w _ q _ _;refine aaI lO (a₂:=ok (.nx,[some (.int w),some (.tup [a,b,c,d]),some a,some b,some c,some d])) ?_
 match w,hw with
 |0,_=>exact z (y g h) (z (n (by decide)) (z (n (by decide)) (z (n (by decide)) rfl)))
 |1,_=>exact z (n (by decide)) (z (y g h) (z (n (by decide)) (z (n (by decide)) rfl)))
 |2,_=>exact z (n (by decide)) (z (n (by decide)) (z (y g h) (z (n (by decide)) rfl)))
 |3,_=>exact z (n (by decide)) (z (n (by decide)) (z (n (by decide)) (z (y g h) rfl)))
def sv:af:=[.fr (.tp [1,2]) (.xu 1000 [(.v 0),(.cL 1024 [(.v 0),(.int 1)])]) CV,.ret (.bl true)]
def Ds(Φ:aT)(a:Φ 1000=CA)(b:Φ 1024=rZ)(rs:ai):bX Φ (.xu 1000 [(.v 0),(.cL 1024 [(.v 0),(.int 1)])]) [some (.lst .fz (bL rs)),none,none]=ok (List.zipWith (λx y=>D.tup [x,y]) (bL rs) (bL (rs.drop 1)),[some (.lst .fz (bL rs)),none,none]):=by
 have e:Φ 1024 [.lst .fz (bL rs),.int 1]=ok (.lst .ow (bL (rs.drop 1))):=by
  rw[b];show ok (D.lst .ow (aw bg ((bL rs).drop 1)))=_;rw[show(bL rs).drop 1=bL (rs.drop 1) by unfold bL;rw[o1]];simp
 have d:Φ 1000 [.lst .fz (bL rs),.lst .ow (bL (rs.drop 1))]=ok (.lst .ow (List.zipWith (λx y=>D.tup [x,y]) (bL rs) (bL (rs.drop 1)))):=by rw[a];rfl
 have c:aw aI (List.zipWith (λx y=>D.tup [x,y]) (bL rs) (bL (rs.drop 1)))=List.zipWith (λx y=>D.tup [x,y]) (bL rs) (bL (rs.drop 1)):=by
  have:=gQ aI (bL rs) (bL (rs.drop 1));rw[pb,pb]at this;exact this
 show bd (bJ Φ [(.v 0),(.cL 1024 [(.v 0),(.int 1)])] [some (.lst .fz (bL rs)),none,none]) _=_;have:bJ Φ [(.v 0),(.cL 1024 [(.v 0),(.int 1)])] [some (.lst .fz (bL rs)),none,none]=ok [.lst .fz (bL rs),.lst .ow (bL (rs.drop 1))]:=by simp[e]
 rw[this,cS,d,cS];show ok (aw aI (List.zipWith (λx y=>D.tup [x,y]) (bL rs) (bL (rs.drop 1))),if aU bK [D.lst .fz (bL rs),.lst .ow (bL (rs.drop 1))]then _ else _)=_;rw[c];simp
def Rc(Φ:aT)(d:Φ 1000=CA)(g:Φ 1024=rZ)(j:Φ 1022=Qc):jM (mk Φ 1 3 sv)/\mk Φ 1 3 sv [.lst .fz (bL [])]=ok (.bl true):=by
 refine⟨λa l k=>?_,?_⟩
 ·obtain⟨r,a,rfl⟩:∃r i,a=r::i:=by
   cases a with
   |nil=>simp at l
   |cons r a=>exact⟨r,a,rfl⟩
  obtain⟨c1,m,e⟩:=zq Φ j (some (.lst .fz (bL (r::a)))) a r none none k;have c:=dT (Φ:=Φ) (t:=.tp [1,2]) (b:=CV) (Ds Φ d g (r::a)) e;simp[mk_eq,sv,c]
 ·have c:=dT (Φ:=Φ) (t:=.tp [1,2]) (b:=CV) (Ds Φ d g []) (show dC _ _ [] _=ok (.nx,[some (.lst .fz (bL [])),none,none]) from rfl);simp[mk_eq,sv,c]
def n15(Φ:aT)(j:j0 (Φ 14)):mk Φ 1 2 dg [.lst .fz (bL [])]=ok (.bl false):=by
 have c:Cb 1 (cZ []):=by constructor<;>simp[cZ]
 have a:=j [] 1 c;have e0:cU (cZ [])=1:=rfl;rw[e0]at a;replace a:Φ 14 [.lst .fz (bL [])]=ok (.tup [.int 1,.lst .ow (oG 1 [])]):=a;have i:∀b,bo Φ FD [b,some (.tup [.int 1,.lst .ow (oG 1 [])])]=ok (.lst .ow []):=λb=>by
  unfold FD;rw[bY (xs:=[.lst .al (oG 1 [])]) (items:=[]) (ds:=[]) (by simp) (by rw[b6];simp[oG]) (by rfl) (by simp[du])];rfl
 have g:uT .ku [.lst .ow []]=ok (.int 0):=rfl;have e:cY .eq (.int 0) (.int 1)=ok (.bl false):=rfl;have d:=i (some (.lst .fz (bL [])));simp[mk_eq,dg,a,d,g,e]
def n45(Φ:aT)(d:eh (Φ 0))(i:Φ 15 [.lst .fz (bL [])]=ok (.bl false))(j:Φ 44 [.lst .fz (bL [])]=ok (.bl true)){n:Nat}(o:1<=n)(m:n<=12):mk Φ 1 4 fm [aQ n []]=ok (.bl false):=by
 have e:Φ 0 [.int (n:Int)]=ok (.bl true):=by rw[d];rfl
 have a:bX Φ (.seq (.v 2)) [some (aQ n []),some (.int n),some (.lst .fz (bL [])),none]=ok (bL [],[some (aQ n []),some (.int n),some (.lst .fz (bL [])),none]):=by
  rw[vU (f:=.fz) (ds:=bL []) (by simp)];simp
 have c:=dT (Φ:=Φ) (t:=.nm 3) (b:=lg) a (show dC _ _ (bL []) _=ok (.nx,[some (aQ n []),some (.int n),some (.lst .fz (bL [])),none]) from rfl);have c1:cY .lt (.int (n:Int)) (.int 1)=ok (.bl false):=by
  show ok (D.bl (decide ((n:Int)<1)))=_;rw[fu (by left)]
 have g:cY .gt (.int (n:Int)) (.int 12)=ok (.bl false):=by
  show ok (D.bl (decide ((12:Int)<n)))=_;rw[fu (by left)]
 have k:∀ds,eE .tuple (.tup ds)=true:=λ_=>rfl;have l:∀f ds,eE .list (.lst f ds)=true:=λ_ _=>rfl;unfold aQ at c ⊢;simp[mk_eq,fm,k,l,e,c1,g,c,j,i]
def n16(Φ:aT){n:Nat}(c:Φ 45 [aQ n []]=ok (.bl false)):mk Φ 1 1 dO [aQ n []]=ok (.bl false):=by
 have b:aE aI (aQ n [])=aQ n []:=by simp[aQ]
 have a:aE bg (aQ n [])=aQ n []:=by simp[aQ]
 simp[mk_eq,dO,b,a,c]
def xD(ds:aa):Prop:=∃n:Nat,1<=n/\n<=12/\ds=[aQ n []]
def Um(Φ:aT)(a:Nat->aa->Prop)(g:∀n:Nat,1<=n->n<=12->Φ 16 [aQ n []]=ok (.bl false))(ds:aa)(h:xD ds):ds.length=1/\Er Φ a 1 b9 (ds.map some++List.replicate (1 - ds.length) none):=by
 obtain⟨n,c,b,rfl⟩:=h;have e:aE aI (aQ n [])=aQ n []:=by simp[aQ]
 have d:aE bg (aQ n [])=aQ n []:=by simp[aQ]
 refine⟨rfl,.hd (.BD ?_ (.hd .rs))⟩;show nM Φ (.not (.call 16 [(.v 0)])) [some (aQ n [])]=_;simp[e,d,g n c b]
def Ul(Φ:aT)(a:Nat->aa->Prop)(n:Nat)(d:∀ds,xD ds->a 17 ds)(ds:aa)(h:xD ds):ds.length=1/\Er Φ a n fj (ds.map some++List.replicate (4 - ds.length) none):=by
 obtain⟨n,c,b,rfl⟩:=h;refine⟨rfl,.hd (.ex (xs:=[aQ n []]) (by simp[aQ]) (d _ ⟨n,c,b,by simp[aQ]⟩))⟩
def X1(k:Nat)(ds:aa):Prop:=∃(n:Nat) (xs:aa),1<=n/\n<=12/\xs.length=k/\ds=aQ n []::xs
noncomputable def wZ:af:=[.asg (.nm 2) (.call 21 [(.v 0)]),.ex (.call 55 [(.v 0)]),.ex (.call 56 [(.v 2)]),.ex (.call 47 [(.v 1),(.ix (.v 0) (.int 0))]),.asg (.nm 3) (.cL 1041 [(.ix (.v 0) (.int 0))]),.ret (.call 42 [(.comp 1 (.nm 0) [2,1] .seq [(.call 59 [(.v 3)])] [] (.call 64 [(.v 1),(.v 0),(.v 2)]))])]
def rW(Φ:aT)(a:Nat->aa->Prop)(e:∀ds,xD ds->a 21 ds){k i m:Nat}{b:af}(ds:aa)(h:X1 k ds):ds.length=k+1/\Er Φ a 1 (.asg (.nm i) (.call 21 [(.v 0)])::b) (ds.map some++List.replicate (m - ds.length) none):=by
 obtain⟨n,xs,d,c,hl,rfl⟩:=h;refine⟨by simp[hl],.hd (.asg (xs:=[aQ n []]) ?_ (e _ ⟨n,d,c,by simp[aQ]⟩))⟩;simp[aQ]
noncomputable def Ao:CE:=.comp 1 (.nm 0) [3] .seq [(.cL 1024 [(.v 0),(.bin .add (.v 2) (.int 1))])] [] (.tup [(.v 1),(.v 0)])
def vh:af:=[.mut 1013 1 [Ao]]
def mI:af:=[.asg (.nm 1) (.lst []),.fr (.tp [2,3]) (.xu 1003 [(.v 0)]) vh,.ret (.v 1)]
theorem oW(Φ:aT)(n:Φ 1013=yE){c:D}{R:ae->D}{hs:ae}(o:aE bg c=c)(q:∀j:Nat,j<hs.length->Φ 1024 [c,.int ((j:Int)+1)]=ok (R (hs.drop (j+1))))(hR:∀b,eK Φ .seq [R b]=ok (b.map D.int))(hl:hs.length<=12):∀(b:ae) (j:Nat) (a:List (Int×Int)) (k c3:aJ),hs.drop j=b->a.length+12*b.length<=200 ->
  ∃m l,dC (λd ρ=>bU (.tp [2,3]) d ρ) (λρ=>bE Φ vh ρ) (br j (ag b)) [some c,some (.lst .ow (bN a)),k,c3]=ok (.nx,[some c,some (.lst .ow (bN (a++eV b))),m,l])
 |[],j,a,k,c3,_,_=>⟨k,c3,by simp[f9,eV,br]⟩
 |g::b,j,a,k,c3,hd,h=>by
  rw[cz]at h;have u:j<hs.length:=by
   have:=aaI List.length hd;rw[hW,cz]at this;left
  have y:b.length<=12:=by
   have:=aaI List.length hd;rw[hW,cz]at this;left
  have e:hs.drop (j+1)=b:=by
   rw[<- List.drop_drop,hd];rfl
  have e0:=q j u;rw[e]at e0;have r:bo Φ Ao [some c,some (.lst .ow (bN a)),some (.int j),some (.int g)]=ok (.lst .ow (bN (b.map λh=>(g,h)))):=by
   unfold Ao;rw[bY (xs:=[R b]) (items:=b.map D.int) (ds:=b.map λh=>iC (g,h)) (by simp[o,e0]) (hR b) (bH λh x=>⟨[some (.int h),some (.int g)],by simp[bx],by simp,by simp[iC]⟩) (by simp;exact bA (by left))];simp[bN,aG]
  have v:Φ 1013 [.lst .ow (bN a),.lst .ow (bN (b.map λh=>(g,h)))]=ok (.lst .ow (bN (a++b.map λh=>(g,h)))):=by
   rw[n];show(if aU anyF (bN (b.map λh=>(g,h)))=false/\(bN a).length+(bN (b.map λh=>(g,h))).length<=du then ok (D.lst .ow (bN a++bN (b.map λh=>(g,h))))else none)=_;rw[cc ⟨rP _ _,by simp;exact bA (by left)⟩];unfold bN;rw[f6]
  have t:=xG (Φ:=Φ) (p:=1013) (i:=1) (es:=[Ao]) (ρ:=[some c,some (.lst .ow (bN a)),some (.int j),some (.int g)]) (xs:=[.lst .ow (bN (b.map λh=>(g,h)))]) (by simp[r]) (by simp) rfl v;obtain⟨m,l,s⟩:=oW Φ n o q hR hl b (j+1) (a++b.map λh=>(g,h)) (some (.int j)) (some (.int g)) e (by simp;left);refine⟨m,l,cQ (ρ1:=[some c,some (.lst .ow (bN a)),some (.int j),some (.int g)]) (by simp) (ρ2:=[some c,some (.lst .ow (bN (a++b.map λh=>(g,h)))),some (.int j),some (.int g)]) ?_ ?_⟩
  ·rw[vh,cp,t];simp
  ·exact s.trans (by simp[eV])
def Mj(Φ:aT)(n:Φ 1003=g_)(l:Φ 1013=yE)(k:Φ 1024=rZ):qg (mk Φ 1 4 mI)/\y4 (mk Φ 1 4 mI):=by
 have m:∀(c:D) (hs:ae),aE bg c=c->bh bK c=false->Φ 1003 [c]=ok (.lst .ow (br 0 (ag hs)))->bX Φ (.xu 1003 [(.v 0)]) [some c,some (.lst .ow []),none,none]=ok (br 0 (ag hs),[some c,some (.lst .ow []),none,none]):=λc hs o r q=>by
  have s:bX Φ (.xu 1003 [(.v 0)]) [some c,some (.lst .ow []),none,none]=bd (bJ Φ [(.v 0)] [some c,some (.lst .ow []),none,none]) λxs=>bd (Φ 1003 xs) λd=>bd (mf d) λitems=>ok (items,if aU bK xs then iM (dN [(.v 0)]) [some c,some (.lst .ow []),none,none]else[some c,some (.lst .ow []),none,none]):=rfl;rw[s];have:bJ Φ [(.v 0)] [some c,some (.lst .ow []),none,none]=ok [c]:=by simp[o]
  rw[this,cS,q,cS];show bd (ok (aw aI (br 0 (ag hs)))) _=_;rw[cS,pR,eA];simp[aU,r]
 have dr:∀(hs:ae) (j:Nat),(ag hs).drop (j+1)=ag (hs.drop (j+1)):=λhs j=>by unfold ag;rw[<- o1]
 refine⟨λhs hl=>?_,λhs hl=>?_⟩
 ·have g:∀j:Nat,j<hs.length->Φ 1024 [.lst .fz (ag hs),.int ((j:Int)+1)]=ok (.lst .ow (ag (hs.drop (j+1)))):=λj p=>by
   rw[k];show(if 0<=((j:Int)+1)then ok (D.lst .ow (aw bg ((ag hs).drop ((j:Int)+1).toNat)))else none)=_;rw[cc (by left),show((j:Int)+1).toNat=j+1 by left,dr];simp
  obtain⟨u,c3,i⟩:=oW Φ l (c:=.lst .fz (ag hs)) (R:=λe=>.lst .ow (ag e)) (hs:=hs) (by simp) g (λe=>by rw[b6,eA];rfl) hl hs 0 [] none none rfl (by simp;left);have a:=dT (Φ:=Φ) (t:=.tp [2,3]) (b:=vh) (m (.lst .fz (ag hs)) hs (by simp) (by simp) (by rw[n];rfl)) i;rw[fx]at a;simp[mk_eq,mI,a]
 ·have g:∀j:Nat,j<hs.length->Φ 1024 [.tup (ag hs),.int ((j:Int)+1)]=ok (.tup (ag (hs.drop (j+1)))):=λj p=>by
   rw[k];show(if 1<=((j:Int)+1)/\((j:Int)+1)<=((ag hs).length:Nat)/\aU anyF (ag hs)=false then ok (D.tup ((ag hs).drop ((j:Int)+1).toNat))else none)=_;rw[cc ⟨by left,by simp;left,by simp⟩,show((j:Int)+1).toNat=j+1 by left,dr]
  obtain⟨u,c3,i⟩:=oW Φ l (c:=.tup (ag hs)) (R:=λe=>.tup (ag e)) (hs:=hs) (by simp) g (λe=>by rw[tR,eA];rfl) hl hs 0 [] none none rfl (by simp;left);have a:=dT (Φ:=Φ) (t:=.tp [2,3]) (b:=vh) (m (.tup (ag hs)) hs (by simp) (by simp) (by rw[n];rfl)) i;rw[fx]at a;simp[mk_eq,mI,a]
def zB(rs:ai)(p:Int×Int):Bool:=decide (aB rs p.1 p.2=0)
def Pq(n:Nat)(rs:ai):List (Int×Int):=(eV (j9 n)).filter (zB rs)
def ZO(n g h:Nat):aa:=[.lst .ow (a_ (qt n g h 1 1)),.lst .ow (a_ (qt n g h 1 (-1))),.lst .ow (a_ (qt n g h (-1) 1)),.lst .ow (a_ (qt n g h (-1) (-1)))]
def ZP(n:Nat):List (Int×Int)->D
 |[]=>.bP
 |p::_=>.lst .ow (ZO n p.1.toNat p.2.toNat)
def zr{n:Nat}{p:Int×Int}(h:p∈eV (j9 n)):∃a b:Nat,a<n/\b<n/\p=((a:Int),(b:Int)):=by
 obtain⟨d,c⟩:=lq h;unfold j9 at d c;simp at d c;obtain⟨a,g,j⟩:=d;obtain⟨b,e,i⟩:=c;exact⟨a,b,g,e,acA j.symm i.symm⟩
def zi(n:Nat):(j9 n).length=n:=by unfold j9;simp
noncomputable def JD:CE:=.comp 1 (.nm 0) [1] .seq [(.call 59 [(.cL 1041 [(.ix (.v 0) (.int 0))])])] [(.cmp .eq (.ix (.call 62 [(.v 1),(.v 0)]) (.int 0)) (.int 0))] (.v 0)
noncomputable def CY:af:=[.app 3 (.call 70 [(.ix (.v 0) (.int 0)),(.ix (.v 2) (.int 0)),(.v 4),(.v 5)])]
def CZ:af:=[.fr (.nm 5) (.seq (.tup [(.int 1),(.neg (.int 1))])) CY]
def w6:af:=[.asg (.nm 1) (.call 21 [(.v 0)]),.ex (.call 56 [(.v 1)]),.asg (.nm 2) JD,.ifs (.cmp .eq (.v 2) (.lst [])) [.ret .bP] [],.asg (.nm 3) (.lst []),.fr (.nm 4) (.seq (.tup [(.int 1),(.neg (.int 1))])) CZ,.ret (.v 3)]
def U2(m:au):Prop:=∀k n a,Dr k n a->(∀g:Nat,g<n->0<aB a g g)->m [aQ n a]=ok (ZP n (Pq n a))
abbrev rn(n:Nat)(rs:ai)(c1:aJ)(ps:List (Int×Int))(ds:aa)(c4 c5:aJ):aX:=[some (aQ n rs),c1,some (.lst .ow (bN ps)),some (.lst .ow ds),c4,c5]
section
variable (Φ:aT)(K0:Gv (Φ 70)){n:Nat}{rs:ai}{ps:List (Int×Int)}{g h:Nat}(hn:n<=12)(hg:g<n)(hh:h<n)(c1:aJ)
include K0 hn hg hh
def AM(ds:aa)(hl:ds.length<=4)(a b:Int):bE Φ CY (rn n rs c1 (((g:Int),(h:Int))::ps) ds (some (.int a)) (some (.int b)))=ok (.nx,rn n rs c1 (((g:Int),(h:Int))::ps) (ds++[.lst .ow (a_ (qt n g h a b))]) (some (.int a)) (some (.int b))):=by
 have e:=K0 n g h a b hn hg hh;have d:aE bg (aQ n rs)=aQ n rs:=by simp[aQ]
 have i:aQ n rs=.tup [.int n,.lst .fz (bL rs)]:=rfl;have c:nV (aQ n rs) (.int 0)=ok (.int n):=by rw[i];simp
 have x1:uH (bN (((g:Int),(h:Int))::ps)) 0=ok (iC ((g:Int),(h:Int))):=by
  show uH (iC ((g:Int),(h:Int))::ps.map iC) 0=_;rw[ZQ];rfl
 have k:eX .ow=.ow:=rfl;have j:ds.length<du:=by show ds.length<1000000;left
 simp[CY,d,c,x1,e,k,j]
def AN(ds:aa)(hl:ds.length<=2)(a:Int)(c5:aJ):bE Φ CZ (rn n rs c1 (((g:Int),(h:Int))::ps) ds (some (.int a)) c5)=ok (.nx,rn n rs c1 (((g:Int),(h:Int))::ps) (ds++[.lst .ow (a_ (qt n g h a 1)),.lst .ow (a_ (qt n g h a (-1)))]) (some (.int a)) (some (.int (-1)))):=by
 have i:=AM Φ K0 (rs:=rs) (ps:=ps) hn hg hh c1 ds (by left) a 1;have e:=AM Φ K0 (rs:=rs) (ps:=ps) hn hg hh c1 (ds++[.lst .ow (a_ (qt n g h a 1))]) (by simp;left) a (-1);simp only[mu,h9,fx]at e;have c:bX Φ (.seq (.tup [(.int 1),(.neg (.int 1))])) (rn n rs c1 (((g:Int),(h:Int))::ps) ds (some (.int a)) c5)=ok ([.int 1,.int (-1)],rn n rs c1 (((g:Int),(h:Int))::ps) ds (some (.int a)) c5):=by
  rw[Nt (ds:=[.int 1,.int (-1)]) (by simp)];simp
 have k:dC (λd ρ=>bU (.nm 5) d ρ) (λρ=>bE Φ CY ρ) [.int 1,.int (-1)] (rn n rs c1 (((g:Int),(h:Int))::ps) ds (some (.int a)) c5)=ok (.nx,rn n rs c1 (((g:Int),(h:Int))::ps) (ds++[.lst .ow (a_ (qt n g h a 1)),.lst .ow (a_ (qt n g h a (-1)))]) (some (.int a)) (some (.int (-1)))):=by
  refine cQ (ρ1:=rn n rs c1 (((g:Int),(h:Int))::ps) ds (some (.int a)) (some (.int 1))) (by simp) (ρ2:=rn n rs c1 (((g:Int),(h:Int))::ps) (ds++[.lst .ow (a_ (qt n g h a 1))]) (some (.int a)) (some (.int 1))) (by exact i) ?_;refine cQ (ρ1:=rn n rs c1 (((g:Int),(h:Int))::ps) (ds++[.lst .ow (a_ (qt n g h a 1))]) (some (.int a)) (some (.int (-1)))) (by simp) (ρ2:=rn n rs c1 (((g:Int),(h:Int))::ps) (ds++[.lst .ow (a_ (qt n g h a 1)),.lst .ow (a_ (qt n g h a (-1)))]) (some (.int a)) (some (.int (-1)))) (by exact e) ?_;rw[f9]
 have j:=dT (Φ:=Φ) (t:=.nm 5) (b:=CY) c k;rw[CZ,cp,j];rfl
def J2:ib Φ (.fr (.nm 4) (.seq (.tup [(.int 1),(.neg (.int 1))])) CZ) (rn n rs c1 (((g:Int),(h:Int))::ps) [] none none)=ok (.nx,rn n rs c1 (((g:Int),(h:Int))::ps) (ZO n g h) (some (.int (-1))) (some (.int (-1)))):=by
 have d:=AN Φ K0 (rs:=rs) (ps:=ps) hn hg hh c1 [] (by simp) 1 none;have c:=AN Φ K0 (rs:=rs) (ps:=ps) hn hg hh c1 [.lst .ow (a_ (qt n g h 1 1)),.lst .ow (a_ (qt n g h 1 (-1)))] (by simp) (-1) (some (.int (-1)));simp only[h9,fx]at d c;have a:bX Φ (.seq (.tup [(.int 1),(.neg (.int 1))])) (rn n rs c1 (((g:Int),(h:Int))::ps) [] none none)=ok ([.int 1,.int (-1)],rn n rs c1 (((g:Int),(h:Int))::ps) [] none none):=by
  rw[Nt (ds:=[.int 1,.int (-1)]) (by simp)];simp
 refine dT (Φ:=Φ) (t:=.nm 4) (b:=CZ) a ?_;refine cQ (ρ1:=rn n rs c1 (((g:Int),(h:Int))::ps) [] (some (.int 1)) none) (by simp) (ρ2:=rn n rs c1 (((g:Int),(h:Int))::ps) [.lst .ow (a_ (qt n g h 1 1)),.lst .ow (a_ (qt n g h 1 (-1)))] (some (.int 1)) (some (.int (-1)))) (by exact d) ?_;refine cQ (ρ1:=rn n rs c1 (((g:Int),(h:Int))::ps) [.lst .ow (a_ (qt n g h 1 1)),.lst .ow (a_ (qt n g h 1 (-1)))] (some (.int (-1))) (some (.int (-1)))) (by simp) (ρ2:=rn n rs c1 (((g:Int),(h:Int))::ps) (ZO n g h) (some (.int (-1))) (some (.int (-1)))) (by exact c) ?_;rw[f9]
end
def JZ(Φ:aT)(t:qg (Φ 59))(u:gD (Φ 62))(e:Φ 1041=Na){n:Nat}{rs:ai}(hn:n<=12)(c3 c4 c5:aJ):bo Φ JD [some (aQ n rs),some (.lst .ow (bw n rs .ow 0 n)),none,c3,c4,c5]=ok (.lst .ow (bN (Pq n rs))):=by
 have r:=t (j9 n) (by rw[zi];exact hn);have i:aE bg (aQ n rs)=aQ n rs:=by simp[aQ]
 have l:aQ n rs=.tup [.int n,.lst .fz (bL rs)]:=rfl;have d:nV (aQ n rs) (.int 0)=ok (.int n):=by rw[l];simp
 have e0:Φ 1041 [.int n]=ok (.lst .ow (ag (j9 n))):=by
  rw[e];show(if (n:Int)<=du /\ -du<=(n:Int)then ok (D.lst .ow ((j9 n).map D.int))else none)=_;rw[cc ⟨by show(n:Int)<=1000000;left,by show -1000000<=(n:Int);left⟩];rfl
 have hlen:=lr (j9 n);rw[zi]at hlen;have v:n*n<=144:=abC hn hn;have k:(Pq n rs).length<=(eV (j9 n)).length:=abB ..;unfold JD;rw[bY (xs:=[.lst .ow (bN (eV (j9 n)))]) (items:=(eV (j9 n)).map iC) (ds:=(Pq n rs).map iC) (by simp[i,d,e0,r]) (by rw[b6,jU];rfl) (eB (g:=iC) λp j=>⟨[some (iC p),some (.lst .fz (bw n rs .fz 0 n))],by simp[bx,ba],?_,λ_=>by simp⟩) (by simp;exact bA (by left))]
 ·simp[bN,aG]
 ·obtain⟨a,b,m,o,rfl⟩:=zr j;have s:=u n rs a b m o;have c:cY .eq (.int (aB rs a b).num) (.int 0)=ok (.bl (zB rs ((a:Int),(b:Int)))):=by
   rw[kf rfl rfl];show ok (D.bl ((aB rs a b).num==0))=_;congr 2;unfold zB;by_cases z:aB rs a b=0
   ·rw[z];simp
   ·rw[fu z];exact beq_eq_false_iff_ne.mpr λq=>z (Rat.num_eq_zero.mp q)
  simp[ba,s,c]
def D9(f:Fl)(ps:List (Int×Int)):eJ 40 (.lst f (bN ps))=true:=by
 show(bN ps).all (eJ 39)=true;unfold bN;rw[g6];exact List.all_eq_true.mpr λ_ _=>rfl
def W4(Φ:aT)(z:bF (Φ 21))(D:mO (Φ 56))(A:qg (Φ 59))(C:gD (Φ 62))(B:Gv (Φ 70))(v:Φ 1041=Na):U2 (mk Φ 1 6 w6):=by
 intro k n d I i;have j:=I.n2;have u:=z k n d I;have t:=D n d j i;have m:aE bg (aQ n d)=aQ n d:=by simp[aQ]
 have o:aE aI (aQ n d)=aQ n d:=by simp[aQ]
 have s:eX .ow=.ow:=rfl;have r:=dA bK n d .ow 0 n rfl;have e:=JZ Φ A C v (rs:=d) j none none none;have q:=Co Φ JD [some (aQ n d),some (.lst .ow (bw n d .ow 0 n)),none,none,none,none] rfl;have mem:∀p∈Pq n d,∃a b:Nat,a<n/\b<n/\p=((a:Int),(b:Int)):=λp i=>zr (List.mem_filter.mp i).1;cases l:Pq n d with
 |nil =>
  rw[l]at e;have c:∀f,cY .eq (.lst f []) (.lst .ow [])=ok (.bl true):=λf=>rfl;simp[mk_eq,w6,o,m,u,t,ba,s,r,q,e,bN,c,bg,ZP]
 |cons p g =>
  obtain⟨a,b,x,y,rfl⟩:=mem p (by rw[l];exact aak);rw[l]at e;have hl:=J2 Φ B (rs:=d) (ps:=g) j x y (some (.lst .ow (bw n d .ow 0 n)));have c:∀f,cY .eq (.lst f (bN (((a:Int),(b:Int))::g))) (.lst .ow [])=ok (.bl false):=λf=>by
   rw[kf (D9 _ _) rfl];rfl
  simp[mk_eq,w6,o,m,u,t,ba,s,r,q,e,c,bg,ZP,hl]
def X71(ds:aa):Prop:=∃(k n:Nat) (rs:ai),Dr k n rs/\(∃g:Nat,g<n/\aB rs g g=0)/\ds=[aQ n rs]
def Zo(Φ:aT)(b:Nat->aa->Prop)(j:bF (Φ 21))(m:∀ds,G1 ds->b 56 ds)(ds:aa)(h:X71 ds):ds.length=1/\Er Φ b 6 w6 (ds.map some++List.replicate (6 - ds.length) none):=by
 obtain⟨k,n,a,I,e,rfl⟩:=h;have l:=j k n a I;have d:aE aI (aQ n a)=aQ n a:=by simp[aQ]
 have c:aE bg (aQ n a)=aQ n a:=by simp[aQ]
 have i:eX .ow=.ow:=rfl;have g:=dA bK n a .ow 0 n rfl;refine⟨rfl,.tl (ρ':=[some (aQ n a),some (.lst .ow (bw n a .ow 0 n)),none,none,none,none]) ?_ (.hd (.ex (xs:=[.lst .al (bw n a .al 0 n)]) ?_ (m _ ⟨k,n,a,I,e,?_⟩)))⟩
 ·show ib Φ (.asg (.nm 1) (.call 21 [(.v 0)])) [some (aQ n a),none,none,none,none,none]=_;simp[d,c,l,ba,i,g]
 ·simp[ba,bg]
 ·simp[ba,aI]
def Lo(m:au):Prop:=∀k n a g xs j i z,Dr k n a->(∀r∈a,r.2.length=z)->xs.length=n->(∀q∈xs,Sm j q)->j<=100->(∀g h,Sm i (aB a g h))->(∀g:Nat,g<n->0<aB a g g)->(7*i+3+4*j)*(n*n)<=3000->∃r,m [aQ n a,.lst g (a_ xs)]=ok r
noncomputable def Jz:CE:=.comp 1 (.nm 0) [2,1] .seq [(.call 59 [(.v 3)])] [] (.call 64 [(.v 1),(.v 0),(.v 2)])
def Rg(Φ:aT)(eW:bF (Φ 21))(Tu:gg (Φ 42))(K:cW 4 cH (Φ 47))(R:dR (Φ 55))(BQ:mO (Φ 56))(N5:qg (Φ 59))(G:Gx (Φ 64))(J:Φ 1041=Na):Lo (mk Φ 2 4 wZ):=by
 intro k n c g xs j i z I T C u V m l o;have r:=I.n2;have e1:=eW k n c I;have F:=λf=>K (.lst f (a_ xs)) n (by show(a_ xs).length<=1000000;simp;left);simp only[qd,C,decide_true,if_true]at F;have e2:=R k n c z I T;have e4:=BQ n c r l;have e6:=N5 (j9 n) (by rw[zi];exact r);have P:aE bg (aQ n c)=aQ n c:=by simp[aQ]
 have Q:aE aI (aQ n c)=aQ n c:=by simp[aQ]
 have W:aQ n c=.tup [.int n,.lst .fz (bL c)]:=rfl;have H:nV (aQ n c) (.int 0)=ok (.int n):=by rw[W];simp
 have e0:Φ 1041 [.int n]=ok (.lst .ow (ag (j9 n))):=by
  rw[J];show(if (n:Int)<=du /\ -du<=(n:Int)then ok (D.lst .ow ((j9 n).map D.int))else none)=_;rw[cc ⟨by show(n:Int)<=1000000;left,by show -1000000<=(n:Int);left⟩];rfl
 have hlen:=lr (j9 n);rw[zi]at hlen;have EV:n*n<=144:=abC r r;have sz:∀p∈eV (j9 n),∃a b:Nat,a<n/\b<n/\p=((a:Int),(b:Int)):=λp l=>by
  obtain⟨O,N⟩:=lq l;have t:∀x∈j9 n,∃a:Nat,a<n/\x=a:=λx E=>by
   unfold j9 at E;obtain⟨a,d,rfl⟩:=List.mem_map.mp E;exact⟨a,by simpa using List.mem_range.mp d,rfl⟩
  obtain⟨a,d,ea⟩:=t _ O;obtain⟨b,o,Z⟩:=t _ N;exact⟨a,b,d,o,acA ea Z⟩
 have B:∀a:Nat,a<n->aB c a a≠0:=λa d z=>by have:=l a d;rw[z]at this;exact absurd this (by decide)
 have Vi:∀(a b:Nat),a<n->b<n->Sm (7*i+3+4*j) (pI c xs a b):=λa b d o=>by
  have M:=u _ (cj (qs:=xs) (h:=(a:Int)) (by left) (by left)).2;have L:=u _ (cj (qs:=xs) (h:=(b:Int)) (by left) (by left)).2;have A:=(M.div (m a a) (B a d)).sub (L.div (m b b) (B b o));exact((((m a a).mul (m b b)).sub (m a b)).mul (A.mul A)).mono (by left)
 have S:bo Φ Jz [some (aQ n c),some (.lst g (a_ xs)),some (.lst .ow (bw n c .ow 0 n)),some (.lst .ow (ag (j9 n)))]=ok (.lst .ow (a_ ((eV (j9 n)).map λp=>pI c xs p.1 p.2))):=by
  unfold Jz;rw[bY (xs:=[.lst .ow (bN (eV (j9 n)))]) (items:=(eV (j9 n)).map iC) (ds:=(eV (j9 n)).map λp=>qD (pI c xs p.1 p.2)) (by simp[e6]) (by rw[b6,jU];rfl) (bH λp y=>⟨[some (iC p),some (.lst .fz (bw n c .fz 0 n)),some (.lst (aI g) (a_ xs))],by simp[bx,ba],by simp,?_⟩) (by simp;exact bA (by left))]
  ·simp[a_,aG]
  ·obtain⟨a,b,d,s,rfl⟩:=sz p y;have e:=λf=>G k n c f xs j a b I C u V d s (l a d) (l b s);simp[ba,e]
 have e7:=λf=>Tu f ((eV (j9 n)).map λp=>pI c xs p.1 p.2) (7*i+3+4*j) ⟨λq U=>by
  obtain⟨p,y,rfl⟩:=List.mem_map.mp U;obtain⟨a,b,d,s,rfl⟩:=sz p y;exact Vi a b d s,by rw[b4];exact aaG (abt _ hlen) o,by rw[b4];left⟩
 have Y:eX .ow=.ow:=rfl;have X:=dA bK n c .ow 0 n rfl;have YQ:wZ=[.asg (.nm 2) (.call 21 [(.v 0)]),.ex (.call 55 [(.v 0)]),.ex (.call 56 [(.v 2)]),.ex (.call 47 [(.v 1),(.ix (.v 0) (.int 0))]),.asg (.nm 3) (.cL 1041 [(.ix (.v 0) (.int 0))]),.ret (.call 42 [Jz])]:=rfl;exact⟨_,by simp[mk_eq,YQ,Q,P,H,e0,e1,e2,F,e4,Co Φ Jz _ rfl,S,e7,ba,Y,X];rfl⟩
def i7{g:Nat}{r:D}(b:bJ Φ es ρ=ok xs)(a:Φ g (aw aI xs)=ok r):ib Φ (.ex (.call g es)) ρ=ok (.nx,ρ):=by
 rw[Qw];rw[yJ,b,wW];show bd (VV (Φ g (aw aI xs))) _=_;rw[a];rfl
def Ca(p:D->Int->Bool)(ds:aa):Prop:=∃(d:D) (n:Int),ds=[d,.int n]/\eN d/\p d n=false
def T8{i:Nat->aa->Prop}{f c:Nat}{p:D->Int->Bool}(b:∀g d n,p (aE g d) n=p d n)(a:∀g d,eN d->eN (aE g d))(h:∀d n,eN d->Φ f [d,.int n]=ok (.bl (p d n)))(j:Ca p ds):ds.length=2/\Er Φ i c (gf f c) (ds.map some++List.replicate (2 - ds.length) none):=by
 obtain⟨d,n,rfl,k,l⟩:=j;have e:=h (aE aI (aE bg d)) n (a _ _ (a _ _ k));rw[b,b,l]at e;exact⟨rfl,.hd (.BD (by simp[e]) (.hd .rs))⟩
section
variable {Φ:aT}{k n:Nat}{rs:ai}(I:Dr k n rs)
abbrev sX(n:Nat)(rs:ai):D:=.lst .ow (bw n rs .ow 0 n)
include I
def rE(g:bF (Φ 21)){i:Nat}{t:aX}(c:i<t.length):ib Φ (.asg (.nm (i+1)) (.call 21 [(.v 0)])) (some (aQ n rs)::t)=ok (.nx,some (aQ n rs)::t.set i (some (sX n rs))):=by
 have j:=g k n rs I;have b:aE aI (aQ n rs)=aQ n rs:=by simp[aQ]
 have a:aE bg (aQ n rs)=aQ n rs:=by simp[aQ]
 have e:eX .ow=.ow:=rfl;have d:=dA bK n rs .ow 0 n rfl;simp[b,a,j,ba,e,d,c]
omit I
def wx{t:aX}:bJ Φ [(.v 0)] (some (aQ n rs)::t)=ok [aQ n rs]:=by simp[aQ]
def we:aw aI [aQ n rs]=[aQ n rs]:=by simp[aQ]
def wt{j:Nat}{t:aX}(h:t[j]?=some (some (sX n rs))):bJ Φ [(.v (j+1))] (some (aQ n rs)::t)=ok [.lst .al (bw n rs .al 0 n)]:=by
 have:bo Φ (.v (j+1)) (some (aQ n rs)::t)=ok (.lst .al (bw n rs .al 0 n)):=by
  simp[h,ba,bg]
 show m5 (bo Φ (.v (j+1)) (some (aQ n rs)::t)) (ok [])=_;rw[this];rfl
def wd:aw aI [.lst .al (bw n rs .al 0 n)]=[.lst .fz (bw n rs .fz 0 n)]:=by simp[ba,aI]
def Fw{j:Nat}{t:aX}{a:D}(h:t[j]?=some (some a))(e:Fz a):bJ Φ [(.v (j+1)),(.ix (.v 0) (.int 0))] (some (aQ n rs)::t)=ok [a,.int n]:=by
 have d:aQ n rs=.tup [.int n,.lst .fz (bL rs)]:=rfl;have c:aE bg (aQ n rs)=aQ n rs:=by simp[aQ]
 have b:nV (aQ n rs) (.int 0)=ok (.int n):=by rw[d];simp
 simp[h,e.al,c,b]
def wu{j:Nat}{t:aX}{a:D}(h:t[j]?=some (some a))(c:Fz a):bJ Φ [(.v (j+1)),(.v 0)] (some (aQ n rs)::t)=ok [a,aQ n rs]:=by
 have b:aE bg (aQ n rs)=aQ n rs:=by simp[aQ]
 simp[h,c.al,b]
def TZ{a:D}{m:Int}(b:Fz a):aw aI [a,.int m]=[a,.int m]:=by simp[b.fz]
def TY{a:D}(b:Fz a):aw aI [a,aQ n rs]=[a,aQ n rs]:=by simp[b.fz,aQ]
end
def X5(k:Nat)(ds:aa):Prop:=∃(k' n:Nat) (rs:ai) (r a:Row) (xs:aa),Dr k' n rs/\r∈rs/\a∈rs/\r.2.length≠a.2.length/\xs.length=k/\ds=aQ n rs::xs
def V2(Φ:aT)(a:Nat->aa->Prop)(l:bF (Φ 21))(d:∀ds,J8 ds->a 55 ds){k i m:Nat}(q:i+1<m){b:af}(ds:aa)(h:X5 k ds):ds.length=k+1/\(k<m->Er Φ a 5 (.asg (.nm (i+1)) (.call 21 [(.v 0)])::.ex (.call 55 [(.v 0)])::b) (ds.map some++List.replicate (m - ds.length) none)):=by
 obtain⟨g,n,rs,r,c,xs,I,j,o,e,hl,rfl⟩:=h;refine⟨by simp[hl],λp=>.tl (rE I l (t:=xs.map some++List.replicate (m - (aQ n rs::xs).length) none) (by simp;left)) (.hd (.ex wx ?_))⟩;rw[we];exact d _ ⟨g,n,rs,r,c,I,j,o,e,rfl⟩
structure Lu(n:Nat)(rs:ai):Prop where
 dr:∃k,Dr k n rs
 sh:∀g h:Nat,g<n->h<n->0<aB rs g h
section
variable {Φ:aT}(eW:bF (Φ 21))(kl:dS (Φ 57)){n:Nat}{rs:ai}(G:Lu n rs)
include eW kl G
def Od{d:Nat->aa->Prop}{e:Nat}{a b c:D}{bb:af}(h:Er Φ d e bb [some (aQ n rs),some a,some b,some c,some (sX n rs),none]):Er Φ d e (.asg (.nm 4) (.call 21 [(.v 0)])::.ex (.call 57 [(.v 4)])::bb) [some (aQ n rs),some a,some b,some c,none,none]:=by
 obtain⟨k,I⟩:=G.dr;refine .tl (rE I eW (i:=3) (t:=[some a,some b,some c,none,none]) (by simp)) (.tl (i7 (wt (j:=3) (t:=[some a,some b,some c,some (sX n rs),none]) rfl) (by rw[wd];exact kl n rs I.n2 G.sh)) h)
def TV{c:Nat->aa->Prop}{e z:Nat}(d:dR (Φ 55))(hz:∀r∈rs,r.2.length=z){a b:D}{bb:af}(h:Er Φ c e bb [some (aQ n rs),some a,some b,some (sX n rs),none]):Er Φ c e (.asg (.nm 3) (.call 21 [(.v 0)])::.ex (.call 55 [(.v 0)])::.ex (.call 57 [(.v 3)])::bb) [some (aQ n rs),some a,some b,none,none]:=by
 obtain⟨k,I⟩:=G.dr;refine .tl (rE I eW (i:=2) (t:=[some a,some b,none,none]) (by simp)) (.tl (i7 wx (by rw[we];exact d k n rs z I hz)) (.tl (i7 (wt (j:=2) (t:=[some a,some b,some (sX n rs),none]) rfl) (by rw[wd];exact kl n rs I.n2 G.sh)) h))
end
def UW(ds:aa):Prop:=∃(n:Nat) (rs:ai) (a b c:D),Lu n rs/\Fz b/\eN b/\jw b n=false/\ds=[aQ n rs,a,b,c]
def Uc(Φ:aT)(e:Nat->aa->Prop)(o:bF (Φ 21))(m:dS (Φ 57))(i:∀ds,GZ ds->e 58 ds)(ds:aa)(h:UW ds):ds.length=4/\Er Φ e 7 qR (ds.map some++List.replicate (6 - ds.length) none):=by
 obtain⟨n,g,a,b,c,G,d,p,l,rfl⟩:=h;obtain⟨k,I⟩:=G.dr;refine⟨rfl,Od o m G (.hd (.ex (wu (j:=1) (t:=[some a,some b,some c,some (sX n g),none]) rfl d) ?_))⟩;rw[TY d];exact i _ ⟨k,n,g,b,I,p,by rw[d.al,d.fz],l,rfl⟩
def US(ds:aa):Prop:=∃(n z:Nat) (rs:ai) (b c:D),Lu n rs/\(∀r∈rs,r.2.length=z)/\Fz b/\eN b/\jw b n=false/\ds=[aQ n rs,b,c]
def T_(Φ:aT)(d:Nat->aa->Prop)(p:bF (Φ 21))(l:dR (Φ 55))(m:dS (Φ 57))(g:∀ds,GZ ds->d 58 ds)(ds:aa)(h:US ds):ds.length=3/\Er Φ d 7 uC (ds.map some++List.replicate (5 - ds.length) none):=by
 obtain⟨n,z,e,b,c,G,o,a,q,i,rfl⟩:=h;obtain⟨k,I⟩:=G.dr;refine⟨rfl,TV p m G l o (.hd (.ex (wu (j:=0) (t:=[some b,some c,some (sX n e),none]) rfl a) ?_))⟩;rw[TY a];exact g _ ⟨k,n,e,b,I,q,by rw[a.al,a.fz],i,rfl⟩
def jB(l:ae):Fz (.tup (ag l)):=⟨by simp,by simp,by simp⟩
def rS(qs:aS):Fz (.lst .fz (a_ qs)):=⟨by simp[aI],by simp[bg],by simp[cO]⟩
def ZL{c:Nat}{m:au}(h:cW c cH m){ws:aS}{n:Nat}(hn:n<=12)(hl:ws.length=n):m [.lst .fz (a_ ws),.int n]=ok .bP:=by
 have e:=h (.lst .fz (a_ ws)) n (by show(a_ ws).length<=1000000;simp;left);simp only[qd,hl,decide_true,if_true]at e;exact e
section
variable (Φ:aT)(Ψ:Nat->aa->Prop)(eW:bF (Φ 21))
include eW
def UU(ds:aa):Prop:=∃(n:Nat) (rs:ai) (r:Row) (a c:D),Lu n rs/\r∈rs/\Fz a/\eN a/\cH a n=false/\ds=[aQ n rs,a,.tup (ag r.2),c]
def Ub(g:dS (Φ 57))(d:hU (Φ 58))(l:∀ds,Ca cH ds->Ψ 46 ds)(ds:aa)(h:UU ds):ds.length=4/\Er Φ Ψ 3 qR (ds.map some++List.replicate (6 - ds.length) none):=by
 obtain⟨n,b,r,a,c,G,i,fa,ca,e,rfl⟩:=h;obtain⟨k,I⟩:=G.dr;refine⟨rfl,Od eW g G (.tl (i7 (wu (j:=1) (t:=[some a,some (.tup (ag r.2)),some c,some (sX n b),none]) rfl (jB _)) (by rw[TY (jB _)];exact d k n b r I i)) (.hd (.ex (Fw (j:=0) (t:=[some a,some (.tup (ag r.2)),some c,some (sX n b),none]) rfl fa) ?_)))⟩;rw[TZ fa];exact l _ ⟨a,n,rfl,ca,e⟩
def UX(ds:aa):Prop:=∃(n:Nat) (rs:ai) (r:Row) (ws:aS) (c:D),Lu n rs/\r∈rs/\ws.length=n/\Fz c/\eN c/\cH c n=false/\ds=[aQ n rs,.lst .fz (a_ ws),.tup (ag r.2),c]
def Ud(i:dS (Φ 57))(e:hU (Φ 58))(o:cW 3 cH (Φ 46))(d:∀ds,Ca cH ds->Ψ 47 ds)(ds:aa)(h:UX ds):ds.length=4/\Er Φ Ψ 4 qR (ds.map some++List.replicate (6 - ds.length) none):=by
 obtain⟨n,a,r,ws,c,G,l,hl,b,m,g,rfl⟩:=h;obtain⟨k,I⟩:=G.dr;refine⟨rfl,Od eW i G (.tl (i7 (wu (j:=1) (t:=[some (.lst .fz (a_ ws)),some (.tup (ag r.2)),some c,some (sX n a),none]) rfl (jB _)) (by rw[TY (jB _)];exact e k n a r I l)) (.tl (i7 (Fw (j:=0) (t:=[some (.lst .fz (a_ ws)),some (.tup (ag r.2)),some c,some (sX n a),none]) rfl (rS _)) (by rw[TZ (rS _)];exact ZL o I.n2 hl)) (.hd (.ex (Fw (j:=2) (t:=[some (.lst .fz (a_ ws)),some (.tup (ag r.2)),some c,some (sX n a),none]) rfl b) ?_))))⟩;rw[TZ b];exact d _ ⟨c,n,rfl,m,g⟩
def UT(ds:aa):Prop:=∃(n z:Nat) (rs:ai) (r:Row) (c:D),Lu n rs/\(∀r∈rs,r.2.length=z)/\r∈rs/\Fz c/\eN c/\cH c n=false/\ds=[aQ n rs,.tup (ag r.2),c]
def Ua(i:dR (Φ 55))(l:dS (Φ 57))(e:hU (Φ 58))(d:∀ds,Ca cH ds->Ψ 47 ds)(ds:aa)(h:UT ds):ds.length=3/\Er Φ Ψ 4 uC (ds.map some++List.replicate (5 - ds.length) none):=by
 obtain⟨n,z,a,r,c,G,m,o,b,p,g,rfl⟩:=h;obtain⟨k,I⟩:=G.dr;refine⟨rfl,TV eW l G i m (.tl (i7 (wu (j:=0) (t:=[some (.tup (ag r.2)),some c,some (sX n a),none]) rfl (jB _)) (by rw[TY (jB _)];exact e k n a r I o)) (.hd (.ex (Fw (j:=1) (t:=[some (.tup (ag r.2)),some c,some (sX n a),none]) rfl b) ?_)))⟩;rw[TZ b];exact d _ ⟨c,n,rfl,p,g⟩
def UZ(ds:aa):Prop:=∃(k n z:Nat) (rs:ai) (c:D),Dr k n rs/\(∀g:Nat,g<n->0<aB rs g g)/\(∀r∈rs,r.2.length=z)/\Fz c/\eN c/\cH c n=false/\ds=[aQ n rs,c]
def Ug(g:dR (Φ 55))(p:mO (Φ 56))(d:∀ds,Ca cH ds->Ψ 47 ds)(ds:aa)(h:UZ ds):ds.length=2/\Er Φ Ψ 4 wZ (ds.map some++List.replicate (4 - ds.length) none):=by
 obtain⟨k,n,z,a,c,I,m,l,b,o,e,rfl⟩:=h;refine⟨rfl,.tl (rE I eW (i:=1) (t:=[some c,none,none]) (by simp)) (.tl (i7 wx (by rw[we];exact g k n a z I l)) (.tl (i7 (wt (j:=1) (t:=[some c,some (sX n a),none]) rfl) (by rw[wd];exact p n a I.n2 m)) (.hd (.ex (Fw (j:=0) (t:=[some c,some (sX n a),none]) rfl b) ?_))))⟩;rw[TZ b];exact d _ ⟨c,n,rfl,o,e⟩
def UY(ds:aa):Prop:=∃(k n z:Nat) (rs:ai) (c:D),Dr k n rs/\(∃g:Nat,g<n/\aB rs g g=0)/\(∀r∈rs,r.2.length=z)/\ds=[aQ n rs,c]
def Ue(b:dR (Φ 55))(g:∀ds,G1 ds->Ψ 56 ds)(ds:aa)(h:UY ds):ds.length=2/\Er Φ Ψ 6 wZ (ds.map some++List.replicate (4 - ds.length) none):=by
 obtain⟨k,n,z,a,c,I,e,d,rfl⟩:=h;refine⟨rfl,.tl (rE I eW (i:=1) (t:=[some c,none,none]) (by simp)) (.tl (i7 wx (by rw[we];exact b k n a z I d)) (.hd (.ex (wt (j:=1) (t:=[some c,some (sX n a),none]) rfl) ?_)))⟩;rw[wd];exact g _ ⟨k,n,a,I,e,rfl⟩
def UR(ds:aa):Prop:=∃(k n z:Nat) (rs:ai) (b c:D),Dr k n rs/\(∃g h:Nat,g<n/\h<n/\aB rs g h=0)/\(∀r∈rs,r.2.length=z)/\ds=[aQ n rs,b,c]
def T9(d:dR (Φ 55))(e:∀ds,G0 ds->Ψ 57 ds)(ds:aa)(h:UR ds):ds.length=3/\Er Φ Ψ 6 uC (ds.map some++List.replicate (5 - ds.length) none):=by
 obtain⟨k,n,z,a,b,c,I,l,g,rfl⟩:=h;refine⟨rfl,.tl (rE I eW (i:=2) (t:=[some b,some c,none,none]) (by simp)) (.tl (i7 wx (by rw[we];exact d k n a z I g)) (.hd (.ex (wt (j:=2) (t:=[some b,some c,some (sX n a),none]) rfl) ?_)))⟩;rw[wd];exact e _ ⟨k,n,a,I,l,rfl⟩
end
mutual
theorem il(g h:Fl->Fl):∀d:D,aE g (aE h d)=aE (λf=>g (h f)) d
 |.tup ds=>by rw[aE,aE,aE,fK g h ds]
 |.lst f ds=>by rw[aE,aE,aE,fK g h ds]
 |.cX f a ds=>by rw[aE,aE,aE,fK g h ds]
 |.bP=>rfl
 |.bl _=>rfl
 |.int _=>rfl
 |.str _=>rfl
theorem fK(g h:Fl->Fl):∀ds:aa,aw g (aw h ds)=aw (λf=>g (h f)) ds
 |[]=>rfl
 |d::ds=>by rw[aw,aw,aw,il g h d,fK g h ds]
end
def Ft(d:D):aE aI (aE bg d)=aE aI d:=by
 rw[il];congr 1;funext f;cases f<;>rfl
def At(ρ:aX)(i:Nat)(Y:D):Prop:=∃y,ρ[i]?=some (some y)/\aE aI y=Y
def dG(Φ:aT)(e:CE)(ρ:aX)(Y:D):Prop:=∃d,bo Φ e ρ=ok d/\aE aI d=Y
def bV(Φ:aT)(es:aA)(ρ:aX)(Ys:aa):Prop:=∃ds,bJ Φ es ρ=ok ds/\aw aI ds=Ys
def z8(d:D):aE aI (aE aI d)=aE aI d:=by
 rw[il];congr 1;funext f;cases f<;>rfl
def Jh(d:D):aE aI (aE eX d)=aE aI d:=by
 rw[il];congr 1;funext f;cases f<;>rfl
def UP(d:D):aE bg (aE aI d)=aE aI d:=by
 rw[il];congr 1;funext f;cases f<;>rfl
mutual
theorem KA:∀d:D,bh cO (aE aI d)=false
 |.tup ds=>tw ds
 |.lst f ds=>by
  show(cO (aI f)||aU cO (aw aI ds))=false;rw[tw ds];cases f<;>rfl
 |.cX f a ds=>by
  show(cO (aI f)||aU cO (aw aI ds))=false;rw[tw ds];cases f<;>rfl
 |.bP=>rfl
 |.bl _=>rfl
 |.int _=>rfl
 |.str _=>rfl
theorem tw:∀ds:aa,aU cO (aw aI ds)=false
 |[]=>rfl
 |d::ds=>by
  show(bh cO (aE aI d)||aU cO (aw aI ds))=false;rw[KA d,tw ds];rfl
end
def Fs(d:D):Fz (aE aI d):=⟨z8 d,UP d,KA d⟩
def At.fz{i:Nat}{Y:D}(h:At ρ i Y):Fz Y:=by
 obtain⟨y,_,rfl⟩:=h;exact Fs y
section
variable {Φ:aT}{ρ:aX}{e a b:CE}{es:aA}{Y:D}{Ys:aa}
theorem At.v{i:Nat}(h:At ρ i Y):dG Φ (.v i) ρ Y:=by
 obtain⟨y,d,c⟩:=h;exact⟨aE bg y,by rw[Zw,d];rfl,by rw[Ft,c]⟩
def dG.i{z:Int}(h:dG Φ e ρ (.int z)):bo Φ e ρ=ok (.int z):=by
 obtain⟨d,g,c⟩:=h;cases d<;>first | (cases c;exact g)|cases c
theorem dG.bl{z:Bool}(h:dG Φ e ρ (.bl z)):bo Φ e ρ=ok (.bl z):=by
 obtain⟨d,g,c⟩:=h;cases d<;>first | (cases c;exact g)|cases c
def dG.s{z:Str}(h:dG Φ e ρ (.str z)):bo Φ e ρ=ok (.str z):=by
 obtain⟨d,g,c⟩:=h;cases d<;>first | (cases c;exact g)|cases c
def dG.of{d:D}(h:bo Φ e ρ=ok d):dG Φ e ρ (aE aI d):=⟨d,h,rfl⟩
def bV.nil:bV Φ [] ρ []:=⟨[],rfl,rfl⟩
def bV.cons(h:dG Φ e ρ Y)(t:bV Φ es ρ Ys):bV Φ (e::es) ρ (Y::Ys):=by
 obtain⟨d,g,rfl⟩:=h;obtain⟨ds,c,rfl⟩:=t;exact⟨d::ds,by rw[jF,g,c];rfl,rfl⟩
theorem bV.tup(h:bV Φ es ρ Ys):dG Φ (.tup es) ρ (.tup Ys):=by
 obtain⟨ds,c,rfl⟩:=h;exact⟨.tup ds,by rw[Uq,c];rfl,rfl⟩
theorem bV.lst(h:bV Φ es ρ Ys):dG Φ (.lst es) ρ (.lst .fz Ys):=by
 obtain⟨ds,c,rfl⟩:=h;exact⟨.lst .ow ds,by rw[Ur,c];rfl,rfl⟩
theorem bV.call{f:Nat}{r:D}(h:bV Φ es ρ Ys)(hf:Φ f Ys=ok r):dG Φ (.call f es) ρ (aE aI r):=by
 obtain⟨ds,c,rfl⟩:=h;refine⟨aE eX r,?_,Jh r⟩;rw[yJ,c];show bd (Φ f (aw aI ds)) _=_;rw[hf];rfl
def dG.tupI(h:dG Φ e ρ (.tup Ys)):∃ds,bo Φ e ρ=ok (.tup ds)/\aw aI ds=Ys:=by
 obtain⟨d,g,c⟩:=h;cases d<;>first | (cases c;exact⟨_,g,rfl⟩)|cases c
def dG.tJ(h:dG Φ e ρ (.lst f Ys)):∃g ds,bo Φ e ρ=ok (.lst g ds)/\aw aI ds=Ys/\aI g=f:=by
 obtain⟨d,i,c⟩:=h;cases d<;>first | (cases c;exact⟨_,_,i,rfl,rfl⟩)|cases c
def Lj{j:Nat}(c:(aw aI ds)[j]?=some Y):∃d,uH ds (j:Int)=ok d/\aE aI d=Y:=by
 rw[aG,List.getElem?_map]at c;cases g:ds[j]? with
 |none=>rw[g]at c;cases c
 |some x =>
  rw[g]at c;cases c;exact⟨aE bg x,at_of (by left) (by rw[dV];exact g),Ft x⟩
def dG.VC{j:Nat}(h:dG Φ a ρ (.tup Ys))(g:bo Φ b ρ=ok (.int j))(c:Ys[j]?=some Y):dG Φ (.ix a b) ρ Y:=by
 obtain⟨ds,l,rfl⟩:=h.tupI;obtain⟨d,k,i⟩:=Lj c;exact⟨d,by rw[OV,l,g];exact k,i⟩
def dG.KQ{j:Nat}(h:dG Φ a ρ (.lst f Ys))(i:bo Φ b ρ=ok (.int j))(c:Ys[j]?=some Y):dG Φ (.ix a b) ρ Y:=by
 obtain⟨g,ds,m,rfl,_⟩:=h.tJ;obtain⟨d,l,k⟩:=Lj c;exact⟨d,by rw[OV,m,i];exact l,k⟩
theorem dG.len{f:Fl}(h:dG Φ a ρ (.lst f Ys)):bo Φ (.bf .len [a]) ρ=ok (.int Ys.length):=by
 obtain⟨g,ds,c,rfl,_⟩:=h.tJ;rw[JE,jF,c];show ok (D.int (ds.length:Int))=_;rw[aG,b4]
def lL(ds:aa):aw aI (aw bg ds)=aw aI ds:=by
 rw[aG,aG,aG,fb];exact aay λd _=>Ft d
def dG.cat{g:Fl}(i:dG Φ a ρ (.lst f Ys))(d:dG Φ b ρ (.lst g Zs))(hf:qM f=false)(c:qM g=false)(hl:Ys.length+Zs.length<=1000):dG Φ (.bin .add a b) ρ (.lst .fz (Ys++Zs)):=by
 obtain⟨k,ds,m,rfl,rfl⟩:=i.tJ;obtain⟨j,es,l,rfl,rfl⟩:=d.tJ;rw[aG,aG,b4,b4]at hl;refine⟨.lst .ow (aw bg (ds++es)),?_,?_⟩
 ·rw[FG,m,l];exact aa4 ⟨by cases k<;>first|rfl|exact hf,by cases j<;>first|rfl|exact c,by show _<=1000000;left⟩
 ·show D.lst .fz (aw aI (aw bg (ds++es)))=_;rw[lL,aG,aG,aG,f6]
def dG.O9(d:dG Φ a ρ (.tup Ys))(c:dG Φ b ρ (.tup Zs))(hl:Ys.length+Zs.length<=1000):dG Φ (.bin .add a b) ρ (.tup (Ys++Zs)):=by
 obtain⟨ds,i,rfl⟩:=d.tupI;obtain⟨es,g,rfl⟩:=c.tupI;rw[aG,aG,b4,b4]at hl;refine⟨.tup (aw bg (ds++es)),?_,?_⟩
 ·rw[FG,i,g];exact aa4 (by show _<=1000000;left)
 ·show D.tup (aw aI (aw bg (ds++es)))=_;rw[lL,aG,aG,aG,f6]
def dG.Ws(h:dG Φ a ρ (.lst f Ys)):dG Φ (.bf .tuple1 [a]) ρ (.tup Ys):=by
 obtain⟨g,ds,c,rfl,_⟩:=h.tJ;exact⟨.tup (aw bg ds),by rw[JE,jF,c];rfl,aaI D.tup (lL ds)⟩
def dG.Xy(h:dG Φ a ρ (.tup Ys)):dG Φ (.bf .list1 [a]) ρ (.lst .fz Ys):=by
 obtain⟨ds,c,rfl⟩:=h.tupI;exact⟨.lst .ow (aw bg ds),by rw[JE,jF,c];rfl,aaI (D.lst .fz) (lL ds)⟩
def Pg(h:dG Φ e ρ Y)(i:VD e=false):∃d c,ib Φ (.ret e) ρ=ok (.rt d,c)/\aE aI d=Y:=by
 obtain⟨d,j,rfl⟩:=h;rw[Kd,Co Φ e ρ i,j];cases g:bh bK d with
 |false=>rw[jy g];exact⟨d,_,rfl,rfl⟩
 |true=>rw[vS g];exact⟨_,_,rfl,z8 d⟩
theorem dG.tT{k:Bool}(h:dG Φ a ρ (.bl k)):bo Φ (.bf .tT [a]) ρ=ok (.int (bif k then(1:Nat)else(0:Nat))):=by
 rw[JE,jF,h.bl];cases k<;>rfl
def gz{op:G3}{x y z:D}(g:bo Φ a ρ=ok x)(d:bo Φ b ρ=ok y)(c:dD op x y=ok z):bo Φ (.bin op a b) ρ=ok z:=by
 rw[FG,g,d];exact c
def gx{op:Cf}{x y z:D}(g:bo Φ a ρ=ok x)(d:bo Φ b ρ=ok y)(c:cY op x y=ok z):bo Φ (.cmp op a b) ρ=ok z:=by
 rw[As,g,d];exact c
def Ph{i:Nat}(h:dG Φ e ρ Y)(p:VD e=false)(l:i<ρ.length):∃c,ib Φ (.asg (.nm i) e) ρ=ok (.nx,c)/\c.length=ρ.length/\At c i Y/\∀j Z,j≠i->At ρ j Z->At c j Z:=by
 obtain⟨d,g,rfl⟩:=h;rw[CF,Co Φ e ρ p,g];cases o:bh bK d with
 |false =>
  rw[jy o,ou l];refine⟨_,rfl,List.length_set ..,⟨d,abh l,rfl⟩,λj Z k ⟨y,g,m⟩=>⟨y,by rw[List.getElem?_set_ne (Ne.symm k)];exact g,m⟩⟩
 |true =>
  have e0:dj e ρ (ok d)=ok (aE aI d,iM (iE e) ρ):=by rw[vS o,t_]
  have hl:(iM (iE e) ρ).length=ρ.length:=by unfold iM;rw[List.length_mapIdx]
  rw[e0,ou (by rw[hl];exact l)];refine⟨_,rfl,by rw[ji,hl],⟨aE aI d,abh (by rw[hl];exact l),z8 d⟩,λj Z k ⟨y,g,m⟩=>?_⟩;by_cases n:j∈iE e
  ·refine⟨aE aI y,?_,by rw[z8,m]⟩;rw[List.getElem?_set_ne (Ne.symm k)];unfold iM;rw[List.getElem?_mapIdx,g];show some (if j∈iE e then _ else _)=_;rw[cc n];rfl
  ·refine⟨y,?_,m⟩;rw[List.getElem?_set_ne (Ne.symm k)];unfold iM;rw[List.getElem?_mapIdx,g];show some (if j∈iE e then _ else _)=_;rw[cb n]
def Go(Φ:aT)(ss:af)(ρ:aX)(Q:aX->Prop):Prop:=∃c,bE Φ ss ρ=ok (.nx,c)/\Q c
variable {ss:af}{Q:aX->Prop}
def Go.nil(h:Q ρ):Go Φ [] ρ Q:=⟨ρ,rfl,h⟩
def Go.cons{s:CS}{ρ1:aX}(h:ib Φ s ρ=ok (.nx,ρ1))(k:Go Φ ss ρ1 Q):Go Φ (s::ss) ρ Q:=by
 obtain⟨c,g,d⟩:=k;exact⟨c,by rw[cp,h];exact g,d⟩
def qW(n:Nat)(l:List (Nat×D))(ρ:aX):Prop:=ρ.length=n/\bB (λp:Nat×D=>At ρ p.1 p.2) l
theorem yW{i:Nat}{ρ':aX}(k:∀j Z,j≠i->At ρ j Z->At ρ' j Z):∀{l:List (Nat×D)},bB (λp:Nat×D=>At ρ p.1 p.2) l->(l.all λp=>p.1 != i)=true->bB (λp:Nat×D=>At ρ' p.1 p.2) l
 |[],_,_=>trivial
 |p::l,h,e=>by
  rw[gc,cM]at e;exact⟨k _ _ (by simpa using e.1) h.1,yW k h.2 e.2⟩
variable {n i:Nat}{l:List (Nat×D)}
def Go.jK(A:qW n l ρ)(h:dG Φ e ρ Y)(k:∀ρ1,qW n ((i,Y)::l) ρ1->Go Φ ss ρ1 Q)(c:VD e=false:=by rfl)(d:i<n:=by decide)(hn:(l.all λp=>p.1 != i)=true:=by rfl):Go Φ (.asg (.nm i) e::ss) ρ Q:=by
 obtain⟨ρ1,o,m,j,g⟩:=Ph h c (by rw[A.1];exact d);exact .cons o (k ρ1 ⟨m.trans A.1,j,yW g A.2 hn⟩)
theorem qW.set{d:D}(A:qW n l ρ)(hz:aE aI d=Y)(g:i<n:=by decide)(hn:(l.all λp=>p.1 != i)=true:=by rfl):bU (.nm i) d ρ=ok (ρ.set i (some d))/\qW n ((i,Y)::l) (ρ.set i (some d)):=by
 have hl:i<ρ.length:=by rw[A.1];exact g
 exact⟨Hy hl,by rw[ji];exact A.1,⟨d,abh hl,hz⟩,yW (λj Z c ⟨y,m,k⟩=>⟨y,by rw[List.getElem?_set_ne (Ne.symm c)];exact m,k⟩) A.2 hn⟩
def Go.X6{c:CE}{d:af}(h:bo Φ c ρ=ok (.bl false))(k:Go Φ ss ρ Q):Go Φ (.ifs c d []::ss) ρ Q :=
 .cons (by rw[sA,h];rfl) k
theorem Fm{t:Tg}{bb:af}{P:aX->Prop}:∀(items:aa),(∀d∈items,∀ρ,P ρ->∃ρ1,bU t d ρ=ok ρ1/\Go Φ bb ρ1 P)->∀ρ,P ρ->∃c,dC (λd ρ=>bU t d ρ) (λρ=>bE Φ bb ρ) items ρ=ok (.nx,c)/\P c
 |[],_,ρ,h=>⟨ρ,rfl,h⟩
 |d::ds,hs,ρ,h=>by
  obtain⟨ρ1,q,g,p,o⟩:=hs d aak ρ h;obtain⟨c,m,k⟩:=Fm ds (λx j=>hs x (aai _ j)) g o;exact⟨c,cQ q p m,k⟩
theorem Go.jr{i n:Nat}{bb:af}{P:aX->Prop}(hn:n<=1000)(j:P ρ)(hs:∀w:Nat,w<n->∀ρ,P ρ->∃ρ1,bU (.nm i) (.int w) ρ=ok ρ1/\Go Φ bb ρ1 P)(k:∀c,P c->Go Φ ss c Q):Go Φ (.fr (.nm i) (.jr (.int n)) bb::ss) ρ Q:=by
 obtain⟨c,o,m⟩:=Fm (Φ:=Φ) (t:=.nm i) (bb:=bb) (P:=P) ((List.range n).map λ(k:Nat)=>D.int (k:Int)) (λd g ρ h=>by
  obtain⟨w,hw,rfl⟩:=List.mem_map.mp g;exact hs w (List.mem_range.mp hw) ρ h) ρ j
 exact .cons (dT (Bt (n:=(n:Int)) rfl (by left) (by left)) o) (k c m)
end
mutual
theorem M0(g:Fl->Fl):∀d:D,bh anyF d=false->aE g d=d
 |.tup ds,h=>aaI D.tup (tG g ds h)
 |.lst _ _,h=>by cases h
 |.cX _ _ _,h=>by cases h
 |.bP,_=>rfl
 |.bl _,_=>rfl
 |.int _,_=>rfl
 |.str _,_=>rfl
theorem tG(g:Fl->Fl):∀ds:aa,aU anyF ds=false->aw g ds=ds
 |[],_=>rfl
 |d::ds,h=>by
  obtain⟨b,a⟩:=Bool.or_eq_false_iff.mp (show(bh anyF d||aU anyF ds)=false from h);rw[aw,M0 g d b,tG g ds a]
end
def nX{Ys:aa}(h:aw aI ds=Ys)(a:aU anyF Ys=false):ds=Ys:=by
 rw[<- h,qe]at a;rw[<- h,tG aI ds a]
def dG.k{e:CE}{y:D}(h:bo Φ e ρ=ok y:=by rfl)(a:aE aI y=y:=by rfl):dG Φ e ρ y:=⟨y,h,a⟩
noncomputable def pS:CE:=.cL 1085 [(.v 0),(.neg (.int 1))]
def Ai:aA:=[(.bin .add (.v 0) (.lst [(.tup [(.int 1),(.int 1)])])),pS,(.bf .tuple1 [(.v 0)]),.bP,(.int 1),(.bin .add pS (.lst [(.tup [(.int 2),(.int 4)])])),(.bin .add pS (.lst [.bP])),(.bin .add pS (.lst [(.int 1)]))]
def Ah:aA:=[(.bin .add pS (.lst [(.tup [(.int 1),(.int 0)])])),(.bin .add pS (.lst [(.tup [(.bl true),(.int 1)])])),(.str "some")]
def AK:af:=[.asg (.nm 2) (.lst Ai),.ret (.ix (.bin .add (.v 2) (.lst Ah)) (.bin .mod (.v 1) (.int 11)))]
def oA(f:Fl)(qs a:aS):aa:=[.lst f (a_ qs++[.tup [.int 1,.int 1]]),.lst f (a_ a),.tup (a_ qs),.bP,.int 1,.lst f (a_ a++[.tup [.int 2,.int 4]]),.lst f (a_ a++[.bP]),.lst f (a_ a++[.int 1])]
def oB(f:Fl)(a:aS):aa:=[.lst f (a_ a++[.tup [.int 1,.int 0]]),.lst f (a_ a++[.tup [.bl true,.int 1]]),.str "some"]
def Im{a:aS}{n:Nat}(h:a.length+1=n)(d:qs.length=n)(hn:n<=12):∀x∈oA .fz qs a++oB .fz a,eN x/\cH x n=false:=by
 have one:∀y:D,dB y=false->eN (.lst .fz (a_ a++[y]))/\cH (.lst .fz (a_ a++[y])) n=false:=λy c=>by
  refine⟨by show(a_ a++[y]).length<=1000000;simp;left,?_⟩;have:(a_ a++[y]).all dB=false:=by rw[List.all_eq_false];exact⟨y,by simp,by rw[c];decide⟩
  show(_&&(a_ a++[y]).all dB)=false;rw[this,ll]
 intro x b;simp only[oA,oB,h9,fx,ft,eg,or_false]at b;rcases b with rfl|rfl|rfl|rfl|rfl|rfl|rfl|rfl|rfl|rfl|rfl
 ·refine⟨by show(a_ qs++[D.tup [.int 1,.int 1]]).length<=1000000;simp;left,?_⟩;show(decide (((a_ qs++[D.tup [.int 1,.int 1]]).length:Int)=n)&&_)=false;rw[fu (by simp;left)];rfl
 ·refine⟨by show(a_ a).length<=1000000;simp;left,?_⟩;show(decide (((a_ a).length:Int)=n)&&_)=false;rw[fu (by simp;left)];rfl
 ·exact⟨by show(a_ qs).length<64;simp;left,rfl⟩
 ·exact⟨trivial,rfl⟩
 ·exact⟨trivial,rfl⟩
 ·exact one _ (by decide +kernel)
 ·exact one _ rfl
 ·exact one _ rfl
 ·exact one _ (by decide +kernel)
 ·exact one _ rfl
 ·exact⟨trivial,rfl⟩
def Gw(m:au):Prop:=∀qs (z:Int),1<=qs.length->qs.length<=12->∃d,m [.lst .fz (a_ qs),.int z]=ok d/\eN (aE aI d)/\cH (aE aI d) qs.length=false
def Rf(Φ:aT)(F:Φ 1085=Ay):Gw (mk Φ 2 3 AK):=by
 intro qs z r l;obtain⟨I,H⟩:=fC z (b:=11) (by decide);obtain⟨j,u⟩:∃j:Nat,z.fmod 11=(j:Int):=⟨(z.fmod 11).toNat,by left⟩
 generalize o:qs.take (qs.length - 1)=c;have G:c.length+1=qs.length:=by rw[<- o,hF];left
 have n:∀{ρ:aX},At ρ 0 (.lst .fz (a_ qs))->dG Φ pS ρ (.lst .fz (a_ c)):=λ{ρ} h=>by
  obtain⟨f,ds,m,E,_⟩:=(h.v (Φ:=Φ)).tJ;obtain rfl:=nX E (by simp);refine⟨.lst .ow (a_ c),?_,by simp[aI]⟩;show bd (bJ Φ [.v 0,.neg (.int 1)] ρ) (Φ 1085)=_;rw[jF,m,F];show(if (-1:Int) = -1/\1<=(a_ qs).length then ok (D.lst .ow (aw bg ((a_ qs).take ((a_ qs).length - 1))))else none)=_;rw[cc ⟨rfl,by simp;left⟩,show(a_ qs).take ((a_ qs).length - 1)=a_ c by rw[<- o];unfold a_;rw[List.map_take,b4]];simp
 have g:∀{ρ:aX} {a e:CE} {ps:aS} {y:D},dG Φ a ρ (.lst .fz (a_ ps))->dG Φ e ρ y->ps.length<=12->dG Φ (.bin .add a (.lst [e])) ρ (.lst .fz (a_ ps++[y])):=λr l hl=>.cat r (bV.cons l .nil).lst rfl rfl (by simp;left);have A:qW 3 [(0,.lst .fz (a_ qs)),(1,.int z)] [some (.lst .fz (a_ qs)),some (.int z),none]:=⟨rfl,⟨_,rfl,by simp[aI]⟩,⟨_,rfl,rfl⟩,trivial⟩
 have go:Go Φ [.asg (.nm 2) (.lst Ai)] [some (.lst .fz (a_ qs)),some (.int z),none] (qW 3 [(2,.lst .fz (oA .fz qs c)),(0,.lst .fz (a_ qs)),(1,.int z)]):=by
  have q:=A.2.1.v (Φ:=Φ);have i:=n A.2.1;have es:bV Φ Ai [some (.lst .fz (a_ qs)),some (.int z),none] (oA .fz qs c):=.cons (g q .k l) (.cons i (.cons q.Ws (.cons .k (.cons .k (.cons (g i .k (by left)) (.cons (g i .k (by left)) (.cons (g i .k (by left)) .nil)))))));exact .jK A es.lst λ_ A=>.nil A
 obtain⟨ρ1,m,B⟩:=go;have i:=n B.2.2.1;have x:bV Φ Ah ρ1 (oB .fz c):=.cons (g i .k (by left)) (.cons (g i .k (by left)) (.cons .k .nil));have s:j<(oA .fz qs c++oB .fz c).length:=by show j<11;left
 obtain⟨d,t,C,p⟩:=Pg (e:=.ix (.bin .add (.v 2) (.lst Ah)) (.bin .mod (.v 1) (.int 11))) (.KQ (j:=j) (.cat B.2.1.v x.lst rfl rfl (by show 8+3<=1000;decide)) (gz B.2.2.2.1.v.i rfl (by rw[qb (by decide),u])) (aap s)) rfl;obtain⟨b1,b2⟩:=Im G rfl l _ (aba s);refine⟨d,?_,by rw[p];exact b1,by rw[p];exact b2⟩;rw[mk_eq (ar:=2) (ds:=[.lst .fz (a_ qs),.int z]) rfl,show AK=[.asg (.nm 2) (.lst Ai)]++[.ret (.ix (.bin .add (.v 2) (.lst Ah)) (.bin .mod (.v 1) (.int 11)))] from rfl];show lO (bE Φ _ [some (.lst .fz (a_ qs)),some (.int z),none])=_;rw[kX Φ _ _ _ _ m,cp,C];rfl
theorem uA(f:Nat->Int):∀k:Nat,PySem.argBest (λi j=>decide (f i<f j)) k<=k/\∀i,i<=k->f (PySem.argBest (λi j=>decide (f i<f j)) k)<=f i
 |0=>⟨aaj _,λi a=>by rw[Nat.le_zero.mp a];exact acG _⟩
 |k+1=>by
  obtain⟨c,b⟩:=uA f k;rw[PySem.argBest];by_cases h:f (k+1)<f (PySem.argBest (λi j=>decide (f i<f j)) k)
  ·rw[cc (by simpa using h)];refine⟨aaj _,λi a=>?_⟩;rcases Nat.lt_or_eq_of_le a with a|rfl
   ·have:=b i (by left);left
   ·exact acG _
  ·rw[cb (by simpa using h)];refine⟨by left,λi a=>?_⟩;rcases Nat.lt_or_eq_of_le a with a|rfl
   ·exact b i (by left)
   ·left
def zM(h:0<ns.length):(ka ns<kb ns) ↔ ∃x∈ns,∃y∈ns,x≠y:=by
 obtain⟨l,k⟩:=uA (λi=>ns.getD i 0) (ns.length - 1);obtain⟨b1,b2⟩:=uA (λi=>-(ns.getD i 0)) (ns.length - 1);have e:(λi j:Nat=>decide (-(ns.getD i 0) < -(ns.getD j 0)))=λi j=>decide (ns.getD i 0>ns.getD j 0):=by
  funext i j;congr 1;apply propext;constructor<;>intro h<;>left
 rw[e]at b1 b2;have mem:∀i,i<=ns.length - 1->ns.getD i 0∈ns:=λi b=>by
  have:i<ns.length:=by left
  rw[fI,List.getElem?_eq_getElem this];exact aba this
 have of:∀x∈ns,∃i,i<=ns.length - 1/\ns.getD i 0=x:=λx a=>by
  obtain⟨i,b,rfl⟩:=List.mem_iff_getElem.mp a;exact⟨i,by left,by rw[fI,List.getElem?_eq_getElem b];rfl⟩
 have c:∀x∈ns,ka ns<=x:=λx a=>by
  obtain⟨i,b,rfl⟩:=of x a;exact k i b
 have d:∀x∈ns,x<=kb ns:=λx a=>by
  obtain⟨i,b,rfl⟩:=of x a;have:=b2 i b;show ns.getD i 0<=ns.getD _ 0;left
 constructor
 ·intro n;exact⟨ka ns,mem _ l,kb ns,mem _ b1,by left⟩
 ·rintro ⟨x,a,y,g,m⟩;have:=c x a;have:=c y g;have:=d x a;have:=d y g;left
noncomputable def K8:aA:=[(.bf .list1 [(.v 6)]),(.bin .add (.v 6) (.tup [(.v 3)])),(.bin .add (.v 6) (.cL 1086 [(.tup [(.int 0)]),(.int 3)])),.bP,(.str "lot"),(.bin .add (.tup [(.bl true)]) (.v 6)),(.int 0)]
def FE:CE:=.ix (.lst K8) (.bin .mod (.bin .fdiv (.v 2) (.int 64)) (.int 7))
def oL(f:Fl)(n:Nat)(l:ae):aa:=[.lst f (ag l),.tup (ag (l++[(n:Int)])),.tup (ag (l++[0,0,0])),.bP,.str "lot",.tup (.bl true::ag l),.int 0]
theorem FR:∀(ns a:ae),(ns.foldl (λ(m:ae) (k:Int)=>if m.any (· == k)then m else m++[k]) a).length<=a.length+ns.length
 |[],a=>by simp
 |k::ns,a=>by
  rw[g5];have:=FR ns (if a.any (· == k)then a else a++[k]);by_cases h:a.any (· == k)=true
  ·rw[cc h]at this ⊢;rw[cz];left
  ·rw[cb h]at this ⊢;rw[c8,hL]at this;rw[cz];left
def wI(l:ae):(eY (l++[0,0,0])).length<=l.length+1:=by
 have c:=FR l [];unfold eY;rw[List.foldl_append];generalize l.foldl (λ(m:ae) (k:Int)=>if m.any (· == k)then m else m++[k]) []=b at *;have step:∀a:ae,a.any (· == 0)=true->([0,0]:ae).foldl (λ(m:ae) (k:Int)=>if m.any (· == k)then m else m++[k]) a=a:=λa h=>by
  rw[g5,cc h,g5,cc h];rfl
 rw[g5];by_cases h:b.any (· == 0)=true
 ·rw[cc h,step _ h];simp at c;left
 ·rw[cb h,step _ (by simp)];simp at c ⊢;left
def MR{n:Nat}{l:ae}(hl:l.length<=12):∀x∈oL .fz n l,eN x/\jw x n=false:=by
 intro x b;simp only[oL,ft,eg,or_false]at b;have a:∀d:D,cN d n=false->jw d n=false:=λd h=>by unfold jw;rw[h];rfl
 rcases b with rfl|rfl|rfl|rfl|rfl|rfl|rfl
 ·exact⟨by show(ag l).length<=1000000;simp;left,a _ rfl⟩
 ·refine⟨by show(ag (l++[(n:Int)])).length<64;simp;left,a _ ?_⟩;have:(ag (l++[(n:Int)])).all (cB n)=false:=by
   rw[List.all_eq_false];exact⟨.int n,by unfold ag;simp,by show ¬ (decide (0<=(n:Int))&&decide ((n:Int)<n))=true;simp⟩
  show(_&&_)=false;rw[this];rfl
 ·refine⟨by show(ag (l++[0,0,0])).length<64;simp;left,a _ ?_⟩;have:=wI l;show(_&&decide ((eY (numsOf (ag (l++[0,0,0])))).length=(ag (l++[0,0,0])).length))=false;rw[fJ,fu (by simp;left),ll]
 ·exact⟨trivial,rfl⟩
 ·exact⟨trivial,rfl⟩
 ·refine⟨by show(D.bl true::ag l).length<64;simp;left,a _ ?_⟩;rfl
 ·exact⟨trivial,rfl⟩
def Jk(Φ:aT)(d:Φ 1086=xR){n:Nat}{l:ae}{z:Int}(hl:l.length<=12)(g:At ρ 6 (.tup (ag l)))(m:At ρ 3 (.int n))(p:At ρ 2 (.int z)):∃o,dG Φ FE ρ o/\eN o/\jw o n=false:=by
 obtain⟨t,s⟩:=fC (z.fdiv 64) (b:=7) (by decide);obtain⟨j,r⟩:∃j:Nat,(z.fdiv 64).fmod 7=(j:Int):=⟨((z.fdiv 64).fmod 7).toNat,by left⟩
 have q:=g.v (Φ:=Φ);have t3:dG Φ (.cL 1086 [(.tup [(.int 0)]),(.int 3)]) ρ (.tup (ag [0,0,0])):=⟨.tup (ag [0,0,0]),by show bd (ok [D.tup [.int 0],.int 3]) (Φ 1086)=_;rw[d];rfl,rfl⟩
 have e:∀a b:ae,ag a++ag b=ag (a++b):=λa b=>by unfold ag;simp
 have c:j<(oL .fz n l).length:=by show j<7;left
 have es:bV Φ K8 ρ (oL .fz n l):=.cons q.Xy (.cons (e l [(n:Int)]▸dG.O9 q (bV.cons m.v .nil).tup (by simp;left)) (.cons (e l [0,0,0]▸dG.O9 q t3 (by simp;left)) (.cons .k (.cons .k (.cons (dG.O9 (Ys:=[.bl true]) (bV.cons .k .nil).tup q (by simp;left)) (.cons .k .nil))))));obtain⟨b1,b2⟩:=MR hl _ (aba c);exact⟨_,.KQ (j:=j) es.lst (gz (gz p.v.i rfl (jJ (by decide) (by decide))) rfl (by rw[qb (by decide),r])) (aap c),b1,b2⟩
noncomputable def zv:af:=[.ifs (.and [(.cmp .vW (.v 0) (.tup [(.int 0),(.int 2)])),(.cmp .lt (.cL 1011 [(.v 5)]) (.cL 1087 [(.v 5)]))]) [.ret (.str "size")] [],.ifs (.or [(.and [(.cmp .vW (.v 0) (.tup [(.int 0),(.int 3)])),(.not (.v 6))]),(.and [(.cmp .vW (.v 0) (.tup [(.int 1),(.int 2)])),(.not (.v 7))])]) [.ret (.str "pair")] [],.ifs (.and [(.cmp .vW (.v 0) (.tup [(.int 1),(.int 2)])),(.not (.v 2))]) [.ret (.str "lot")] [],.ifs (.and [(.cmp .eq (.v 0) (.int 1)),(.not (.v 3))]) [.ret (.str "weights")] [],.ifs (.and [(.cmp .lt (.v 0) (.int 3)),(.not (.v 4))]) [.ret (.str "worths")] [],.ret (.str "")]
noncomputable def Sj(w:Nat)(l:ae):Bool:=decide ((w:Int)∈l)
def B0(w:Nat)(s a t l i h:Bool):Str:=if (Sj w [0,2]&&s)=true then "size" else if ((Sj w [0,3]&&!a)||(Sj w [1,2]&&!t))=true then "pair" else if (Sj w [1,2]&&!l)=true then "lot" else if (((w:Int)==1)&&!i)=true then "weights" else if (decide ((w:Int)<3)&&!h)=true then "worths" else ""
section
variable {Φ:aT}{ρ:aX}{p q:CE}{a b:Bool}
def mL(d:bo Φ p ρ=ok (.bl a))(c:bo Φ q ρ=ok (.bl b)):bo Φ (.and [p,q]) ρ=ok (.bl (a&&b)):=by
 cases a<;>simp[d,c]
def RE(d:bo Φ p ρ=ok (.bl a))(c:bo Φ q ρ=ok (.bl b)):bo Φ (.or [p,q]) ρ=ok (.bl (a||b)):=by
 cases a<;>simp[d,c]
def o7(c:bo Φ p ρ=ok (.bl a)):bo Φ (.not p) ρ=ok (.bl (!a)):=by
 simp[c]
def pT{s:Str}{rest:af}(h:bo Φ p ρ=ok (.bl a)):bE Φ (.ifs p [.ret (.str s)] []::rest) ρ=if a=true then ok (.rt (.str s),ρ)else bE Φ rest ρ:=by
 cases a<;>simp[h]
end
abbrev Uw(w:Nat)(a c b asked d:Bool)(ns:ae):List (Nat×D):=[(7,.bl d),(6,.bl asked),(5,.lst .fz (ag ns)),(4,.bl b),(3,.bl c),(2,.bl a),(0,.int w)]
def JH(Φ:aT)(o:Φ 1011=minD)(r:Φ 1087=maxD)(hn:0<ns.length){asked l c k j:Bool}(A:qW 8 (Uw w c k j asked l ns) ρ):
  bE Φ zv ρ=ok (.rt (.str (B0 w (decide (ka ns<kb ns)) asked l c k j)),ρ):=by
 obtain⟨g,ds,n,q,_⟩:=(A.2.2.2.1.v (Φ:=Φ)).tJ;obtain rfl:=nX q (by simp);have e:∀{p:Nat} {f:ae->Int},Φ p=RU f->bo Φ (.cL p [(.v 5)]) ρ=ok (.int (f ns)):=λ{p f} h=>by
  show bd (m5 (bo Φ (.v 5) ρ) (ok [])) (Φ p)=_;rw[n,h];show(match intsOf (ag ns)with|some ns=>if 0<ns.length then ok (D.int (f ns))else none|none=>none)=_;unfold ag;rw[bC];exact aa4 hn
 have d:=(A.2.2.2.2.2.2.2.1.v (Φ:=Φ)).i;have i:∀a b:Int,bo Φ (.cmp .vW (.v 0) (.tup [(.int a),(.int b)])) ρ=ok (.bl (Sj w [a,b])):=λa b=>by
  rw[As,d];show(if eL (.int (w:Int))&&(ag [a,b]).all eL then ok (D.bl (inD (.int (w:Int)) (ag [a,b])))else none)=_;rw[mE,pz];rfl
 have m:bo Φ (.cmp .eq (.v 0) (.int 1)) ρ=ok (.bl ((w:Int)==1)):=gx d rfl (by rw[kf rfl rfl];rfl);unfold zv;rw[pT (mL (i 0 2) (gx (e o) (e r) rfl)),pT (RE (mL (i 0 3) (o7 A.2.2.1.v.bl)) (mL (i 1 2) (o7 A.2.1.v.bl))),pT (mL (i 1 2) (o7 A.2.2.2.2.2.2.1.v.bl)),pT (mL m (o7 A.2.2.2.2.2.1.v.bl)),pT (mL (gx (op:=.lt) (b:=.int 3) d rfl rfl) (o7 A.2.2.2.2.1.v.bl))];unfold B0;have z:bE Φ [.ret (.str "")] ρ=ok (.rt (.str ""),ρ):=by simp
 rw[z]
 repeat' split
 all_goals rfl
noncomputable def Ar:CE:=.comp 2 (.tp [0,1]) [] .seq [(.ix (.v 1) (.int 1))] [] (.bf .len [(.v 1)])
noncomputable def Aq:CE:=.comp 1 (.nm 0) [] .seq [(.call 213 [(.v 1)])] [(.cL 1045 [(.tup [(.int 0),(.int 1)]),(.v 0)])] (.v 0)
def uD:af:=[.asg (.nm 5) Ar,.asg (.nm 6) (.call 234 [(.v 1)]),.asg (.nm 7) (.cmp .eq (.bf .len [Aq]) (.int 0))]++zv
def Kc(n:Nat)(rs:ai)(g:Nat):Bool:=(List.range' 0 n).any λ(h:Nat)=>decide (aB rs g h=0)
noncomputable def mU(rs:ai):ae:=rs.map λr=>(r.2.length:Int)
def uI(n:Nat)(rs:ai):Bool:=decide ((xr n rs).filter (λq=>decide (q=0))=[])
def nu(n:Nat)(rs:ai):Bool:=((((List.range' 0 n).filter (Kc n rs)).length:Int)==0)
def oz(m:au):Prop:=∀(w n:Nat) rs (a c b:Bool),Dr 6 n rs->m [.int w,aQ n rs,.bl a,.bl c,.bl b]=ok (.str (B0 w (decide (ka (mU rs)<kb (mU rs))) (uI n rs) (nu n rs) a c b))
def HI(Φ:aT)(B:qi (Φ 213))(u:U3 (Φ 234))(C:Φ 1011=minD)(x:Φ 1045=X0)(E:Φ 1087=maxD):oz (mk Φ 5 8 uD):=by
 intro w n a c i d I;have G:=I.n2;have hlen:=I.len;have J:eX .ow=.ow:=rfl;have p:∀{ρ:aX},At ρ 1 (aQ n a)->∃g,bo Φ (.ix (.v 1) (.int 1)) ρ=ok (.lst g (bL a)):=λh=>by
  obtain⟨g,ds,e,q,_⟩:=(dG.VC (h.v (Φ:=Φ)) (b:=.int 1) (j:=1) rfl rfl).tJ;exact⟨g,by rw[e,nX q (by simp)]⟩
 have k:∀{ρ:aX},At ρ 1 (aQ n a)->dG Φ Ar ρ (.lst .fz (ag (mU a))):=λ{ρ} h=>by
  obtain⟨g,e⟩:=p h;refine⟨.lst .ow (ag (mU a)),?_,by simp[aI]⟩;unfold Ar;rw[bY (xs:=[.lst g (bL a)]) (items:=bL a) (ds:=a.map λr=>.int (r.2.length:Int)) (by rw[jF,e];rfl) (by rw[b6];simp) (bH λr F=>⟨[some (qD r.1),some (.tup (ag r.2))],by simp[bx,rD],by simp,by simp⟩) (by simp;exact bA (by left))];rw[show(a.map λr=>D.int (r.2.length:Int))=ag (mU a) by unfold ag mU;rw[fb];rfl];simp
 have s:∀{ρ:aX},At ρ 1 (aQ n a)->dG Φ Aq ρ (.lst .fz (((List.range' 0 n).filter (Kc n a)).map λ(g:Nat)=>.lst .fz (a_ ((List.range' 0 n).map λ(h:Nat)=>aB a g h)))):=λ{ρ} h=>by
  obtain⟨f,ds,t,q,_⟩:=((bV.cons h.v .nil).call (B n a I)).tJ;refine⟨.lst .ow (aw eX (((List.range' 0 n).filter (Kc n a)).map λ(g:Nat)=>.lst .fz (a_ ((List.range' 0 n).map λ(h:Nat)=>aB a g h)))),?_,?_⟩
  ·unfold Aq;exact bY (xs:=[.lst f ds]) (items:=bw n a .fz 0 n) (by rw[jF,t];rfl) (by rw[b6,q,ba];rfl) (eB λg H=>⟨[some (.lst .fz (a_ ((List.range' 0 n).map λ(h:Nat)=>aB a g h)))],by simp[bx],(by
    have o:D.tup [.int 0,.int 1]=qD 0:=rfl;have k:X0 [qD 0,.lst .fz (a_ ((List.range' 0 n).map λ(h:Nat)=>aB a g h))]=ok (.bl (Kc n a g)):=by
     show(if eJ 8 (qD 0)=true/\_ then _ else _)=_;rw[cc ⟨D_ 7 0,lB (D_ 7) _⟩];congr 2;show(a_ _).any _=_;unfold Kc a_;rw[List.any_map,List.any_map];congr 1;funext h;exact La _ _
    simp[o,x,bg,k]),λ_=>by simp[bg]⟩) (by
    have:=abB (Kc n a) (List.range' 0 n);rw[p4]at this;simp only[b4];exact bA (by left))
  ·show D.lst .fz (aw aI (aw eX _))=_;rw[fK,aG,fb];congr 1;refine aay λg _=>?_;show D.lst .fz (aw _ (a_ _))=_;rw[pd]
 have l:qW 8 [(4,.bl d),(3,.bl i),(2,.bl c),(1,aQ n a),(0,.int w)] [some (.int w),some (aQ n a),some (.bl c),some (.bl i),some (.bl d),none,none,none]:=⟨rfl,⟨_,rfl,rfl⟩,⟨_,rfl,rfl⟩,⟨_,rfl,rfl⟩,⟨_,rfl,by simp[aQ]⟩,⟨_,rfl,rfl⟩,trivial⟩
 have go:Go Φ [.asg (.nm 5) Ar,.asg (.nm 6) (.call 234 [(.v 1)]),.asg (.nm 7) (.cmp .eq (.bf .len [Aq]) (.int 0))] [some (.int w),some (aQ n a),some (.bl c),some (.bl i),some (.bl d),none,none,none] (qW 8 (Uw w c i d (uI n a) (nu n a) (mU a))) :=
  .jK l (k l.2.2.2.2.1) λ_ A=>.jK A ((bV.cons A.2.2.2.2.2.1.v .nil).call (u n a I)) λ_ A=>.jK (Y:=.bl (nu n a)) A (.of (gx (op:=.eq) (y:=.int 0) (z:=.bl (nu n a)) (s A.2.2.2.2.2.2.1).len rfl (by rw[b4];rfl))) λ_ A=>.nil ⟨A.1,A.2.1,A.2.2.1,A.2.2.2.1,A.2.2.2.2.1,A.2.2.2.2.2.1,A.2.2.2.2.2.2.1,A.2.2.2.2.2.2.2.2⟩
 obtain⟨m,e,A⟩:=go;refine(mk_eq (by rfl)).trans ?_;show lO (bE Φ (_++zv) [some (.int w),some (aQ n a),some (.bl c),some (.bl i),some (.bl d),none,none,none])=_;rw[kX Φ _ _ _ _ e,JH Φ C E (by unfold mU;rw[b4];exact I.some) A];rfl
end DI
end
section
namespace DI
open PySem PySem.Spec PyProof.Rows L2
def Df(K:ak)(x:Str)(a:Stmt):Prop:=∃f b,GC K x x a f b/\PySem.W.nsIn K mainGlobals x=some (some (.ref f))
variable {B C f:Addr}{K:ak}{st C2:Stmt}
def dmk{x:Str}{h:Value}{g j:Option Addr}{d:Array (Option Value)}{kV i e b ct:Value}(a:PySem.W.nsIn K mainGlobals x=some (some (.ref f)))(l:K.lookup f=some ⟨h,g,.func (PySem.W.fnOf x x (eM st) (bM st) (aO st) .none kV i e j b ct),d⟩)(c:PySem.W.codeIn K b x=true)(k:PySem.W.keepIn K (.ref f)=true):Df K x st:=⟨f,_,Oh l c k,a⟩
noncomputable def VW(N P:aq)(sc:Scope):Bool:=decide (sc.kind=.function)&&(!sc.isCoroutine&&(!sc.isGenerator&&(decide N.Nodup&&(decide (N.take P.length=P)&&(P.all (λx=>decide (sc.names.lookup x=some .local\/sc.names.lookup x=some .cell))&&sc.names.all λy=>decide (y.2≠.free))))))
variable {N:aq}
def z9{P:aq}{sc:Scope}(h:VW N P sc=true):gV N P sc:=by
 obtain⟨k,h⟩:=aH h;obtain⟨j,h⟩:=aH h;obtain⟨i,h⟩:=aH h;obtain⟨g,h⟩:=aH h;obtain⟨e,h⟩:=aH h;obtain⟨d,c⟩:=aH h;exact⟨aad k,gN j,gN i,aad g,aad e,λx b=>aad (List.all_eq_true.mp d x b),λy a=>aad (List.all_eq_true.mp c y a)⟩
def Qi(st:Stmt)(N ps:aq)(tb:List (Nat×Str))(bl:aq)(cs:List (Str×GK))(px:Px)(b:af):Bool:=VW N ps (aO st)&&ja ⟨aO st,N,λn=>List.lookup n tb,bl,cs,px⟩ b (bM st)
def u1{b:Type}{P:List b->Prop}(h:∀a,P [a])(c:List b)(e:c.length=1):P c:=by obtain⟨a,rfl⟩:=R8 e;exact h a
def u2{c:Type}{P:List c->Prop}(h:∀a b,P [a,b])(d:List c)(e:d.length=2):P d:=by obtain⟨a,b,rfl⟩:=IC e;exact h a b
def u3{d:Type}{P:List d->Prop}(h:∀a b c,P [a,b,c])(g:List d)(e:g.length=3):P g:=by obtain⟨a,b,c,rfl⟩:=IB e;exact h a b c
def u4{g:Type}{P:List g->Prop}(h:∀a b c d,P [a,b,c,d])(i:List g)(e:i.length=4):P i:=by obtain⟨a,b,c,d,rfl⟩:=XB e;exact h a b c d
def u5{i:Type}{P:List i->Prop}(h:∀a b c d e,P [a,b,c,d,e])(g:List i)(e:g.length=5):P g:=by
 match g,e with
 |[a,b,c,d,e],_=>exact h a b c d e
variable {P:aK}{base h:Heap}{k':Nat}{mg:Str->Option Value}{w:World}
def Ent.u{k:Nat}{y:Str}{m:au}(h:Ent P w K mg base k y m)(a:k<=k':=by decide):Ent P w K mg base k' y m:=h.up a
def en(X:K.In h)(G:h.Ns mainGlobals mg)⦃x:Str⦄⦃st:Stmt⦄⦃N ps bl:aq⦄⦃tb:List (Nat×Str)⦄⦃cs:List (Str×GK)⦄⦃px:Px⦄⦃b:af⦄(k:Nat)(Φ:aT)(m:au)(d:Df K x st)(v:Qi st N ps tb bl cs px b=true)
  (l:qo px Φ/\GA px Φ) (o:bB (λy=>mg y=none) bl) (s:bB (λp:Str×GK=>∃u,mg p.1=some u/\y_ K p.2 u) cs)
  (hf:bB (λp:Nat×Str=>Ent P w K mg base k p.2 (Φ p.1)) tb) (t:∀e r,m e=ok r->e.length=ps.length/\sQ Φ N.length b e=ok r) (z:∀(kV j q:Value) (F:Option Addr) (E ct:Value) (c:az),c.length=ps.length->bindArgs (PySem.W.fnOf x x (eM st) (bM st) (aO st) .none kV j q F E ct) ⟨c,[]⟩=pure (ps.zip c):=by first|exact λ_ _ _ _ _ _=>u1 λ_=>rfl|exact λ_ _ _ _ _ _=>u2 λ_ _=>rfl|exact λ_ _ _ _ _ _=>u3 λ_ _ _=>rfl|exact λ_ _ _ _ _ _=>u4 λ_ _ _ _=>rfl|exact λ_ _ _ _ _ _=>u5 λ_ _ _ _ _=>rfl):Ent P w K mg base (k+1) x m:=by
 obtain⟨f,H,n,a⟩:=d;obtain⟨D,A⟩:=aH v;exact ent n (abu X G a) (n.binds z) (z9 D) A l.1 l.2 (bB.mem o) (bB.two (P:=λy i=>∃u,mg y=some u/\y_ K i u) s) (bB.tab (P:=λg y=>Ent P w K mg base k y (Φ g)) hf) t
noncomputable def xm(PT F:aT)(i:Nat)(m:au):aT:=λn=>bif Nat.ble 1000 n then PT n else bif Nat.beq n i then m else F n
def ifK{d:Type}{Q:Nat->Prop}(p:Nat){k:Nat}{a b c:d}(h:(if p=k then a else b)=c)(i:a=c->Q k)(g:b=c->Q p):Q p:=by
 by_cases e:p=k
 ·subst e;rw[cc rfl]at h;exact i h
 ·rw[cb e]at h;exact g h
variable {F:Addr->Prop}{Z:Cx}{cs:aA}{Φ:aT}
def vX{d:Type}{e:Expr}{p k:Nat}{a b c:d}(h:(if p=k then a else b)=c)(i:a=c->PE Z e (tD Z F Φ (.cL k cs))/\L2.PT Z e (jh Z F Φ (.cL k cs)))(g:b=c->PE Z e (tD Z F Φ (.cL p cs))/\L2.PT Z e (jh Z F Φ (.cL p cs))):PE Z e (tD Z F Φ (.cL p cs))/\L2.PT Z e (jh Z F Φ (.cL p cs)):=ifK (Q:=λp=>PE Z e (tD Z F Φ (.cL p cs))/\L2.PT Z e (jh Z F Φ (.cL p cs))) p h i g
def ifM{d:Type}{i p k:Nat}{a b c:d}(h:(if p=k then a else b)=c)(g:a=c->PS Z st (qC Z F Φ (.mut k i cs)))(e:b=c->PS Z st (qC Z F Φ (.mut p i cs))):PS Z st (qC Z F Φ (.mut p i cs)):=ifK (Q:=λp=>PS Z st (qC Z F Φ (.mut p i cs))) p h g e
def qv{A:Prop}(h:∃_:aa,False):A:=h.elim λ_ z=>z.elim
def dm:True:=trivial
theorem bB.nn{K:ak}{h:Heap}{mg:aY}(X:K.In h)(G:h.Ns mainGlobals mg):∀{l:aq},bB (λy=>PySem.W.nsIn K mainGlobals y=some none) l->bB (λy=>mg y=none) l
 |[],_=>trivial
 |_::_,z=>⟨PySem.W.mg_none_of X G z.1,bB.nn X G z.2⟩
def en7{P:aK}{w:World}{K:ak}{h base:Heap}{mg:aY}{bl:aq}{cs:List (Str×GK)}{px:Px}{PT:aT}(X:K.In h)(G:h.Ns mainGlobals mg)(A:∀F i m,qo px (xm PT F i m)/\GA px (xm PT F i m))(t:bB (λy=>mg y=none) bl)(v:bB (λp:Str×GK=>∃u,mg p.1=some u/\y_ K p.2 u) cs)
  ⦃x:Str⦄ ⦃st:Stmt⦄ (k:Nat) (Φ:aT) (d:Df K x st) (N:aq) (a:Nat) (tb:List (Nat×Str)) (b:af)
  (hf:bB (λp:Nat×Str=>Ent P w K mg base k p.2 (Φ p.1)) tb) (D:Qi st N (N.take a) tb bl cs px b=true:=by decide +kernel) (e:∃F i m,Φ=xm PT F i m:=by exact⟨_,_,_,rfl⟩) (o:(N.take a).length=a:=by rfl) (E:∀(kV c j:Value) (n:Option Addr) (l ct:Value) (g:az),g.length=a->bindArgs (PySem.W.fnOf x x (eM st) (bM st) (aO st) .none kV c j n l ct) ⟨g,[]⟩=pure ((N.take a).zip g):=by first|exact λ_ _ _ _ _ _=>u1 λ_=>rfl|exact λ_ _ _ _ _ _=>u2 λ_ _=>rfl|exact λ_ _ _ _ _ _=>u3 λ_ _ _=>rfl|exact λ_ _ _ _ _ _=>u4 λ_ _ _ _=>rfl|exact λ_ _ _ _ _ _=>u5 λ_ _ _ _ _=>rfl):Ent P w K mg base (k+1) x (mk Φ a N.length b):=by
 obtain⟨F,i,m,e⟩:=e;exact en X G k Φ _ d D (e▸A F i m) t v hf (λs r q=>⟨(yj s r q).1.trans o.symm,(yj s r q).2⟩) (λkV c j n l ct g z=>E kV c j n l ct g (z.trans o))
def enL{x:Str}{ps bl:aq}{tb:List (Nat×Str)}{cs:List (Str×GK)}{px:Px}{b:af}{d:FuncData}(k:Nat)(Φ:aT)(m:au)(s:GC K x x st f d)(n:Qi st N ps tb bl cs px b=true)
  (c:qo px Φ/\GA px Φ) (e:bB (λy=>mg y=none) bl) (j:bB (λp:Str×GK=>∃u,mg p.1=some u/\y_ K p.2 u) cs)
  (hf:bB (λp:Nat×Str=>Ent P w K mg base k p.2 (Φ p.1)) tb) (l:∀a r,m a=ok r->a.length=ps.length/\sQ Φ N.length b a=ok r):iB P w K mg base Ce (k+1) f d ps (Hv K ps.length m):=by
 obtain⟨q,o⟩:=aH n;exact wo s (z9 q) o c.1 c.2 (bB.mem e) (bB.two (P:=λy i=>∃u,mg y=some u/\y_ K i u) j) (λg y h=>(bB.tab (P:=λg y=>Ent P w K mg base k y (Φ g)) hf g y h).ex) l
def jg.up{k:Nat}{y:Str}{a:aa->Prop}(h:jg P w K mg base k C y a)(c:k<=k'):jg P w K mg base k' C y a:=by
 obtain⟨f,g,b,e,d⟩:=h.ex;exact⟨f,g,b,e.mono c,d⟩
def jg.u{k:Nat}{y:Str}{a:aa->Prop}(h:jg P w K mg base k C y a)(b:k<=k':=by decide):jg P w K mg base k' C y a:=h.up b
def gj(X:K.In h)(q:PySem.W.excIn K C LI "ValueError.__new__" = true)(m:PySem.W.mroIn K C (.ref B)=some true)(ne:C≠B):qp C B h:=by
 obtain⟨r,i,bs,c,g,e,p,d,sub,s,b,o,n,l,k,j,a,_,_,_⟩:=Af q;refine⟨_,_,_,_,_,_,_,_,_,_,_,_,_,_,_,_,_,X _ _ a,?_⟩;unfold PySem.W.mroIn PySem.W.clsIn at m;rw[a]at m;have m:some ((Value.ref C::c).contains (.ref B))=some true:=m;have m:=aaq m;rw[l6,iN]at m;rcases m with m|m
 ·have:=beq_iff_eq.mp m;cases this;exact absurd rfl ne
 ·exact m
section
variable {P:aK}{w:World}{K:ak}{h base:Heap}{mg:aY}(X:K.In h)(G:h.Ns mainGlobals mg){C:Addr}⦃x:Str⦄⦃st:Stmt⦄⦃N ps bl:aq⦄⦃tb:List (Nat×Str)⦄⦃cs:List (Str×GK)⦄⦃px:Px⦄
include X G
def enX{y:Str}(O:qU y C mg base)⦃b:af⦄(n k:Nat)(Φ:aT)(e:Nat->aa->Prop)(o:aa->Prop)(d:Df K x st)(A:Qi st N ps tb bl cs px b=true)(M:Cg (iD (aO st) y&&!(y==("__debug__" : Str))) n y b (bM st)=true)
  (r:qo px Φ/\GA px Φ) (t:bB (λy=>mg y=none) bl) (z:bB (λp:Str×GK=>∃u,mg p.1=some u/\y_ K p.2 u) cs)
  (hf:bB (λp:Nat×Str=>Ent P w K mg base k p.2 (Φ p.1)) tb) (Q:bB (λp:Nat×Str=>(∃c,e p.1 c)->jg P w K mg base k C p.2 (e p.1)) tb)
  (s:∀c,o c->c.length=ps.length/\Er Φ e n b (c.map some++List.replicate (N.length - c.length) none)) (D:∀(kV l v:Value) (L:Option Addr) (J ct:Value) (j:az),j.length=ps.length->bindArgs (PySem.W.fnOf x x (eM st) (bM st) (aO st) .none kV l v L J ct) ⟨j,[]⟩=pure (ps.zip j):=by first|exact λ_ _ _ _ _ _=>u1 λ_=>rfl|exact λ_ _ _ _ _ _=>u2 λ_ _=>rfl|exact λ_ _ _ _ _ _=>u3 λ_ _ _=>rfl|exact λ_ _ _ _ _ _=>u4 λ_ _ _ _=>rfl|exact λ_ _ _ _ _ _=>u5 λ_ _ _ _ _=>rfl):jg P w K mg base (k+1) C x o:=by
 obtain⟨f,I,m,a⟩:=d;obtain⟨H,E⟩:=aH A;exact⟨f,I,ps,OO m (z9 H) E M r.1 r.2 (bB.mem t) (bB.two (P:=λy i=>∃u,mg y=some u/\y_ K i u) z) (bB.tab (P:=λg y=>Ent P w K mg base k y (Φ g)) hf) (bB.tab (P:=λg y=>(∃c,e g c)->jg P w K mg base k C y (e g)) Q) O s,abu X G a,m.kp,m.binds D,λc q=>(s c q).1⟩
end
def O5{x:Str}(h:wJ x=true):(x==("__debug__" : Str))=false/\(x==("__classdict__" : Str))=false:=by
 unfold wJ at h;simpa only[Bool.and_eq_true,Bool.not_eq_true']using h
noncomputable def GY(l:List (Str×Bool)):Str->Option Bool:=λx=>if x = "ValueError" then some true else l.lookup x
theorem bB.look{P:Str->Bool->Prop}:∀{l:List (Str×Bool)},bB (λp=>P p.1 p.2) l->∀x b,l.lookup x=some b->P x b/\(x,b)∈l
 |[],_,x,b,h=>nomatch h
 | (y,c)::l,a,x,b,h=>by
  rw[eG]at h;by_cases e:x=y
  ·subst e;rw[hY]at h;cases h;exact⟨a.1,aak⟩
  ·rw[beq_eq_false_iff_ne.mpr e]at h;obtain⟨g,d⟩:=bB.look a.2 x b h;exact⟨g,aai _ d⟩
def gB(sc:Scope)(x:Str):Bool:=iD sc x&&!(x==("__debug__" : Str))
noncomputable def Vj(share ex kept told a w1:Str)(C2:Stmt)(k j i:ao)(c v r:Expr)(o n m l:Nat)(g e d np p1 p2 p3 hpos pos c1 H c3 c4 c5 c6 d1 G E D A z y x u t s q p u1 u2 u3 u4 u5 b:Pos):aV :=
 [.Assign [.Name kept g] (.Constant .none o e) d,.Try [C2] [.ExceptHandler (some (.Name share np)) (some ex) [.Assign [.Name kept p1] (.Name ex p2) p3] hpos] [] [] pos,.If (.Compare (.Name kept c1) [.Is] [.Constant .none n H] c3) [.Return (some (.Constant (.str a) m c4)) c5] [] c6,
  .Assign [.Name told d1] (.List k G) E,.Assign [.Name told D] (.BinOp (.Name told A) .Add (.List j z) y) x,.Assign [.Name told u] (.BinOp (.Name told t) .Add (.List i s) q) p,
  .If (.BoolOp .Or [c,.UnaryOp .Not v u1] u2) [.Return (some (.Constant (.str w1) l u3)) u4] [] u5,.Return (some r) b]
noncomputable def sR(n l:Nat)(bs:List Bool):aX:=(List.replicate n none).set l (some (.lst .fz (bs.map DI.D.bl)))
variable {b1 b2 b3:List Bool}{cR cT:CE}{l1 l2 l3:ao}{share told w0 w1:Str}{tc:Expr}
section
variable {X:Cx}{S:Sx}{k:Nat}{Φ:aT}{C B:Addr}{E1:XK}
def vg{ex kept w:Str}{cl:Str->Option Bool}{i j l:Nat}{v r:Expr}{tb:TS}{good:St->Hp->Prop}{nrm:Prop}(L:Lk X S k Φ)(hk:X.stack=X.env::X.outer)(hf:X.env.frame=some X.env.locals)(O:qU share B X.mg X.base)(OS:qp C B X.base)(gs:Gl X share)(ds:(share==("__debug__" : Str))=false)
  (e:X.N[i]?=some ex) (M:X.N[j]?=some kept) (hl:X.N[l]?=some told) (kB:kept≠ex) (BH:j≠l) (lx:X.env.scope.names.lookup ex=some .local) (J:X.env.scope.names.lookup kept=some .local) (lt:X.env.scope.names.lookup told=some .local) (Y:wJ ex=true) (dk:wJ kept=true) (dt:wJ told=true)
  (hb:∀pn Hb,Passes (uR X.prog X.w C) (Cx.nq X pn Hb) E1->iA (Cx.nq X pn Hb) [C2] tb) (hE:∀a,E1 (.ref C) none a->aM X.H₀ a) (htb:∀D t H,good t H->(∀g a,g[j]?=some (some .bP)->aM X.H₀ a->nrm->D.nx g a)->tb D t H) (Z:Qq X C cl) (i1:fW kept cl l1=some b1) (i2:fW kept cl l2=some b2) (i3:fW kept cl l3=some b3) (hv:Bv kept cl v=some true)
  (hc:cg S cT tc=true) (hr:cg S cR r=true) (hlen:b1.length+b2.length+b3.length<=sizeLine) (eT:nM Φ cT (sR X.N.length l (b1++b2++b3))=ok false) (eR:bo Φ cR (sR X.N.length l (b1++b2++b3))=ok (.str w)) :
  ∀{j1 j2 j3 j4:Nat} {z y q3 np p1 p2 p3 hpos pos c1 c2 c3 c4 c5 c6 d1 d2 d3 W U T e4 e5 f1 R Q f4 f5 u1 u2 u3 u4 u5 u6:Pos},iA X (Vj share ex kept told w0 w1 C2 l1 l2 l3 tc v r j1 j2 j3 j4 z y q3 np p1 p2 p3 hpos pos c1 c2 c3 c4 c5 c6 d1 d2 d3 W U T e4 e5 f1 R Q f4 f5 u1 u2 u3 u4 u5 u6)
   (λD t H=>good (t.set j (some .bP)) H/\(nrm->∀a,aM X.H₀ a->D.rt (.str w0) a)/\∀a,E1 (.ref C) none a->∀j7,aM a j7->D.rt (.str w) j7):=by
 intro j1 j2 j3 j4 z y q3 np p1 p2 p3 hpos pos c1 c2 c3 c4 c5 c6 d1 d2 d3 W U T e4 e5 f1 R Q f4 f5 u1 u2 u3 u4 u5 u6;have Y:=O5 Y;have dk:=O5 dk;have dt:=O5 dt;unfold Vj;have I:∀p,PE X (.Name kept p) (nA j):=λp=>ml (pos:=p) M (.inl J) dk.1 dk.2;have ht:∀p,PE X (.Name told p) (nA l):=λp=>ml (pos:=p) hl (.inl lt) dt.1 dt.2;have S1:=oZ (X:=X) (pos:=q3) (pos':=z) (i:=j) L.nd M (.inl J) (DW (j:=j1) (pos:=y)) (hf:=.inr J);have S2:=HW (X:=X) (C:=C) (B:=B) (body:=[C2]) (tb:=tb) (i:=i) (j:=j) (E1:=E1) (np:=np) (p1:=p1) (p2:=p2) (p3:=p3) (hpos:=hpos) (pos:=pos) hk hf O OS gs ds L.nd e M kB lx J Y.1 Y.2 rfl hb;have S3:=vD (X:=X) (pos:=c6) (Mw (pos:=c3) (MG (j:=j2) (pos':=c2) (I c1))) (iJ (o3 (X:=X) (pos:=c5) (tm (x:=w0) (j:=j3) (pos:=c4)))) sW;have S4:=oZ (X:=X) (pos:=d3) (pos':=d1) (i:=l) L.nd hl (.inl lt) (yd (pos:=d2) (yf Z I i1)) (hf:=.inr lt);obtain⟨pv1,_,pv3⟩:=DY Z I hv;have S7:=vD (X:=X) (pos:=u5) (Ky (pos:=u2) (rest:=[]) (eZ (F:=λ_=>False) L cT tc hc).2 (DD (pos:=u2) (DF (pos:=u1) (DE pv1 pv3)))).pt (iJ (o3 (X:=X) (pos:=u4) (tm (x:=w1) (j:=j4) (pos:=u3)))) sW;have S8:=o3 (X:=X) (pos:=u6) (eZ (F:=λ_=>False) L cR r hr).1;refine iA.imp (dZ S1 (dZ S2 (dZ S3 (dZ S4 (dZ (UC (bs':=b1) Z I ht L.nd hl lt BH i2 (by left)) (dZ (UC (bs':=b1++b2) Z I ht L.nd hl lt BH i3 (by simp;left)) (dZ S7 (iJ S8)))))))) λD t H hq=>?_;obtain⟨G,z,y⟩:=hq;refine⟨htb _ _ _ G λg a W sm nr=>⟨.bP,W,true,rfl,Nq (z nr a sm)⟩,λc a hx hn=>?_⟩;have hjN:j<X.N.length:=(List.getElem?_eq_some_iff.mp M).1;have E:l<X.N.length:=(List.getElem?_eq_some_iff.mp hl).1;have G:(only X.N.length j (.ref c))[j]?=some (some (.ref c)):=by
  unfold only;rw[List.getElem?_set_self (by rw[fc];exact hjN)]
 have P4:(only X.N.length j (.ref c)).length=X.N.length:=by unfold only;simp
 refine⟨.ref c,G,false,rfl,EC ?_⟩;refine⟨c,G,aZ,by simp;left,λA n1=>?_⟩;have s0:aM a (upd a c (.ext (y2 c C))):=aM.upd hn;have s1:=s0.trans (aM.upd (o:=.lst (b1.map V.bl)) n1);have Yc:upd (upd a c (.ext (y2 c C))) A (.lst (b1.map V.bl)) c=some (.ext (y2 c C)):=(aM.upd n1) _ _ aZ;refine⟨c,A,by rw[List.getElem?_set_ne (Ne.symm BH)];exact G,Yc,by rw[List.getElem?_set_self (by rw[P4];exact E)],aZ,λσ2 H2 l2' s2 n2 U R g2 IC=>?_⟩;have VF:=s2 _ _ Yc;refine⟨c,l2',U,VF,R,g2,λs H3 XD s3 n3 T Q g3 IB=>?_⟩;have hx3:=s3 _ _ VF;have u:=(s1.trans s2).trans s3;have hl3:s.length=X.N.length:=by rw[IB,IC,ji,P4]
 have nf:X.H₀ XD=none:=aM.free ((hE a hx).trans (s1.trans s2)) n3;have Si:∀q,aM H3 q->SI X (λ_=>False) (λp=>p=XD) (λ_=>none) (sR X.N.length l (b1++b2++b3)) s q:=λq m=>by
  refine⟨?_,λi d e=>?_,λ_ _=>rfl,λp hp=>?_,λp hp=>?_,λ_ _ h=>by simp at h,λ_ _ h=>by simp at h,((hE a hx).trans u).trans m⟩
  ·unfold sR;rw[ji,fc,hl3]
  ·unfold sR at e;by_cases GP:l=i
   ·subst GP;rw[List.getElem?_set_self (by rw[fc];exact E)]at e;cases e;refine⟨_,Q,.lst ⟨m _ _ g3,rfl⟩ ?_⟩;have:∀(bs:List Bool) (n:Nat),aF (bc X.K q) (DI.nd X.K (λp=>p=XD) (λ_=>False) (λ_=>none) q) [l] n (bs.map V.bl) (bs.map DI.D.bl):=by
     intro bs;induction bs with
     |nil=>intro n;exact .nil
     |cons b bs ih=>intro n;exact .cons (.bl b) (ih _)
    exact this _ _
   ·rw[List.getElem?_set_ne GP]at e;rw[List.getElem?_replicate]at e;split at e<;>cases e
  ·subst hp;rw[m _ _ g3];simp
  ·subst hp;exact .inr nf
 refine⟨_,_,_,false,Si H3 (aM.refl _),eT,λq m=>?_⟩;refine EC ⟨c,by rw[<- T],m _ _ hx3,true,rfl,EC ?_⟩;refine⟨_,_,_,_,Si q m,eR,λv H5 s5 rv=>?_⟩;obtain⟨τt,_,rp⟩:=rv;cases rp;exact y a hx _ ((u.trans m).trans s5)
end
structure TW(K:ak)(mg:aY)(base:Heap)(B:Addr)(sc:Scope)(kept:Str)(l1 l2 l3:ao)(v:Expr)(Φ:aT)(cT cR:CE)(n l:Nat)(C:Addr)(w:Str):Prop where
 os:qp C B base
 xc:XC K C
 ex:∃(cl:Str->Option Bool) (b1 b2 b3:List Bool),(∀x b,cl x=some b->Lv K mg sc C x b)/\fW kept cl l1=some b1/\fW kept cl l2=some b2/\fW kept cl l3=some b3/\Bv kept cl v=some true/\b1.length+b2.length+b3.length<=sizeLine/\nM Φ cT (sR n l (b1++b2++b3))=ok false/\bo Φ cR (sR n l (b1++b2++b3))=ok (.str w)
def ntB(sc:Scope)(N:aq)(share ex kept told:Str)(i j l:Nat):Bool:=gB sc share&&(iD sc "isinstance" && (decide (N[i]?=some ex)&&(decide (N[j]?=some kept)&&(decide (N[l]?=some told)&&(decide (kept≠ex/\j≠l)&&(decide (sc.names.lookup ex=some .local)&&(decide (sc.names.lookup kept=some .local)&&(decide (sc.names.lookup told=some .local)&&(wJ ex&&(wJ kept&&wJ told))))))))))
noncomputable def Du(N:aq)(j:Nat)(ds:aa):aX:=(ds.map some++List.replicate (N.length - ds.length) none).set j (some .bP)
section
variable {P:aK}{w:World}{K:ak}{h base:Heap}{mg:aY}(X:K.In h)(G:h.Ns mainGlobals mg)⦃x:Str⦄⦃st:Stmt⦄⦃N ps bl:aq⦄⦃tb:List (Nat×Str)⦄⦃cs:List (Str×GK)⦄⦃px:Px⦄
include X G
def Zu{C0:Addr}{ex kept w00:Str}{v r0:Expr}{c:CS}(i j l k:Nat)(Φ:aT)(m:au)(hO:qU share B mg base)(ni:mg "isinstance" = none){j1 j2 j3 j4:Nat}{q1 q2 q3 np p1 p2 p3 hpos pos c1 c2 c3 c4 c5 c6 d1 d2 d3 e1 e2 e3 e4 e5 f1 f2 f3 f4 f5 u1 u2 u3 u4 u5 u6:Pos}(d:Df K x st)(hsc:VW N ps (aO st)=true)
  (Sw:bM st=Vj share ex kept told w0 w1 C2 l1 l2 l3 tc v r0 j1 j2 j3 j4 q1 q2 q3 np p1 p2 p3 hpos pos c1 c2 c3 c4 c5 c6 d1 d2 d3 e1 e2 e3 e4 e5 f1 f2 f3 f4 f5 u1 u2 u3 u4 u5 u6/\(ntB (aO st) N share ex kept told i j l&&(cg ⟨aO st,N,λn=>List.lookup n tb,bl,cs,px⟩ cT tc&&(cg ⟨aO st,N,λn=>List.lookup n tb,bl,cs,px⟩ cR r0&&(qP ⟨aO st,N,λn=>List.lookup n tb,bl,cs,px⟩ c C2&&LS c))))=true)
  (hp:qo px Φ/\GA px Φ) (rO:bB (λy=>mg y=none) bl) (lI:bB (λp:Str×GK=>∃u,mg p.1=some u/\y_ K p.2 u) cs) (hf:bB (λp:Nat×Str=>Ent P w K mg base k p.2 (Φ p.1)) tb) (T0:TW K mg base B (aO st) kept l1 l2 l3 v Φ cT cR N.length l C0 w00)
  (hm:∀I r,m I=ok r->I.length=ps.length/\((r=.str w0/\∃ρ',ib Φ c (Du N j I)=ok (.nx,ρ')/\ρ'[j]?=some (some .bP)) \/
   ∃ww C n' Ψ,r=.str ww/\TW K mg base B (aO st) kept l1 l2 l3 v Φ cT cR N.length l C ww/\bB (λp:Nat×Str=>(∃I,Ψ p.1 I)->jg P w K mg base k C p.2 (Ψ p.1)) tb/\oE Φ Ψ n' c (Du N j I)))
  (hb:∀(kV doc pm:Value) (an:Option Addr) (f_ ct:Value) (us:az),us.length=ps.length->bindArgs (PySem.W.fnOf x x (eM st) (bM st) (aO st) .none kV doc pm an f_ ct) ⟨us,[]⟩=pure (ps.zip us):=by first|exact λ_ _ _ _ _ _=>u1 λ_=>rfl):Ent P w K mg base (k+1) x m:=by
 obtain⟨f,fd,Fu,a⟩:=d;obtain⟨Sw,e⟩:=Sw;obtain⟨e,hs⟩:=aH e;obtain⟨s1,hs⟩:=aH hs;obtain⟨s2,hs⟩:=aH hs;obtain⟨s4,s5⟩:=aH hs;obtain⟨n1,e⟩:=aH e;obtain⟨n9,e⟩:=aH e;obtain⟨n2,e⟩:=aH e;obtain⟨n3,e⟩:=aH e;obtain⟨n4,e⟩:=aH e;obtain⟨n5,e⟩:=aH e;obtain⟨n6,e⟩:=aH e;obtain⟨n7,e⟩:=aH e;obtain⟨n8,e⟩:=aH e;obtain⟨n10,e⟩:=aH e;obtain⟨n11,n12⟩:=aH e;obtain⟨n1,Xv⟩:=aH n1;have hj:=aad n3;obtain⟨kB,BH⟩:=aad n5;have Sc:=z9 hsc;refine⟨f,fd,ps,Fu.ok (N:=N) Sc (λvs H Q E ⟨_,_,_,h,_⟩=>h) λf_ A outer s H vs Q E hr xw=>?_,abu X G a,Fu.kp,Fu.binds hb,λI r q=>(hm I r q).1⟩;obtain⟨F,I,r,hlq,rs,er,hq⟩:=xw;obtain⟨P_,Td⟩:=hm I r er;have yv:=hp.1;have NJ:=hp.2;have rO:=bB.mem rO;have lI:=bB.two (P:=λy i=>∃u,mg y=some u/\y_ K i u) lI;have xA:=bB.tab (P:=λg y=>Ent P w K mg base k y (Φ g)) hf
 let M:=(jH Ce P w K mg base N x (aO st) f f_ A outer s H E).zJ
 have L:Lk M ⟨aO st,N,λn=>List.lookup n tb,bl,cs,px⟩ k Φ:=⟨rfl,rfl,Sc.nd,rfl,hr,rO,λg y h=>⟨(xA g y h).ex⟩,lI,yv⟩
 have Z:∀{C:Addr} {cl:Str->Option Bool},XC K C->(∀x b,cl x=some b->Lv K mg (aO st) C x b)->Qq M C cl:=λxc Tc=>⟨xc,L.gl n9,ni,λx b h p=>by
  obtain⟨⟨h1,h2⟩,h3⟩:=Tc x b h;rcases h3 with ⟨Ci,h3,h4⟩|⟨T,h3,h4,h5,h6⟩
  ·exact⟨.ref Ci,.ref Ci,zC (L.gl h1) h3 rfl h2,λu z=>z,h4⟩
  ·exact⟨.ty T,.type T,zE (L.gl h1) h3 h4 rfl h5 h2,λu z=>z,h6⟩⟩
 have hpl:ps.length<=N.length:=by have:=aaI List.length Sc.pre;rw[hF]at this;left
 have Si:=vn (X:=M) (F:=F) (N:=N) (vs:=vs) (ds:=I) (H:=H) rfl (by left) rs;have aek:j<N.length:=(List.getElem?_eq_some_iff.mp hj).1;obtain⟨τ1,qy⟩:=Si.set (i:=j) (v:=.bP) (d:=.bP) ⟨λ_=>none,λ_ _ h=>by simp at h,.bP⟩ (by simp;left);rw[Sw];rcases Td with ⟨rfl,ρ',e1,e2⟩|⟨ww,C,n',Ψ,rfl,T,I0,e1⟩
 ·obtain⟨cl,b1,b2,b3,t1,t2,t3,t4,t5,t6,t7,t8⟩:=T0.ex;refine⟨_,vg (X:=M) (nrm:=True) (E1:=λ_ _ _=>False) (good:=λY H=>∃R U t o,SI M F R U t Y H/\ib Φ c t=ok (.nx,o)/\o[j]?=some (some .bP))
   (tb:=λD Y H=>∃R U t o,SI M F R U t Y H/\ib Φ c t=ok (.nx,o)/\∀J O R' V,SI M F R' V o J O->D.nx J O) L rfl rfl hO T0.os (L.gl n1) (gN Xv) (aad n2) hj (aad n4) kB BH (aad n6) (aad n7) (aad n8) n10 n11 n12 (λpn Hb _=>?_) (λ_ z=>z.elim) (λD Y O hg hd=>?_) (Z T0.xc t1) t2 t3 t4 t5 s1 s2 t6 t7 t8,⟨_,_,_,_,qy,e1,e2⟩,λ_ O sm=>?_,λ_ z=>z.elim⟩
  ·have Lt:nc (Cx.nq M pn Hb).zJ ⟨aO st,N,λn=>List.lookup n tb,bl,cs,px⟩ k Φ:=⟨⟨L.sc,L.N,L.nd,L.calm,L.room,L.bl,λf x h=>⟨(L.fn f x h).ex⟩,L.cs,L.pr⟩,λ_=>rfl,PassesOwn.never,Sc.kind,NJ⟩
   refine iA.imp (iJ (PS.zJ (xU (F:=F) Lt c C2 s4))) λD Y H ⟨R,U,t,o,Si,ev,hq⟩=>⟨R,U,t,_,Si.nq.zJ,ev,λJ O R' V fM _=>hq J O R' V (by have S:=fM.QD;exact⟨S.len,S.rep,S.rt,S.rh,S.rf,S.th,S.t0,S.same⟩)⟩
  ·obtain⟨R,U,t,o,Si,ev,f2⟩:=hg;refine⟨R,U,t,o,Si,ev,λJ O R' V fM=>?_⟩;obtain⟨v1,g1,r1⟩:=fM.rep j _ f2;cases r1;exact hd J O g1 fM.same trivial
  ·exact hq (.str w0) O sm ⟨λ_=>none,λ_ _ h=>by simp at h,.str w0⟩
 ·obtain⟨cl,b1,b2,b3,t1,t2,t3,t4,t5,t6,t7,t8⟩:=T.ex;have I0:=bB.tab (P:=λg y=>(∃I,Ψ g I)->jg P w K mg base k C y (Ψ g)) I0;refine⟨_,vg (X:=M) (nrm:=False) (E1:=λc _ O=>c=.ref C/\aM M.H₀ O) (good:=λY H=>∃R U t,SI M F R U t Y H/\oE Φ Ψ n' c t)
   (tb:=lh M F (oE Φ Ψ n' c)) L rfl rfl hO T.os (L.gl n1) (gN Xv) (aad n2) hj (aad n4) kB BH (aad n6) (aad n7) (aad n8) n10 n11 n12 (λpn Hb hx=>?_) (λ_ z=>z.2) (λD Y O hg hd=>hg) (Z T.xc t1) t2 t3 t4 t5 s1 s2 t6 t7 t8,⟨_,_,_,qy,e1⟩,λz=>z.elim,λO hE j7 sm=>?_⟩
  ·exact iA.imp (iJ (T7 (X:=Cx.nq M pn Hb) (F:=F) (n:=n') ⟨L.sc,L.N,L.nd,L.calm,L.room,L.bl,λf x h=>⟨(L.fn f x h).ex⟩,L.cs,L.pr⟩ hx I0 s5 s4)) λD Y H ⟨R,U,t,Si,hb⟩=>⟨R,U,t,Si.nq,hb⟩
  ·exact hq (.str ww) j7 (hE.2.trans sm) ⟨λ_=>none,λ_ _ h=>by simp at h,.str ww⟩
end
def rb(X:K.In h)(G:h.Ns mainGlobals mg){sc:Scope}{kept w:Str}{v:Expr}{n l:Nat}{ls:List (Str×Bool)}(i:qp C B base)(xc:XC K C)
  (hl:bB (λp:Str×Bool=>∃g,PySem.W.nsIn K mainGlobals p.1=some (some (.ref g))/\PySem.W.kitOne K (.ref C) (.ref g)=some p.2) ls) (vv:PySem.W.kitOne K (.ref C) (.type "ValueError")=some true) (j:mg "ValueError" = none)
  (a:(gB sc "ValueError" && (ls.all (λp=>gB sc p.1)&&(decide (fW kept (GY ls) l1=some b1)&&(decide (fW kept (GY ls) l2=some b2)&&(decide (fW kept (GY ls) l3=some b3)&&(decide (Bv kept (GY ls) v=some true)&&decide (b1.length+b2.length+b3.length<=100)))))))=true)
  (A:nM Φ cT (sR n l (b1++b2++b3))=ok false) (D:bo Φ cR (sR n l (b1++b2++b3))=ok (.str w)):TW K mg base B sc kept l1 l2 l3 v Φ cT cR n l C w:=by
 obtain⟨c7,a⟩:=aH a;obtain⟨E,a⟩:=aH a;obtain⟨r,a⟩:=aH a;obtain⟨q,a⟩:=aH a;obtain⟨o,a⟩:=aH a;obtain⟨m,k⟩:=aH a;obtain⟨c7,d⟩:=aH c7;refine⟨i,xc,GY ls,b1,b2,b3,λy b c=>?_,aad r,aad q,aad o,aad m,by rw[sizeLine_eq];exact aaG (aad k) (by decide),A,D⟩;unfold GY at c;by_cases e:y = "ValueError"
 ·subst e;rw[cc rfl]at c;cases c;exact⟨⟨c7,gN d⟩,.inr ⟨"ValueError",j,by decide +kernel,by decide +kernel,vv⟩⟩
 ·rw[cb e]at c;obtain⟨⟨g,z,x⟩,u⟩:=bB.look (P:=λy b=>∃g,PySem.W.nsIn K mainGlobals y=some (some (.ref g))/\PySem.W.kitOne K (.ref C) (.ref g)=some b) hl y b c;obtain⟨t,s⟩:=aH (List.all_eq_true.mp E _ u);exact⟨⟨t,gN s⟩,.inl ⟨g,abu X G z,x⟩⟩
end DI
end
section
set_option maxHeartbeats 1000000
namespace DI
open PySem (Str)
def qa{a b:Type}{x:O a}{f:a->O b}{n:Nat}(h:x=some (.error n)):bd x f=some (.error n):=by rw[h];rfl
variable {Φ:aT}{ρ:aX}
def uw{g n:Nat}{es:aA}{xs:aa}(b:bJ Φ es ρ=ok xs)(a:Φ g (aw aI xs)=some (.error n)):bo Φ (.call g es) ρ=some (.error n):=by
 show bd (bJ Φ es ρ) (λxs=>bd (Φ g (aw aI xs)) λr=>ok (aE eX r))=_;rw[b,m6,a];rfl
mutual
theorem oE.err{Φ:aT}{f:Nat->aa->Prop}{n:Nat}(e:∀g ds,f g ds->Φ g ds=some (.error n)):∀{c:CS} {ρ:aX},oE Φ f n c ρ->ib Φ c ρ=some (.error n)
 |_,_,.ex h1 h2=>qa (uw h1 (e _ _ h2))
 |_,_,.asg h1 h2=>qa (qa (uw h1 (e _ _ h2)))
 |_,_,.ret h1 h2=>qa (qa (uw h1 (e _ _ h2)))
 |_,_,.rs=>rfl
 |_,_,.BD (c:=c) (a:=a) (b:=b) (ρ:=ρ) h1 h2=>by
  show bd (nM Φ c ρ) (λk=>if k then bE Φ a ρ else bE Φ b ρ)=_;rw[h1,m6];exact Er.err e h2
 |_,_,.iff (c:=c) (a:=a) (b:=b) (ρ:=ρ) h1 h2=>by
  show bd (nM Φ c ρ) (λk=>if k then bE Φ a ρ else bE Φ b ρ)=_;rw[h1,m6];exact Er.err e h2
 |_,_,.fr (t:=t) (a:=a) (b:=b) (ρ:=ρ) h1 h2 _=>by
  show bd (bX Φ a ρ) (λr=>dC (λd ρ=>bU t d ρ) (λρ=>bE Φ b ρ) r.1 r.2)=_;rw[h1,m6];exact Cy.err e h2
theorem Er.err{Φ:aT}{f:Nat->aa->Prop}{n:Nat}(e:∀g ds,f g ds->Φ g ds=some (.error n)):∀{cs:af} {ρ:aX},Er Φ f n cs ρ->bE Φ cs ρ=some (.error n)
 |_,_,.hd (c:=c) (cs:=cs) (ρ:=ρ) h=>by
  rw[cp];unfold mT;exact qa (oE.err e h)
 |_,_,.tl (c:=c) (cs:=cs) (ρ:=ρ) h1 h2=>by
  rw[cp];unfold mT;rw[h1,m6];exact Er.err e h2
theorem Cy.err{Φ:aT}{f:Nat->aa->Prop}{n:Nat}(e:∀g ds,f g ds->Φ g ds=some (.error n)):∀{t:Tg} {b:af} {ds:aa} {ρ:aX},Cy Φ f n t b ds ρ->dC (λd ρ=>bU t d ρ) (λρ=>bE Φ b ρ) ds ρ=some (.error n)
 |_,_,_,_,.hd (ρ:=ρ) h1 h2=>by
  unfold dC;rw[h1,m6];exact qa (Er.err e h2)
 |_,_,_,_,.tl h1 h2 h3=>by
  unfold dC;rw[h1,m6,h2,m6];exact Cy.err e h3
end
def y8(e:Nat):Nat->aa->Prop
 |67=>λa=>(e=1/\X1 1 a)\/(e=5/\X5 1 a)\/(e=6/\UY a)\/(e=4/\UZ a)
 |68=>λa=>(e=1/\X1 3 a)\/(e=6/\X68 a)\/(e=7/\UW a)\/(e=3/\UU a)\/(e=4/\UX a)
 |69=>λa=>(e=1/\X1 2 a)\/(e=5/\X5 2 a)\/(e=6/\UR a)\/(e=7/\US a)\/(e=4/\UT a)
 |71=>λa=>(e=1/\X1 0 a)\/(e=6/\X71 a)
 |_=>λ_=>False
def xn(e:Nat):Nat->aa->Prop
 |17=>λa=>e=1/\xD a
 |21=>λa=>e=1/\xD a
 |46=>λa=>e=3/\Ca cH a
 |47=>λa=>e=4/\Ca cH a
 |55=>λa=>e=5/\J8 a
 |56=>λa=>e=6/\G1 a
 |57=>λa=>e=6/\G0 a
 |58=>λa=>e=7/\GZ a
 |227=>xg (y8 e)
 |g=>y8 e g
noncomputable def Hc:Nat->Option Str
 |1=>some "drawing"
 |3=>some "weights"
 |4=>some "worths"
 |5=>some "size"
 |6=>some "pair"
 |7=>some "lot"
 |_=>none
noncomputable def V7:CS:=.ex (.call 227 [(.v 0),(.v 1)])
open Classical in
noncomputable def vA(Φ:aT)(ds:aa):O D:=if ds.length=2/\aw aI ds=ds/\aw bg ds=ds then(match Φ 227 ds with
 |some (.ok _)=>ok (.str "")
 |some (.error e)=>match Hc e with
  |some s=>if xg (y8 e) ds then ok (.str s)else none
  |none=>none
 |none=>none)else none
def hmK{a b c d e:Str}(ds:aa)(r:D)(h:vA Φ ds=ok r):ds.length=[a,b].length/\((r=.str "" /\ ∃f,ib Φ V7 (Du [a,b,c,d,e] 2 ds)=ok (.nx,f)/\f[2]?=some (some .bP))\/∃n s,Hc n=some s/\r=.str s/\oE Φ (xn n) n V7 (Du [a,b,c,d,e] 2 ds)):=by
 unfold vA at h;by_cases g:ds.length=2/\aw aI ds=ds/\aw bg ds=ds
 case neg=>rw[cb g]at h;cases h
 rw[cc g]at h;obtain⟨t,j,i⟩:=g;obtain⟨x,y,rfl⟩:∃x y,ds=[x,y]:=by
  match ds,t with
  |[x,y],_=>exact⟨x,y,rfl⟩
 have o:Du [a,b,c,d,e] 2 [x,y]=[some x,some y,some .bP,none,none]:=rfl;have k:bJ Φ [(.v 0),(.v 1)] [some x,some y,some .bP,none,none]=ok [x,y]:=by
  show m5 (ok (aE bg x)) (m5 (ok (aE bg y)) (ok []))=_;have q:aE bg x=x:=(aa_ i).1;have p:aE bg y=y:=(aa_ (aa_ i).2).1;rw[q,p];rfl
 rw[o];refine⟨rfl,?_⟩;split at h
 ·rename_i w l;cases h;exact .inl ⟨rfl,_,i7 k (by rw[j];exact l),rfl⟩
 ·rename_i n l;split at h
  ·rename_i s u;split at h
   ·rename_i m;cases h;exact .inr ⟨n,s,u,rfl,.ex k (by rw[j];exact m)⟩
   ·cases h
  ·cases h
 ·cases h
def jE{n ar N:Nat}{b:af}{ds:aa}(h:ds.length=ar/\Er Φ (λg ds=>Φ g ds=some (.error n)) n b (ds.map some++List.replicate (N - ds.length) none)):mk Φ ar N b ds=some (.error n):=by
 rw[mk_eq h.1,Er.err (λ_ _ h=>h) h.2];rfl
def qm(x:aa->Prop)(e:Nat)(m:au):Prop:=∀a,x a->m a=some (.error e)
def r17(Φ:aT)(b:∀n:Nat,1<=n->n<=12->Φ 16 [aQ n []]=ok (.bl false)):qm xD 1 (mk Φ 1 1 b9):=λa h=>jE (Um Φ _ b a h)
def r21(Φ:aT)(b:qm xD 1 (Φ 17)):qm xD 1 (mk Φ 1 4 fj):=λa h=>jE (Ul Φ (λg a=>Φ g a=some (.error 1)) 1 b a h)
def ui{c:Nat}{m:au}(h:cW c cH m):qm (Ca cH) c m:=λf a=>by
 obtain⟨d,n,rfl,b,e⟩:=a;rw[h d n b,e];rfl
def r55(Φ:aT)(h:Φ 1042=vO):qm J8 5 (mk Φ 1 1 iR):=λb a=>jE (Uk Φ _ h b a)
def r56(Φ:aT)(h:Φ 1003=g_):qm G1 6 (mk Φ 1 3 kK):=λb a=>jE (Uj Φ _ h b a)
def r57(Φ:aT):qm G0 6 (mk Φ 1 3 iT):=λb a=>jE (Ui Φ _ b a)
def r58(Φ:aT)(h:iz (Φ 11)):qm GZ 7 (mk Φ 2 2 kL):=λb a=>jE (Uh Φ _ h b a)
def Cu(g:Nat)(m:au):Prop:=∀e a,y8 e g a->m a=some (.error e)
section
variable {Φ:aT}{Ψ:Nat->aa->Prop}{e:Nat}{ds:aa}
def a67(a:bF (Φ 21))(c:dR (Φ 55))(f:mO (Φ 56))(uS:e=1->∀ds,xD ds->Ψ 21 ds)(d:e=4->∀ds,Ca cH ds->Ψ 47 ds)(Cq:e=5->∀ds,J8 ds->Ψ 55 ds)(GL:e=6->∀ds,G1 ds->Ψ 56 ds)(h:y8 e 67 ds):ds.length=2/\Er Φ Ψ e wZ (ds.map some++List.replicate (4 - ds.length) none):=by
 rcases h with ⟨rfl,h⟩|⟨rfl,h⟩|⟨rfl,h⟩|⟨rfl,h⟩
 ·exact rW Φ Ψ (uS rfl) ds h
 ·exact⟨(V2 Φ Ψ a (Cq rfl) (i:=1) (m:=4) (b:=[]) (by decide) ds h).1,(V2 Φ Ψ a (Cq rfl) (i:=1) (m:=4) (by decide) ds h).2 (by decide)⟩
 ·exact Ue Φ Ψ a c (GL rfl) ds h
 ·exact Ug Φ Ψ a c f (d rfl) ds h
def a68(a:bF (Φ 21))(b:dS (Φ 57))(d:hU (Φ 58))(g:cW 3 cH (Φ 46))(uS:e=1->∀ds,xD ds->Ψ 21 ds)(c:e=3->∀ds,Ca cH ds->Ψ 46 ds)(f:e=4->∀ds,Ca cH ds->Ψ 47 ds)(GJ:e=6->∀ds,G0 ds->Ψ 57 ds)(GI:e=7->∀ds,GZ ds->Ψ 58 ds)(h:y8 e 68 ds):ds.length=4/\Er Φ Ψ e qR (ds.map some++List.replicate (6 - ds.length) none):=by
 rcases h with ⟨rfl,h⟩|⟨rfl,h⟩|⟨rfl,h⟩|⟨rfl,h⟩|⟨rfl,h⟩
 ·exact rW Φ Ψ (uS rfl) ds h
 ·exact Zp Φ Ψ a (GJ rfl) ds h
 ·exact Uc Φ Ψ a b (GI rfl) ds h
 ·exact Ub Φ Ψ a b d (c rfl) ds h
 ·exact Ud Φ Ψ a b d g (f rfl) ds h
def a69(a:bF (Φ 21))(c:dR (Φ 55))(d:dS (Φ 57))(f:hU (Φ 58))(uS:e=1->∀ds,xD ds->Ψ 21 ds)(g:e=4->∀ds,Ca cH ds->Ψ 47 ds)(Cq:e=5->∀ds,J8 ds->Ψ 55 ds)(GJ:e=6->∀ds,G0 ds->Ψ 57 ds)(GI:e=7->∀ds,GZ ds->Ψ 58 ds)(h:y8 e 69 ds):ds.length=3/\Er Φ Ψ e uC (ds.map some++List.replicate (5 - ds.length) none):=by
 rcases h with ⟨rfl,h⟩|⟨rfl,h⟩|⟨rfl,h⟩|⟨rfl,h⟩|⟨rfl,h⟩
 ·exact rW Φ Ψ (uS rfl) ds h
 ·exact⟨(V2 Φ Ψ a (Cq rfl) (i:=2) (m:=5) (b:=[]) (by decide) ds h).1,(V2 Φ Ψ a (Cq rfl) (i:=2) (m:=5) (by decide) ds h).2 (by decide)⟩
 ·exact T9 Φ Ψ a c (GJ rfl) ds h
 ·exact T_ Φ Ψ a c d (GI rfl) ds h
 ·exact Ua Φ Ψ a c d f (g rfl) ds h
def a71(a:bF (Φ 21))(uS:e=1->∀ds,xD ds->Ψ 21 ds)(GL:e=6->∀ds,G1 ds->Ψ 56 ds)(h:y8 e 71 ds):ds.length=1/\Er Φ Ψ e w6 (ds.map some++List.replicate (6 - ds.length) none):=by
 rcases h with ⟨rfl,h⟩|⟨rfl,h⟩
 ·exact rW Φ Ψ (uS rfl) ds h
 ·exact Zo Φ Ψ a (GL rfl) ds h
end
section
variable (Φ:aT)(eW:bF (Φ 21))(uS:qm xD 1 (Φ 21))
include eW uS
def r67(b:dR (Φ 55))(c:mO (Φ 56))(a:cW 4 cH (Φ 47))(Cq:qm J8 5 (Φ 55))(GL:qm G1 6 (Φ 56)):Cu 67 (mk Φ 2 4 wZ):=λe d h=>jE (a67 eW b c (λq=>q▸uS) (λq=>q▸ui a) (λq=>q▸Cq) (λq=>q▸GL) h)
def r68(d:dS (Φ 57))(c:hU (Φ 58))(a:cW 3 cH (Φ 46))(b:cW 4 cH (Φ 47))(GJ:qm G0 6 (Φ 57))(GI:qm GZ 7 (Φ 58)):Cu 68 (mk Φ 4 6 qR):=λe f h=>jE (a68 eW d c a (λq=>q▸uS) (λq=>q▸ui a) (λq=>q▸ui b) (λq=>q▸GJ) (λq=>q▸GI) h)
def r69(c:dR (Φ 55))(d:dS (Φ 57))(b:hU (Φ 58))(a:cW 4 cH (Φ 47))(Cq:qm J8 5 (Φ 55))(GJ:qm G0 6 (Φ 57))(GI:qm GZ 7 (Φ 58)):Cu 69 (mk Φ 3 5 uC):=λe f h=>jE (a69 eW c d b (λq=>q▸uS) (λq=>q▸ui a) (λq=>q▸Cq) (λq=>q▸GJ) (λq=>q▸GI) h)
def r71(GL:qm G1 6 (Φ 56)):Cu 71 (mk Φ 1 6 w6):=λe a h=>jE (a71 eW (λq=>q▸uS) (λq=>q▸GL) h)
end
structure K28(Φ:aT):Prop where
 h67:Lo (Φ 67)
 h68:xj (Φ 68)
 h69:xl (Φ 69)
 h71:U2 (Φ 71)
 XO:Cu 67 (Φ 67)
 XN:Cu 68 (Φ 68)
 XM:Cu 69 (Φ 69)
 XJ:Cu 71 (Φ 71)
structure AS(n:Nat)(rs:ai)(r:Row)(ws xs:aS)(o l h:D):Prop where
 dr:Dr 6 n rs
 fi:xo rs
 n5:n<=5
 hr:r∈rs
 gs:Gs 3 n ws xs
 fo:Fz o
 co:eN o
 no:jw o n=false
 fl:Fz l
 cl:eN l
 nl:cH l n=false
 fh:Fz h
 ch:eN h
 nh:cH h n=false
def QX{n:Nat}{rs:ai}(I:Dr 6 n rs)(h:decide (ka (mU rs)<kb (mU rs))=true):∃r∈rs,∃a∈rs,r.2.length≠a.2.length:=by
 obtain⟨x,c,y,b,e⟩:=(zM (ns:=mU rs) (by unfold mU;rw[b4];exact I.some)).mp (aad h);obtain⟨r,d,rfl⟩:=List.mem_map.mp c;obtain⟨a,f,rfl⟩:=List.mem_map.mp b;exact⟨r,d,a,f,λz=>e (by rw[z])⟩
def QY{n:Nat}{rs:ai}{r:Row}(I:Dr 6 n rs)(c:r∈rs)(h:decide (ka (mU rs)<kb (mU rs))=false):∀a∈rs,a.2.length=r.2.length:=λa d=>by
 refine Decidable.byContradiction λb=>of_decide_eq_false h ((zM (ns:=mU rs) (by unfold mU;rw[b4];exact I.some)).mpr ⟨(a.2.length:Int),List.mem_map.mpr ⟨a,d,rfl⟩,(r.2.length:Int),List.mem_map.mpr ⟨r,c,rfl⟩,λz=>b (Int.ofNat_inj.mp z)⟩)
def DL{n:Nat}{rs:ai}(I:Dr 6 n rs){g h:Int}(hz:aB rs g h≠0):0<aB rs g h:=by
 have a:=(jt I g h).1;grind
def Ll{n:Nat}{rs:ai}(I:Dr 6 n rs)(h:uI n rs=true)(g:Nat)(a:g<n):0<aB rs g g:=by
 refine DL I λz=>?_;have:=List.filter_eq_nil_iff.mp (aad h) (aB rs g g) (List.mem_map.mpr ⟨g,List.mem_range.mpr a,rfl⟩);exact this (aaN z)
def Lm{n:Nat}{rs:ai}(h:uI n rs=false):∃g:Nat,g<n/\aB rs g g=0:=by
 refine Classical.byContradiction λb=>of_decide_eq_false h (List.filter_eq_nil_iff.mpr λq a=>?_);obtain⟨g,c,rfl⟩:=List.mem_map.mp a;exact λz=>b ⟨g,List.mem_range.mp c,aad z⟩
def Kg{n:Nat}{rs:ai}(I:Dr 6 n rs)(h:nu n rs=true)(g k:Nat)(c:g<n)(b:k<n):0<aB rs g k:=by
 refine DL I λz=>?_;unfold nu at h;rw[mY]at h;have a:(List.range' 0 n).filter (Kc n rs)=[]:=List.length_eq_zero_iff.mp (by left);exact List.filter_eq_nil_iff.mp a g (List.mem_range'_1.mpr (by left)) (List.any_eq_true.mpr ⟨k,List.mem_range'_1.mpr (by left),aaN z⟩)
def Kh{n:Nat}{rs:ai}(h:nu n rs=false):∃g k:Nat,g<n/\k<n/\aB rs g k=0:=by
 refine Classical.byContradiction λa=>beq_eq_false_iff_ne.mp h ?_;have:(List.range' 0 n).filter (Kc n rs)=[]:=List.filter_eq_nil_iff.mpr λg c z=>by
  obtain⟨k,b,z⟩:=List.any_eq_true.mp z;exact a ⟨g,k,by have:=List.mem_range'_1.mp c;left,by have:=List.mem_range'_1.mp b;left,aad z⟩
 rw[this];rfl
abbrev QI(n:Nat)(rs:ai)(r:Row)(ws xs:aS)(o l h:D)(d f e:Bool)(a b c:D):Prop:=a=(bif f then .lst .fz (a_ ws)else l)/\b=(bif d then .tup (ag r.2)else o)/\c=(bif e then .lst .fz (a_ xs)else h)
def uO(m:au):Prop:=(∀e i,xg (y8 e) i->m i=some (.error e))/\∀(w n:Nat) rs r ws xs o l h,AS n rs r ws xs o l h->w<4->∀(d g f:Bool) a b c,QI n rs r ws xs o l h d g f a b c ->
 (∃e s,Hc e=some s/\y8 e (yX w) (je w (aQ n rs) a b c)/\B0 w (decide (ka (mU rs)<kb (mU rs))) (uI n rs) (nu n rs) d g f=s)\/(B0 w (decide (ka (mU rs)<kb (mU rs))) (uI n rs) (nu n rs) d g f = "" /\ m [.int w,.tup [aQ n rs,a,b,c]]=ok .bP)
def lM(n:Nat)(rs:ai):Fz (aQ n rs):=⟨by simp[aQ],by simp[aQ],by simp[aQ,cO]⟩
def HJ(Φ:aT)(K:K28 Φ):uO (mk Φ 2 6 m7):=by
 have P:∀(w:Nat),w<4->∀e k,y8 e (yX w) k->Φ (yX w) k=some (.error e):=λw hw e k h=>by
  match w,hw with
  |0,_=>exact K.XO e k h
  |1,_=>exact K.XN e k h
  |2,_=>exact K.XM e k h
  |3,_=>exact K.XJ e k h
 refine⟨λe k h=>jE (K_ Φ (λg k=>Φ g k=some (.error e)) e k ?_),λw n f r B A o l h Z hw t O z a b c Q=>?_⟩
 ·obtain⟨w,a,b,c,d,hw,S,m,rfl⟩:=h;exact⟨w,a,b,c,d,hw,S,P w hw e _ m,rfl⟩
 obtain⟨u,i,p⟩:=Q;have I:=Z.dr;have N:=Z.n5;have H:=xV I Z.fi;have R:r.2.length<=n:=qV.len (I.lot r Z.hr);have zz:r.2.length*r.2.length<=5*5:=abC (by left) (by left);have nn:n*n<=5*5:=abC N N;have fa:Fz a:=by rw[u];cases O;exact Z.fl;exact rS _
 have M:Fz b:=by rw[i];cases t;exact Z.fo;exact jB _
 have y:Fz c:=by rw[p];cases z;exact Z.fh;exact rS _
 have go:∀{x:D},Φ (yX w) (je w (aQ n f) a b c)=ok x->mk Φ 2 6 m7 [.int w,.tup [aQ n f,a,b,c]]=ok .bP:=λq=>Ri Φ hw (lM n f) fa M y q
 match w,hw with
 |0,hw =>
  cases v:decide (ka (mU f)<kb (mU f))with
  |true =>
   obtain⟨E,L,C,J,F⟩:=QX I v;exact .inl ⟨5,"size",rfl,.inr (.inl ⟨rfl,6,n,f,E,C,[c],I,L,J,F,rfl,rfl⟩),rfl⟩
  |false =>
   have s:=QY I Z.hr v;cases j:uI n f with
   |false=>exact .inl ⟨6,"pair",rfl,.inr (.inr (.inl ⟨rfl,6,n,_,f,c,I,Lm j,s,rfl⟩)),rfl⟩
   |true =>
    have m:=Ll I j;cases z with
    |false=>exact .inl ⟨4,"worths",rfl,.inr (.inr (.inr ⟨rfl,6,n,_,f,c,I,m,s,y,by rw[p];exact Z.ch,by rw[p];exact Z.nh,rfl⟩)),rfl⟩
    |true =>
     obtain⟨x,q⟩:=K.h67 6 n f .fz A 3 6 _ I s Z.gs.l2 Z.gs.s2 (by decide) H m (by left);exact .inr ⟨rfl,go (x:=x) (by rw[p];exact q)⟩
 |1,hw =>
  cases j:nu n f with
  |false=>exact .inl ⟨6,"pair",rfl,.inr (.inl ⟨rfl,6,n,f,a,b,c,I,Kh j,rfl⟩),rfl⟩
  |true =>
   have m:=Kg I j;have G:Lu n f:=⟨⟨6,I⟩,m⟩
   cases t with
   |false=>exact .inl ⟨7,"lot",rfl,.inr (.inr (.inl ⟨rfl,n,f,a,b,c,G,M,by rw[i];exact Z.co,by rw[i];exact Z.no,rfl⟩)),rfl⟩
   |true =>
    have i:b=.tup (ag r.2):=i;cases O with
    |false=>exact .inl ⟨3,"weights",rfl,.inr (.inr (.inr (.inl ⟨rfl,n,f,r,a,c,G,Z.hr,fa,by rw[u];exact Z.cl,by rw[u];exact Z.nl,by rw[i];rfl⟩))),rfl⟩
    |true =>
     have u:a=.lst .fz (a_ B):=u;cases z with
     |false=>exact .inl ⟨4,"worths",rfl,.inr (.inr (.inr (.inr ⟨rfl,n,f,r,B,c,G,Z.hr,Z.gs.l1,y,by rw[p];exact Z.ch,by rw[p];exact Z.nh,by rw[i,u];rfl⟩))),rfl⟩
     |true =>
      have q:=K.h68 6 n f r .fz .fz B A 3 6 I Z.hr Z.gs H m (by left);exact .inr ⟨rfl,go (by rw[u,i,p];exact q)⟩
 |2,hw =>
  cases v:decide (ka (mU f)<kb (mU f))with
  |true =>
   obtain⟨E,L,C,J,F⟩:=QX I v;exact .inl ⟨5,"size",rfl,.inr (.inl ⟨rfl,6,n,f,E,C,[b,c],I,L,J,F,rfl,rfl⟩),rfl⟩
  |false =>
   have s:=QY I Z.hr v;cases j:nu n f with
   |false=>exact .inl ⟨6,"pair",rfl,.inr (.inr (.inl ⟨rfl,6,n,_,f,b,c,I,Kh j,s,rfl⟩)),rfl⟩
   |true =>
    have m:=Kg I j;have G:Lu n f:=⟨⟨6,I⟩,m⟩
    cases t with
    |false=>exact .inl ⟨7,"lot",rfl,.inr (.inr (.inr (.inl ⟨rfl,n,_,f,b,c,G,s,M,by rw[i];exact Z.co,by rw[i];exact Z.no,rfl⟩))),rfl⟩
    |true =>
     have i:b=.tup (ag r.2):=i;cases z with
     |false=>exact .inl ⟨4,"worths",rfl,.inr (.inr (.inr (.inr ⟨rfl,n,_,f,r,c,G,s,Z.hr,y,by rw[p];exact Z.ch,by rw[p];exact Z.nh,by rw[i];rfl⟩))),rfl⟩
     |true =>
      have q:=K.h69 6 n f r .fz A 3 6 _ I Z.hr s Z.gs.l2 Z.gs.s2 (by decide) H m (by left);exact .inr ⟨rfl,go (by rw[i,p];exact q)⟩
 |3,hw =>
  cases j:uI n f with
  |false=>exact .inl ⟨6,"pair",rfl,.inr ⟨rfl,6,n,f,I,Lm j,rfl⟩,rfl⟩
  |true =>
   have q:=K.h71 6 n f I (Ll I j);exact .inr ⟨rfl,go q⟩
def uL(m:au):Prop:=∀(w n:Nat) rs r ws xs o l h,AS n rs r ws xs o l h->w<4->m [.int w,.tup [aQ n [],l,o,h]]=ok (.str "drawing") /\
 ∀(d f e:Bool) a b c,QI n rs r ws xs o l h d f e a b c->m [.int w,.tup [aQ n rs,a,b,c]]=ok (.str (B0 w (decide (ka (mU rs)<kb (mU rs))) (uI n rs) (nu n rs) d f e))
variable {w:Nat}
open Classical in
def zu(h:uO (Φ 227)){e:Nat}{s:Str}{a b c d:D}(hw:w<4)(fa:Fz a)(i:Fz b)(g:Fz c)(f:Fz d)(hs:Hc e=some s)(j:y8 e (yX w) (je w a b c d)):vA Φ [.int w,.tup [a,b,c,d]]=ok (.str s):=by
 have x:xg (y8 e) [.int w,.tup [a,b,c,d]]:=⟨w,a,b,c,d,hw,⟨fa,i,g,f⟩,j,rfl⟩
 unfold vA;rw[cc ⟨rfl,by simp[fa.fz,i.fz,g.fz,f.fz],by simp[fa.al,i.al,g.al,f.al]⟩,h.1 e _ x];show(match Hc e with|some s=>if xg (y8 e) [.int w,.tup [a,b,c,d]]then ok (D.str s)else none|none=>none)=_;rw[hs];exact aa4 x
def Mi(Φ:aT)(h:uO (Φ 227)):uL (vA Φ):=by
 intro w n f r x v o l k Z hw;have i:=Z.dr.n1;have g:=Z.dr.n2;refine⟨zu h (e:=1) hw (lM n []) Z.fl Z.fo Z.fh rfl ?_,λd u t a b c j=>?_⟩
 ·match w,hw with
  |0,_=>exact .inl ⟨rfl,n,[k],i,g,rfl,rfl⟩
  |1,_=>exact .inl ⟨rfl,n,[l,o,k],i,g,rfl,rfl⟩
  |2,_=>exact .inl ⟨rfl,n,[o,k],i,g,rfl,rfl⟩
  |3,_=>exact .inl ⟨rfl,n,[],i,g,rfl,rfl⟩
 ·have fa:Fz a:=by rw[j.1];cases u;exact Z.fl;exact rS _
  have p:Fz b:=by rw[j.2.1];cases d;exact Z.fo;exact jB _
  have m:Fz c:=by rw[j.2.2];cases t;exact Z.fh;exact rS _
  rcases h.2 w n f r x v o l k Z hw d u t a b c j with ⟨e,s,y,z,q⟩|⟨q,e⟩
  ·rw[q];exact zu h hw (lM n f) fa p m y z
  ·rw[q];unfold vA;rw[cc ⟨rfl,by simp[fa.fz,p.fz,m.fz,(lM n f).fz],by simp[fa.al,p.al,m.al,(lM n f).al]⟩,e];rfl
def FJ{y:D}{n:Nat}{rs:ai}(h:aE aI y=aQ n rs):∃f,y=Av f n rs:=by
 cases y with
 |tup e =>
  obtain h:aw aI e=[.int n,.lst .fz (bL rs)]:=D.tup.inj h;obtain⟨a,b,rfl⟩:∃a b,e=[a,b]:=by
   have hl:=aaI List.length h;rw[aG,b4]at hl
   match e,hl with
   |[a,b],_=>exact⟨a,b,rfl⟩
  ·obtain⟨d,c⟩:=aa_ h;obtain⟨c,_⟩:=aa_ c;have d:a=.int n:=by cases a<;>first | (cases d;rfl)|cases d
   cases b with
   |lst f i =>
    have g:=nX (D.lst.inj c).2 (by simp);exact⟨f,by rw[d,g];rfl⟩
   |_=>cases c
 |_=>cases h
def Uv(f g:Fl)(n:Nat)(rs:ai):cY .eq (Av f n rs) (Av g n rs)=ok (.bl true):=by
 have b:∀a,eJ 40 (Av a n rs)=true:=λa=>by
  unfold Av;rw[nU];simp only[gc,List.all_nil,fZ,Bool.true_and,ky];rw[Ik];exact lB (RK 36) rs
 rw[kf (b f) (b g)];show ok (D.bl (((n:Int)==(n:Int))&&(ff (bL rs) (bL rs)&&true)))=_;rw[Jr];simp
noncomputable def Ji:ai:=[((1:Rat) / 3,[0,1]),((1:Rat) / 6,[0,2]),((1:Rat) / 2,[1,2])]
def K4:Dr 6 3 Ji/\xo Ji:=by
 have a:xo Ji:=⟨6,by decide,by decide,by decide +kernel⟩
 exact⟨⟨by decide,by decide,by decide,.inl (by decide),by decide,by unfold Ji qV;simp,by decide +kernel,by unfold Ji Sm;decide +kernel,by decide +kernel,by unfold Ji Gy;decide +kernel⟩,a⟩
noncomputable def Us:CE:=.tup [(.int 3),(.lst [(.tup [(.tup [(.int 1),(.int 3)]),(.tup [(.int 0),(.int 1)])]),(.tup [(.tup [(.int 1),(.int 6)]),(.tup [(.int 0),(.int 2)])]),(.tup [(.tup [(.int 1),(.int 2)]),(.tup [(.int 1),(.int 2)])])])]
def T1(Φ:aT)(ρ:aX):dG Φ Us ρ (aQ 3 Ji):=⟨_,rfl,by
 have q:∀{r:Rat} {a:Int} {b:Nat},r.num=a->r.den=b->qD r=.tup [.int a,.int b]:=λd c=>by unfold qD;rw[d,c]
 show D.tup [.int 3,.lst .fz [.tup [.tup [.int 1,.int (3:Nat)],.tup [.int 0,.int 1]],.tup [.tup [.int 1,.int (6:Nat)],.tup [.int 0,.int 2]],.tup [.tup [.int 1,.int (2:Nat)],.tup [.int 1,.int 2]]]]=.tup [.int 3,.lst .fz [.tup [qD _,_],.tup [qD _,_],.tup [qD _,_]]];rw[q (r:=(1:Rat) / 3) (a:=1) (b:=3) (by decide +kernel) (by decide +kernel),q (r:=(1:Rat) / 6) (a:=1) (b:=6) (by decide +kernel) (by decide +kernel),q (r:=(1:Rat) / 2) (a:=1) (b:=2) (by decide +kernel) (by decide +kernel)];rfl⟩
abbrev Qn(ns:ae)(z:Int)(n:Nat)(rs:ai)(r:Row)(ws xs:aS)(o l h:D):List (Nat×D):=[(10,aQ n rs),(9,h),(8,l),(7,o),(6,.tup (ag r.2)),(5,.lst .fz (a_ xs)),(4,.lst .fz (a_ ws)),(3,.int n),(1,aQ n rs),(2,.int z),(0,.lst .sc (ag ns))]
noncomputable def FF:CE:=.lst [(.cmp .eq (.bin .mod (.v 12) (.int 2)) (.int 1)),(.cmp .eq (.bin .mod (.bin .fdiv (.v 12) (.int 2)) (.int 2)) (.int 1)),(.cmp .eq (.bin .fdiv (.v 12) (.int 4)) (.int 1))]
noncomputable def ud(a b k:Nat):CE:=.ix (.lst [(.v a),(.v b)]) (.bf .tT [(.ix (.v 13) (.int k))])
def wB:CE:=.tup [(.v 10),ud 8 4 0,ud 7 6 1,ud 9 5 2]
noncomputable def O_:CE:=.cmp .ne (.call 235 [(.v 11),(.v 14)]) (.call 209 [(.v 11),(.v 1),(.ix (.v 13) (.int 1)),(.ix (.v 13) (.int 0)),(.ix (.v 13) (.int 2))])
def QU:af:=[.asg (.nm 13) FF,.asg (.nm 14) wB,.ifs O_ [.ret (.bl false)] []]
noncomputable def Pa:CE:=.cmp .ne (.call 235 [(.v 11),(.tup [(.tup [(.v 3),(.lst [])]),(.v 8),(.v 7),(.v 9)])]) (.str "drawing")
def t28:af:=[.ifs Pa [.ret (.bl false)] [],.fr (.nm 12) (.jr (.int 8)) QU]
def ne_str(s:Str):cY .ne (.str s) (.str s)=ok (.bl false):=by
 rw[UD rfl rfl];show ok (D.bl (!(s==s)))=_;rw[hY];rfl
def pick{a b k:Nat}{A B:D}{g:Bool}{d:aa}(h:At ρ a A)(f:At ρ b B)(c:At ρ 13 (.lst .fz d))(e:d[k]?=some (.bl g)):dG Φ (ud a b k) ρ (bif g then B else A) :=
 .KQ (bV.cons h.v (bV.cons f.v .nil)).lst (j:=bif g then 1 else 0) ((dG.tT (c.v.KQ (b:=.int (k:Int)) rfl e)).trans (by cases g<;>rfl)) (by cases g<;>rfl)
def Jf{c:Nat}(e:At ρ 12 (.int c)):∃a b d:Bool,dG Φ FF ρ (.lst .fz [.bl a,.bl b,.bl d]):=by
 have h:=(e.v (Φ:=Φ)).i;have q:∀z:Int,cY .eq (.int z) (.int 1)=ok (.bl (z==1)):=λz=>by rw[kf rfl rfl];rfl
 exact⟨_,_,_,(bV.cons (.of (gx (gz h rfl (qb (by decide))) rfl (q _))) (bV.cons (.of (gx (gz (gz h rfl (jJ (by decide) (by decide))) rfl (qb (by decide))) rfl (q _))) (bV.cons (.of (gx (gz h rfl (jJ (by decide) (by decide))) rfl (q _))) .nil))).lst⟩
section
variable {Φ:aT}(yC:oz (Φ 209))(wa:uL (Φ 235)){ns:ae}{z:Int}{n:Nat}{rs:ai}{r:Row}{ws xs:aS}{o l h:D}(Z:AS n rs r ws xs o l h)
include yC wa Z
def Hh{c:Nat}(hw:w<4)(A:qW 15 ((12,.int c)::(11,.int w)::Qn ns z n rs r ws xs o l h) ρ):Go Φ QU ρ (qW 15 ((11,.int w)::Qn ns z n rs r ws xs o l h)):=by
 obtain⟨f,d,a,q⟩:=Jf (Φ:=Φ) A.2.1;refine .jK A q λk A=>?_;refine .jK (e:=wB) A (bV.cons A.2.2.2.2.1.v (bV.cons (pick A.2.2.2.2.2.2.1 A.2.2.2.2.2.2.2.2.2.2.1 A.2.1 (g:=f) rfl) (bV.cons (pick A.2.2.2.2.2.2.2.1 A.2.2.2.2.2.2.2.2.1 A.2.1 (g:=d) rfl) (bV.cons (pick A.2.2.2.2.2.1 A.2.2.2.2.2.2.2.2.2.1 A.2.1 (g:=a) rfl) .nil)))).tup λi A=>?_;have p:=(bV.cons A.2.2.2.2.1.v (bV.cons A.2.1.v .nil)).call ((wa w n rs r ws xs o l h Z hw).2 d f a _ _ _ ⟨rfl,rfl,rfl⟩);have b:=A.2.2.1.v (Φ:=Φ);have m:=(bV.cons A.2.2.2.2.1.v (bV.cons A.2.2.2.2.2.2.2.2.2.2.2.2.2.1.v (bV.cons (b.KQ (b:=.int 1) (j:=1) rfl rfl) (bV.cons (b.KQ (b:=.int 0) (j:=0) rfl rfl) (bV.cons (b.KQ (b:=.int 2) (j:=2) rfl rfl) .nil))))).call (yC w n rs d f a Z.dr);exact .X6 (gx p.s m.s (ne_str _)) (.nil ⟨A.1,A.2.2.2.2⟩)
def LR(hw:w<4)(A:qW 15 ((11,.int w)::Qn ns z n rs r ws xs o l h) ρ):Go Φ t28 ρ (qW 15 (Qn ns z n rs r ws xs o l h)):=by
 have a:=(bV.cons A.2.1.v (bV.cons (bV.cons (bV.cons A.2.2.2.2.2.2.2.2.2.1.v (bV.cons (bV.nil (Φ:=Φ) (ρ:=ρ)).lst .nil)).tup (bV.cons A.2.2.2.2.1.v (bV.cons A.2.2.2.2.2.1.v (bV.cons A.2.2.2.1.v .nil)))).tup .nil)).call (wa w n rs r ws xs o l h Z hw).1;exact .X6 (gx a.s rfl (ne_str _)) (.jr (n:=8) (by decide) (P:=qW 15 ((11,.int w)::Qn ns z n rs r ws xs o l h)) A (λc _ ρ A=>⟨_,(A.set (d:=.int c) rfl).1,Hh yC wa Z hw (A.set rfl).2⟩) λ_ A=>.nil ⟨A.1,A.2.2⟩)
end
noncomputable def Ib:af:=[.asg (.nm 1) (.call 212 [(.v 0),(.int 0),(.int 5)]),.asg (.nm 2) (.call 200 [(.v 0),(.int 7)])]
def Pb:CS:=.ifs (.cmp .eq (.bin .mod (.v 2) (.int 2)) (.int 1)) [.asg (.nm 1) Us] []
noncomputable def Ap:CE:=.ix (.ix (.ix (.v 1) (.int 1)) (.bin .mod (.bin .fdiv (.v 2) (.int 2)) (.bf .len [(.ix (.v 1) (.int 1))]))) (.int 1)
def MH:af:=[.asg (.nm 3) (.ix (.v 1) (.int 0)),.asg (.nm 4) (.call 230 [(.call 200 [(.v 0),(.int 8)]),(.v 3)]),.asg (.nm 5) (.call 230 [(.call 200 [(.v 0),(.int 9)]),(.v 3)]),.asg (.nm 6) Ap,.asg (.nm 7) FE,.asg (.nm 8) (.call 236 [(.v 4),(.bin .fdiv (.v 2) (.int 512))]),.asg (.nm 9) (.call 236 [(.v 5),(.bin .fdiv (.v 2) (.int 5632))]),.asg (.nm 10) (.call 215 [(.v 1)]),.fr (.nm 11) (.jr (.int 4)) t28]
def oo:af:=Ib++(Pb::(MH++[.ret (.cmp .eq (.v 10) (.v 1))]))
def Oc{ss d:af}{P Q:aX->Prop}(h:Go Φ ss ρ P)(k:∀a,P a->Go Φ d a Q):Go Φ (ss++d) ρ Q:=by
 obtain⟨c,i,g⟩:=h;obtain⟨b,f,e⟩:=k c g;exact⟨b,by rw[kX Φ _ _ _ _ i];exact f,e⟩
section
variable (Φ:aT)(ns:ae)(mA:ql (Φ 200))
include mA
def AE(k:Nat)(a:At ρ 0 (.lst .sc (ag ns))):dG Φ (.call 200 [(.v 0),(.int k)]) ρ (.int (bG ns k)) :=
 (bV.cons a.v (bV.cons (.of (e:=.int (k:Int)) rfl) .nil)).call (mA ns k (by left))
def NR(q:mP (Φ 212))(A:qW 15 [(0,.lst .sc (ag ns))] ρ):∃n a z,n<=5/\Dr 6 n a/\xo a/\Go Φ (Ib++[Pb]) ρ (qW 15 [(1,aQ n a),(2,.int z),(0,.lst .sc (ag ns))]):=by
 obtain⟨n,a,m,I,r,p⟩:=q ns 0 5 (by decide) (by decide) (by decide);have f:∀d Q,(∀ρ,qW 15 [(2,.int (bG ns 7)),(1,aQ n a),(0,.lst .sc (ag ns))] ρ->Go Φ d ρ Q)->Go Φ (Ib++d) ρ Q:=λd Q k=>by
  refine .jK (Y:=aQ n a) A (show dG _ _ _ _ from by
   have:=(bV.cons A.2.1.v (bV.cons (.of (e:=.int 0) rfl) (bV.cons (.of (e:=.int 5) rfl) .nil))).call p
   rwa [show aE aI (.tup [.int n,.lst .ow (bL a)])=aQ n a by simp[aQ,aI]]at this) λb A=>.jK A (AE Φ ns mA 7 A.2.2.1) k
 have j:∀{ρ:aX},At ρ 2 (.int (bG ns 7))->bo Φ (.cmp .eq (.bin .mod (.v 2) (.int 2)) (.int 1)) ρ=ok (.bl ((bG ns 7).fmod 2==1)):=λh=>gx (gz h.v.i rfl (qb (by decide))) rfl (by rw[kf rfl rfl];rfl);cases g:(bG ns 7).fmod 2==1 with
 |false=>exact⟨n,a,_,m,I,r,f _ _ λc A=>.X6 (by rw[j A.2.1,g]) (.nil ⟨A.1,A.2.2.1,A.2.1,A.2.2.2⟩)⟩
 |true =>
  refine⟨3,Ji,bG ns 7,by decide,K4.1,K4.2,f _ _ λc A=>?_⟩;obtain⟨b,o,s⟩:=Go.jK (ss:=[]) (Q:=qW 15 [(1,aQ 3 Ji),(2,.int (bG ns 7)),(0,.lst .sc (ag ns))]) (l:=[(2,.int (bG ns 7)),(0,.lst .sc (ag ns))]) ⟨A.1,A.2.1,A.2.2.2⟩ (T1 Φ c) λ_ A=>.nil A;exact⟨b,by show mT Φ [] (ib Φ (.ifs _ _ _) _)=_;rw[sA,j A.2.1,g];exact aaI (mT Φ []) o,s⟩
def Mr(N:oz (Φ 209))(N6:mM (Φ 215))(y:uM (Φ 230))(Q:uL (Φ 235))(B:Gw (Φ 236))(O:Φ 1086=xR){n:Nat}{rs:ai}{z:Int}(V:n<=5)(I:Dr 6 n rs)(Fi:xo rs)(A:qW 15 [(1,aQ n rs),(2,.int z),(0,.lst .sc (ag ns))] ρ):Go Φ MH ρ (λρ=>At ρ 10 (aQ n rs)/\At ρ 1 (aQ n rs)):=by
 have n1:=I.n1;obtain⟨f,w1,w2,w3⟩:=y (bG ns 8) n I.n2;obtain⟨c,x1,x2,x3⟩:=y (bG ns 9) n I.n2;have g:∀qs:aS,aE aI (.lst .ow (a_ qs))=.lst .fz (a_ qs):=λqs=>by simp[aI]
 have p:∀{ρ:aX} {k:Nat} {qs:aS},At ρ 0 (.lst .sc (ag ns))->At ρ 3 (.int n)->Φ 230 [.int (bG ns k),.int n]=ok (.lst .ow (a_ qs))->dG Φ (.call 230 [(.call 200 [(.v 0),(.int k)]),(.v 3)]) ρ (.lst .fz (a_ qs)):=λh0 h3 e=>g _▸(bV.cons (AE Φ ns mA _ h0) (bV.cons h3.v .nil)).call e;refine .jK A (dG.VC A.2.1.v (b:=.int 0) (j:=0) rfl rfl) λL A=>?_;refine .jK A (p (k:=8) A.2.2.2.2.1 A.2.1 w1) λK A=>?_;refine .jK A (p (k:=9) A.2.2.2.2.2.1 A.2.2.1 x1) λa A=>?_;have t:0<rs.length:=I.some;obtain⟨g3,g4⟩:=fC (z.fdiv 2) (b:=(rs.length:Int)) (by left);obtain⟨j,X⟩:∃j:Nat,(z.fdiv 2).fmod rs.length=(j:Int):=⟨((z.fdiv 2).fmod rs.length).toNat,by left⟩
 have C:j<rs.length:=by left
 have s:rs[j]∈rs:=aba C;have ej:(bL rs)[j]?=some (.tup [qD rs[j].1,.tup (ag rs[j].2)]):=by
  unfold bL;rw[List.getElem?_map,List.getElem?_eq_getElem C];rfl
 have u:dG Φ (.ix (.v 1) (.int 1)) a (.lst .fz (bL rs)):=dG.VC (A.2.2.2.2.1.v) (b:=.int 1) (j:=1) rfl rfl;have x:=u.len;rw[show(bL rs).length=rs.length by unfold bL;rw[b4]]at x;have e6:dG Φ Ap a (.tup (ag rs[j].2)):=(u.KQ (j:=j) (gz (gz A.2.2.2.2.2.1.v.i rfl (jJ (by decide) (by decide))) x (by rw[qb (by left),X])) ej).VC (b:=.int 1) (j:=1) rfl rfl;generalize W:rs[j]=r at *;refine .jK A e6 λJ A=>?_;have hlen:r.2.length<=12:=by have:=qV.len (I.lot r s);left
 obtain⟨o,e7,co,S⟩:=Jk Φ O hlen A.2.1 A.2.2.2.2.1 A.2.2.2.2.2.2.1;refine .jK A e7 λH A=>?_;have m:∀{ρ:aX} {i:Nat} {q:Int} {qs:aS} {d:D},q≠0->q.natAbs<2 ^ 64->At ρ i (.lst .fz (a_ qs))->At ρ 2 (.int z)->Φ 236 [.lst .fz (a_ qs),.int (z.fdiv q)]=ok d->dG Φ (.call 236 [(.v i),(.bin .fdiv (.v 2) (.int q))]) ρ (aE aI d):=λq0 R h1 h2 e=>(bV.cons h1.v (bV.cons (.of (gz h2.v.i rfl (jJ q0 R))) .nil)).call e;obtain⟨l,e8,cl,T⟩:=B f (z.fdiv 512) (by left) (by left);refine .jK A (m (by decide) (by decide) A.2.2.2.2.1 A.2.2.2.2.2.2.2.1 e8) λG A=>?_;obtain⟨h,e9,ch,U⟩:=B c (z.fdiv 5632) (by left) (by left);refine .jK A (m (by decide) (by decide) A.2.2.2.2.1 A.2.2.2.2.2.2.2.2.1 e9) λF A=>?_;refine .jK (Y:=aQ n rs) A (show dG _ _ _ _ from by
  have:=(bV.cons A.2.2.2.2.2.2.2.2.1.v .nil).call (N6 n rs)
  rwa [show aE aI (.tup [.int n,.lst .ow (bL rs)])=aQ n rs by simp[aQ,aI]]at this) λE A=>?_
 have Z:AS n rs r f c o (aE aI l) (aE aI h):=⟨I,Fi,V,s,⟨w2,x2,w3,x3,by decide⟩,A.2.2.2.2.1.fz,co,S,Fs l,cl,by rw[<- w2];exact T,Fs h,ch,by rw[<- x2];exact U⟩
 exact .jr (n:=4) (by decide) (P:=qW 15 (Qn ns z n rs r f c o (aE aI l) (aE aI h))) A (λw hw ρ A=>⟨_,(A.set (d:=.int w) rfl).1,LR N Q Z hw (A.set rfl).2⟩) λM A=>.nil ⟨A.2.1,A.2.2.2.2.2.2.2.2.2.1⟩
end
def R9(Φ:aT)(c:ql (Φ 200))(d:oz (Φ 209))(s:mP (Φ 212))(t:mM (Φ 215))(u:uM (Φ 230))(i:uL (Φ 235))(B:Gw (Φ 236))(h:Φ 1086=xR)(ns:ae):mk Φ 1 15 oo [.lst .sc (ag ns)]=ok (.bl true):=by
 rw[mk_eq (show[D.lst .sc (ag ns)].length=1 from rfl)];obtain⟨n,b,z,o,I,C,q⟩:=NR Φ ns c s (ρ:=[D.lst .sc (ag ns)].map some++List.replicate (15 - [D.lst .sc (ag ns)].length) none) ⟨rfl,⟨.lst .sc (ag ns),rfl,by simp[aI]⟩,trivial⟩;obtain⟨a,e,⟨y,m,l⟩,⟨E,k,j⟩⟩:=Oc q λa A=>Mr Φ ns c d t u i B h o I C A;have p:oo=((Ib++[Pb])++MH)++[.ret (.cmp .eq (.v 10) (.v 1))]:=rfl;rw[p,kX Φ _ _ _ _ e];have r:bo Φ (.cmp .eq (.v 10) (.v 1)) a=ok (.bl true):=by
  obtain⟨f,rfl⟩:=FJ l;obtain⟨g,rfl⟩:=FJ j;exact gx (x:=Av (bg f) n b) (y:=Av (bg g) n b) (by rw[Zw,m,<- zP];rfl) (by rw[Zw,k,<- zP];rfl) (Uv _ _ n b)
 rw[cp,Kd,Co Φ (.cmp .eq (.v 10) (.v 1)) _ rfl,r,jy rfl];rfl
end DI
end
section
namespace DI
open PySem PySem.Spec PyProof.Rows L2
def Gd(_:Scope)(_:aq)(e:Expr):Option (ao):=se "count" e
def F7(_:Scope)(_:aq)(e:Expr):Option (ao):=se "index" e
variable {F:Addr->Prop}{X:Cx}{args:ao}{cs:aA}{Φ:aT}
def ZK{n:Nat}(a:Φ n=Az){sc:Scope}{bl:aq}{k:Nat}(L:PX X sc bl k){e:Expr}(he:Gd sc bl e=some args)(hs:qT X F Φ cs args):PE X e (tD X F Φ (.cL n cs))/\PT X e (jh X F Φ (.cL n cs)):=JS a he hs
def X3{n:Nat}(a:Φ n=zX){sc:Scope}{bl:aq}{k:Nat}(L:PX X sc bl k){e:Expr}(he:F7 sc bl e=some args)(hs:qT X F Φ cs args):PE X e (tD X F Φ (.cL n cs))/\PT X e (jh X F Φ (.cL n cs)):=IQ a he hs
noncomputable def UE:CE:=.cmp .ne (.cL 1094 [(.v 4),(.bl true)]) (.int 1)
noncomputable def UG:CE:=.ix (.lst [(.str "drawing"),(.str "weights"),(.str "worths"),(.str "pair"),(.str "size"),(.str "lot"),(.str "guess"),(.str "shares"),(.str "many")]) (.cL 1095 [(.v 4),(.bl true)])
def qY{n:Nat}{s:Str}(h:Hc n=some s):(n=1/\s = "drawing")\/(n=3/\s = "weights")\/(n=4/\s = "worths")\/(n=5/\s = "size")\/(n=6/\s = "pair")\/(n=7/\s = "lot"):=by
 unfold Hc at h;split at h
 ·cases h;exact .inl ⟨rfl,rfl⟩
 ·cases h;exact .inr (.inl ⟨rfl,rfl⟩)
 ·cases h;exact .inr (.inr (.inl ⟨rfl,rfl⟩))
 ·cases h;exact .inr (.inr (.inr (.inl ⟨rfl,rfl⟩)))
 ·cases h;exact .inr (.inr (.inr (.inr (.inl ⟨rfl,rfl⟩))))
 ·cases h;exact .inr (.inr (.inr (.inr (.inr ⟨rfl,rfl⟩))))
 ·cases h
def Qx{e:Nat}{ds:aa}(h:xg (y8 e) ds):xg (xn e) ds:=by
 obtain⟨w,a,b,c,d,hw,g,f,rfl⟩:=h;refine⟨w,a,b,c,d,hw,g,?_,rfl⟩
 match w,hw with
 |0,_=>exact f
 |1,_=>exact f
 |2,_=>exact f
 |3,_=>exact f
def en8{P:aK}{w:World}{K:ak}{h base:Heap}{mg:aY}{bl:aq}{cs:List (Str×GK)}{px:Px}{PT:aT}(X:K.In h)(G:h.Ns mainGlobals mg)(C:∀F i m,qo px (xm PT F i m)/\GA px (xm PT F i m))(A:bB (λy=>mg y=none) bl)(B:bB (λp:Str×GK=>∃u,mg p.1=some u/\y_ K p.2 u) cs){cl:aP}{q:Nat->Str}{ca:Nat->Addr}(O:∀n∈cl,qU (q n) (ca n) mg base)(f:Nat->Nat->aa->Prop)
  ⦃x:Str⦄ ⦃j:Stmt⦄ (k:Nat) (Φ:aT) (d:Df K x j) (N:aq) (a:Nat) (tb:List (Nat×Str)) (b:af) (g:Nat)
  (hf:bB (λp:Nat×Str=>Ent P w K mg base k p.2 (Φ p.1)) tb) (L:∀n,n∈cl->bB (λp:Nat×Str=>(∃c,f n p.1 c)->jg P w K mg base k (ca n) p.2 (f n p.1)) tb) (J:∀n c,f n g c->c.length=a/\Er Φ (f n) n b (c.map some++List.replicate (N.length - c.length) none)) (D:Qi j N (N.take a) tb bl cs px b=true:=by decide +kernel) (H:(cl.all λn=>Cg (iD (aO j) (q n)&&!(q n==("__debug__" : Str))) n (q n) b (bM j))=true:=by decide +kernel) (e:∃F i m,Φ=xm PT F i m:=by exact⟨_,_,_,rfl⟩) (t:(N.take a).length=a:=by rfl) (E:∀(kV l r:Value) (z:Option Addr) (v ct:Value) (o:az),o.length=a->bindArgs (PySem.W.fnOf x x (eM j) (bM j) (aO j) .none kV l r z v ct) ⟨o,[]⟩=pure ((N.take a).zip o):=by first|exact λ_ _ _ _ _ _=>u1 λ_=>rfl|exact λ_ _ _ _ _ _=>u2 λ_ _=>rfl|exact λ_ _ _ _ _ _=>u3 λ_ _ _=>rfl|exact λ_ _ _ _ _ _=>u4 λ_ _ _ _=>rfl):Ent P w K mg base (k+1) x (mk Φ a N.length b)/\∀n,n∈cl->jg P w K mg base (k+1) (ca n) x (f n g):=by
 refine⟨en7 X G C A B k Φ d N a tb b hf D e t E,λn s=>?_⟩;obtain⟨F,i,m,e⟩:=e;exact enX X G (O n s) n k Φ (f n) (f n g) d D (List.all_eq_true.mp H n s) (e▸C F i m) A B hf (L n s) (λc h=>by rw[t];exact J n c h) (λkV l r z v ct o I=>E kV l r z v ct o (I.trans t))
structure xE(K:ak)(B C:Addr)(ls:List ((Str×Addr)×Bool)):Prop where
 v:bB (λp:(Str×Addr)×Bool=>PySem.W.kitOne K (.ref C) (.ref p.1.2)=some p.2) ls
 vv:PySem.W.kitOne K (.ref C) (.type "ValueError")=some true
 xx:PySem.W.excIn K C LI "ValueError.__new__" = true
 mb:PySem.W.mroIn K C (.ref B)=some true
 nb:C≠B
 w1:PySem.W.findIn K (.ref C) "__getattribute__" = some (some (.builtin "BaseException.__getattribute__"))
 w2:PySem.W.findIn K (.ref C) "__getattr__" = some none
 w3:PySem.W.findIn K (.ref C) "__class__" = some (some (.builtin "object.__class__"))
 w4:PySem.W.mroIn K C (.type "BaseException")=some true
 w5:PySem.W.mroIn K C (.type "object")=some true
theorem xE.hl{K:ak}{C:Addr}:∀{ns:List (Str×Addr)} {bs:List Bool},bB (λp:Str×Addr=>PySem.W.nsIn K mainGlobals p.1=some (some (.ref p.2))) ns->bB (λp:(Str×Addr)×Bool=>PySem.W.kitOne K (.ref C) (.ref p.1.2)=some p.2) (ns.zip bs)->bB (λp:Str×Bool=>∃g,PySem.W.nsIn K mainGlobals p.1=some (some (.ref g))/\PySem.W.kitOne K (.ref C) (.ref g)=some p.2) ((ns.zip bs).map λp=>(p.1.1,p.2))
 |[],_,_,_=>trivial
 |_::_,[],_,_=>trivial
 |_::_,_::_,e,h=>⟨⟨_,e.1,h.1⟩,xE.hl e.2 h.2⟩
def xE.xc{K:ak}{B C:Addr}{ls:List ((Str×Addr)×Bool)}(c:xE K B C ls):XC K C:=⟨c.w1,c.w2,c.w3,c.w4,c.w5,by
 have w5:=c.w5;unfold PySem.W.mroIn at w5;cases q:PySem.W.clsIn K C with
 |none=>rw[q]at w5;cases w5
 |some _=>rfl⟩
noncomputable def Uy:Nat->Str
 |1=>"NoDrawing"
 |3=>"NoWeights"
 |4=>"NoWorths"
 |5=>"NoSize"
 |6=>"NoPair"
 |_=>"NoLot"
noncomputable def JV:aP:=[1,3,4,5,6,7]
def LF{n:Nat}{s:Str}(h:Hc n=some s):n∈JV:=by
 rcases qY h with ⟨rfl,_⟩|⟨rfl,_⟩|⟨rfl,_⟩|⟨rfl,_⟩|⟨rfl,_⟩|⟨rfl,_⟩<;>decide
section
variable (Φ:aT)(n:Nat)(ds:aa)
def m17(a:∀n:Nat,1<=n->n<=12->Φ 16 [aQ n []]=ok (.bl false))(h:xn n 17 ds):ds.length=1/\Er Φ (xn n) n b9 (ds.map some++List.replicate (1 - ds.length) none):=by
 obtain⟨rfl,h⟩:=h;exact Um Φ _ a ds h
def m21(h:xn n 21 ds):ds.length=1/\Er Φ (xn n) n fj (ds.map some++List.replicate (4 - ds.length) none):=by
 obtain⟨rfl,h⟩:=h;exact Ul Φ _ 1 (λ_ h=>⟨rfl,h⟩) ds h
def mCk{c:Nat}(a:jb (Φ 40))(h:n=c/\Ca cH ds):ds.length=2/\Er Φ (xn n) n (gf 40 c) (ds.map some++List.replicate (2 - ds.length) none):=by
 obtain⟨rfl,h⟩:=h;exact T8 mK (λ_ _ h=>iw h) a h
def m55(e:Φ 1042=vO)(h:xn n 55 ds):ds.length=1/\Er Φ (xn n) n iR (ds.map some++List.replicate (1 - ds.length) none):=by
 obtain⟨rfl,h⟩:=h;exact Uk Φ _ e ds h
def m56(e:Φ 1003=g_)(h:xn n 56 ds):ds.length=1/\Er Φ (xn n) n kK (ds.map some++List.replicate (3 - ds.length) none):=by
 obtain⟨rfl,h⟩:=h;exact Uj Φ _ e ds h
def m57(h:xn n 57 ds):ds.length=1/\Er Φ (xn n) n iT (ds.map some++List.replicate (3 - ds.length) none):=by
 obtain⟨rfl,h⟩:=h;exact Ui Φ _ ds h
def m58(a:iz (Φ 11))(h:xn n 58 ds):ds.length=2/\Er Φ (xn n) n kL (ds.map some++List.replicate (2 - ds.length) none):=by
 obtain⟨rfl,h⟩:=h;exact Uh Φ _ a ds h
end
end DI
end
namespace PySem.W.Fast
def tw9777700158592667911:=0
def tw2132539830760867948:=0
def tw3048253557535012101:=0
def tw107596034658116676:=0
def tw15623095077222898449:=0
def tw18230537251145380591:=0
def tw4269384243954654214:=0
def tw3140409669965923109:=0
def tw1978479940989730078:=0
def tw15871572117130611239:=0
def tw4311027645287442939:=0
def tw12022850377472186182:=0
def tw13024848360750556314:=0
def tw15772479643394192652:=0
def tw7474137482417057807:=0
def tw8758576722574369548:=0
def tw11471865687399351199:=0
def tw8585414710660827670:=0
def tw12356676337545599458:=0
def tw17047231907421311468:=0
def tw1899230506038354834:=0
def tw18015565945589576989:=0
def tw9705700856514648064:=0
def tw13107217581757693865:=0
def tw769221431368346980:=0
def tw13217473461330269848:=0
def tw16624958836131532580:=0
def tw11696347561041767758:=0
def tw12075965307078799587:=0
def tw1258921977279331828:=0
def tw12754871227899831564:=0
def tw9961224514322210551:=0
def tw4730309196963090316:=0
def tw7611784402079589138:=0
def tw11136924414560130161:=0
def tw11568669604507493479:=0
def tw11542698000745091504:=0
def tw11730568508488146062:=0
def tw14517583158558927853:=0
def tw5539477551336567567:=0
def tw7216088850459495268:=0
def tw220117793519522598:=0
def tw2187716784775931358:=0
def tw17500655010504904362:=0
def tw3501977437807539743:=0
def tw9981010448370013868:=0
def tw17330543225290378915:=0
def tw10385754880109210168:=0
def tw4566478469713770149:=0
def tw1608777607810716397:=0
def tw8808963964955871336:=0
def tw13446684508114284937:=0
def tw10912658202956637509:=0
def tw1755853654527734023:=0
def tw10653186473449426733:=0
def tw6266498902743510472:=0
def tw8327599062106587950:=0
def tw18017289389071872761:=0
def tw17584284966524329651:=0
def tw8460291096108263782:=0
def tw13265213902473613620:=0
def tw11145400862703103237:=0
def tw5249766634981737174:=0
def tw14161514786329540910:=0
def tw15693136994517431920:=0
def tw14410716827596251192:=0
def tw13266718625330315662:=0
def tw12988559574255765320:=0
def tw13327941368010479763:=0
def tw3662157242707096720:=0
def tw9284740829563136199:=0
def tw1266465056333731929:=0
def tw5558785248728128279:=0
def tw10482438690497435913:=0
def tw2660613129004618668:=0
def tw4468433950498449003:=0
def tw6040534333533064658:=0
def tw6448290538658536352:=0
def tw15535179602063316019:=0
def tw910206690716211205:=0
def tw13651489858214767864:=0
def tw13652902604174759405:=0
def tw11959944468476117465:=0
def tw2411490572713978418:=0
def tw4820165801678414497:=0
def tw3123434809223578071:=0
def tw11162993338028244395:=0
def tw10126700262199761354:=0
def tw14918713218010691530:=0
def tw15716354008650510836:=0
def tw270517818006356345:=0
def tw965519609106056223:=0
def tw14271309745694885632:=0
def tw12000329664435392198:=0
def tw5117575118686372679:=0
def tw5274676139170582586:=0
def tw15689564610184029438:=0
def tw7242508031308726406:=0
def tw17044392408982944929:=0
def tw4270225117655857169:=0
def tw630003415663980559:=0
def tw5458807770828742473:=0
def tw8312035228952508213:=0
def tw17808294741603921501:=0
def tw4035038011582672164:=0
def tw10257106401530858824:=0
def tw5887609303630520299:=0
def tw1743447549134477681:=0
def tw7410607454033558324:=0
def tw17277838424423956093:=0
def tw6199636689696897914:=0
def tw7212396818506434637:=0
def tw7444010626864737536:=0
def tw2150698668089288205:=0
def tw9531593941902911341:=0
def tw11193832967384617445:=0
def tw3995841895806179484:=0
def tw12529223744212109746:=0
def tw894867396313262627:=0
def tw7348041632847790377:=0
def tw16096960961984324198:=0
def tw10148527828750262171:=0
def tw4283792023328814375:=0
def tw11439656727312401267:=0
def tw8717066612720306032:=0
def tw9161392735785272856:=0
def tw4331541733386768280:=0
def tw18362066846914075254:=0
def tw434530119725226904:=0
def tw14599295223981336307:=0
def tw1842127400610592106:=0
def tw10808089054591274883:=0
def tw10654924507946194897:=0
def tw13049392500836581600:=0
def tw10315489433990905984:=0
def tw17132999383333927561:=0
def tw6927511545932906976:=0
def tw8986348684101036546:=0
def tw8436239808264640584:=0
def tw17515752655878992975:=0
def tw7692070662907776746:=0
def tw3570868602860047743:=0
def tw1996948564629313297:=0
def tw4428011226274188032:=0
def tw4559438865763885186:=0
def tw1971465639375075015:=0
def tw6902177919166142225:=0
def tw11533044721200656851:=0
def tw11248824718362638791:=0
def tw9704825115862882513:=0
def tw11168743659950960183:=0
def tw2851019086075211312:=0
def tw11064676862092706716:=0
def tw14329972118408116684:=0
def tw7101896872683155674:=0
def tw14312634275486250845:=0
def tw12253784858350343521:=0
def tw541589729002315169:=0
def tw8002100628836337030:=0
def tw3703474266641074744:=0
def tw5334071167194036264:=0
def tw7674735110629174683:=0
def tw11500197963046690073:=0
def tw10922123680597509272:=0
def tw14406868161487770812:=0
def tw4893177655296548819:=0
def tw17678630413843227530:=0
def tw8235416757167673475:=0
def tw291925626291538308:=0
def tw11239606635680168899:=0
def tw781501288192400385:=0
def tw5916670733194982143:=0
def tw17405746147829529086:=0
def tw13444611227351681833:=0
def tw15582007939547647415:=0
def tw11131045719989159938:=0
def tw4039980010744953275:=0
def tw533723449917613104:=0
def tw3695891930943240049:=0
def tw2987391840163777525:=0
def tw12843834157437753212:=0
def tw18136634153684218873:=0
def tw2829629898711535703:=0
def tw4120448048749609302:=0
def tw11323031482530244785:=0
def tw11119524009258064151:=0
def tw15205444322802651355:=0
def tw4094030333058688546:=0
def tw6826190947645413385:=0
def tw13571541076292755817:=0
def tw11546322119943131269:=0
def tw7277502093500464801:=0
def tw10834169018309186800:=0
def tw7914483326637490110:=0
def tw10220136867767939494:=0
def tw6238488547388491783:=0
def tw8086810280328791665:=0
def tw2521055595231585065:=0
def tw3714732983902708530:=0
def tw443915292447957276:=0
def tw8342116861755825683:=0
def tw16120027530352576834:=0
def tw16295973288226795649:=0
def tw3637662926300656298:=0
def tw6551761971857836264:=0
def tw9086925573997215131:=0
def tw15317417408936909236:=0
def tw9551294490958028784:=0
def tw11345808700745451508:=0
def tw1003084609699967661:=0
def tw16800122466350687010:=0
def tw14427402360297692230:=0
def tw8597970927990839701:=0
def tw12090715024266628589:=0
def tw3677362834264888083:=0
def tw16361093676434863952:=0
def tw1615105436869447778:=0
def tw11041142142857554503:=0
def tw2391743662931349062:=0
def tw7429813594152027016:=0
def tw14044717926774646270:=0
def tw13402738710551807937:=0
def tw15172065156032608329:=0
def tw11836420519800935317:=0
def tw11388060567759959532:=0
def tw5013174231940177790:=0
def tw18210961667995403175:=0
def tw15643269563822782113:=0
def tw14263453423389900001:=0
def tw14241596446236873576:=0
def tw1007032429846400159:=0
def tw15542440373087197792:=0
def tw9922013729815960823:=0
def tw8309530184697834516:=0
def tw8183309502535749669:=0
def tw5986816590025366008:=0
def tw1806189613205415754:=0
def tw16547635387045798492:=0
def tw14986227102609961486:=0
def tw2738637745059308811:=0
def tw18261646907723198857:=0
def tw15543766671281109911:=0
def tw14080565044014416634:=0
def tw9599139320440979329:=0
def tw7080534805282889047:=0
def tw6550446782796720813:=0
def tw14550570263479905813:=0
def tw6097834756698280925:=0
def tw18387635866705239900:=0
def tw12292612452079377681:=0
end PySem.W.Fast
namespace Asm
open PySem PySem.Spec PyProof.Rows L2 DI
noncomputable def top(i:Nat):Stmt:=PySem.Challenge.pw_sharesample_k28_refused_spreads.main.body.getD i (.Pass ⟨0,0,0,0⟩)
def px:Px:=⟨λn a bl e=>if n=1011 then dY "min" a bl e else if n=1022 then F9 a bl e else if n=1024 then p9 true a bl e else if n=1030 then um a bl e else if n=1031 then uo a bl e else if n=1032 then yQ a bl e else if n=1035 then dY "sorted" a bl e else if n=1040 then F5 a bl e else if n=1041 then AB a bl e else if n=1042 then AD "len" "set" a bl e else if n=1043 then FZ false a bl e else if n=1045 then FZ true a bl e else if n=1085 then p9 false a bl e else if n=1086 then FY a bl e else if n=1087 then dY "max" a bl e else if n=1094 then Gd a bl e else if n=1095 then F7 a bl e else none,λn a bl e=>if n=1000 then p8 a bl e else if n=1003 then dY "enumerate" a bl e else if n=1100 then Gb a bl e else none,λn a bl e=>if n=1013 then Ga a bl e else if n=1033 then uk a bl e else none⟩
def PT:aT
 |1000=>CA
 |1003=>g_
 |1011=>minD
 |1013=>yE
 |1022=>Qc
 |1024=>rZ
 |1030=>FK
 |1031=>wH
 |1032=>FP
 |1033=>wF
 |1035=>pU
 |1040=>R4
 |1041=>Na
 |1042=>vO
 |1043=>nqD
 |1045=>X0
 |1085=>Ay
 |1086=>xR
 |1087=>maxD
 |1094=>Az
 |1095=>zX
 |1100=>pW
 |_=>λ_=>none
def pr(F:aT)(i:Nat)(m:au):qo px (xm PT F i m)/\GA px (xm PT F i m):=⟨⟨(λX q bl k L p e args a F v b=>vX a (λa=>MY rfl L a b) λa=>vX a (λa=>TX rfl L a b) λa=>vX a (λa=>JQ rfl L a b) λa=>vX a (λa=>JJ rfl L a b) λa=>vX a (λa=>JM rfl L a b) λa=>vX a (λa=>O2 rfl L a b) λa=>vX a (λa=>FH rfl L a b) λa=>vX a (λa=>RZ rfl L a b) λa=>vX a (λa=>R5 rfl L a b) λa=>vX a (λa=>M9 rfl L a b) λa=>vX a (λa=>KG rfl L a b) λa=>vX a (λa=>KG rfl L a b) λa=>vX a (λa=>JP rfl L a b) λa=>vX a (λa=>LU rfl L a b) λa=>vX a (λa=>MZ rfl L a b) λa=>vX a (λa=>ZK rfl L a b) λa=>vX a (λa=>X3 rfl L a b) λa=>nomatch a),(λX q bl k L p e args a F v C f b pins s z H R y A B d items I l j h g n hR=>by
  dsimp only[px]at a;by_cases c:p=1000
  ·subst c;rw[cc rfl]at a;exact Ly rfl L a f b I l j h g n hR
  rw[cb c]at a;clear c;by_cases c:p=1003
  ·subst c;rw[cc rfl]at a;exact FC rfl L a f b I l j h g n hR
  rw[cb c]at a;clear c;by_cases c:p=1100
  ·subst c;rw[cc rfl]at a;exact FL rfl L a f b I l j h g n hR
  rw[cb c]at a;clear c;cases a)⟩,⟨(λX q bl k L u o p D x w args a i t hl r F v b=>ifM a (λa=>OM rfl L u o a t hl r b) λa=>ifM a (λa=>JI rfl L u o a t hl r b) λa=>nomatch a)⟩⟩
noncomputable def xt(F:aT)(i a b:Nat)(c:af):aT:=xm PT F i (mk F a b c)
noncomputable def BL:aq:=["ValueError","abs","all","bool","enumerate","int","isinstance","len","list","max","min","range","set","sorted","sum","tuple","zip"]
noncomputable def CC:List (Str×GK):=[("MOST_HOUSES",GK.i 12)]
noncomputable def kR:aT:=xm PT PT 0 λ_=>none
noncomputable def iW:aT:=xt kR 200 2 4 (fQ)
noncomputable def kQ:aT:=xt iW 215 1 1 (jY)
noncomputable def hX:aT:=xt kQ 201 2 4 (lT)
noncomputable def mR:aT:=xt hX 212 3 10 (jZ)
noncomputable def jP:aT:=xt mR 202 2 2 (AJ 201)
noncomputable def fT:aT:=xt jP 213 1 8 (lS)
noncomputable def fU:aT:=xt fT 233 1 2 (jX)
noncomputable def mQ:aT:=xt fU 234 1 1 (J1)
noncomputable def kP:aT:=xt mQ 209 5 8 (uD)
noncomputable def gF:aT:=xt kP 230 2 4 (om)
noncomputable def cf:aT:=xt gF 236 2 3 (AK)
noncomputable def gh:aT:=xt cf 56 1 3 (kK)
noncomputable def kS:aT:=xt gh 62 2 2 (lR)
noncomputable def iZ:aT:=xt kS 0 1 1 (iS)
noncomputable def fA:aT:=xt iZ 43 2 2 (dQ)
noncomputable def h_:aT:=xt fA 1 2 3 (dP)
noncomputable def qr:aT:=xt h_ 3 1 1 (ck)
noncomputable def jO:aT:=xt qr 12 2 2 (lU)
noncomputable def de:aT:=xt jO 44 1 3 (sv)
noncomputable def jN:aT:=xt de 9 1 3 (c9)
noncomputable def gE:aT:=xt jN 10 2 2 (gU)
noncomputable def fF:aT:=xt gE 14 1 4 (jW)
noncomputable def gG:aT:=xt fF 15 1 2 (dg)
noncomputable def lX:aT:=xt gG 45 1 4 (fm)
noncomputable def gi:aT:=xt lX 11 2 2 (iy)
noncomputable def cF:aT:=xt gi 16 1 1 (dO)
noncomputable def fG:aT:=xt cF 17 1 1 (b9)
noncomputable def hZ:aT:=xt fG 2 2 3 (dh)
noncomputable def d4:aT:=xt hZ 19 3 4 (oq)
noncomputable def eP:aT:=xt d4 21 1 4 (fj)
noncomputable def eO:aT:=xt eP 59 1 4 (mI)
noncomputable def dF:aT:=xt eO 70 4 5 (AI)
noncomputable def bS:aT:=xt dF 71 1 6 (w6)
noncomputable def eD:aT:=xt bS 57 1 3 (iT)
noncomputable def cm:aT:=xt eD 58 2 2 (kL)
noncomputable def d6:aT:=xt cm 55 1 1 (iR)
noncomputable def eU:aT:=xt d6 40 2 2 (cE)
noncomputable def j8:aT:=xt eU 47 2 2 (gf 40 4)
noncomputable def kO:aT:=xt j8 7 2 2 (Gj 2)
noncomputable def iX:aT:=xt kO 41 1 2 (iQ)
noncomputable def iY:aT:=xt iX 42 1 2 (gd)
noncomputable def ia:aT:=xt iY 6 2 2 (oi 2)
noncomputable def jQ:aT:=xt ia 61 2 2 (uE)
noncomputable def kT:aT:=xt jQ 5 2 2 (uB 2)
noncomputable def eQ:aT:=xt kT 64 3 6 (AL)
noncomputable def di:aT:=xt eQ 69 3 5 (uC)
noncomputable def gX:aT:=xt di 67 2 4 (wZ)
noncomputable def d5:aT:=xt gX 60 1 3 (uF)
noncomputable def gW:aT:=xt d5 46 2 2 (gf 40 3)
noncomputable def dE:aT:=xt gW 63 4 6 (oj)
noncomputable def fN:aT:=xt dE 68 4 6 (qR)
noncomputable def eu:aT:=xt fN 227 2 6 (m7)
noncomputable def GD:aT:=xm PT eu 235 (vA eu)
def QW:=Mn kR
def WQ:=Be iW
def LZ:=HG kQ
def WR:=Bg hX ⟨rfl,rfl,rfl,rfl,rfl,rfl⟩ QW LZ
def WT:=Rb mR (f:=201) LZ
def QV:=Dj jP WT
def WM:=Bc fT QV
def WL:=W5 fU WM
def WS:=HI mQ QV WL rfl rfl rfl
def WN:=HF kP LZ
def WJ:=Rf gF rfl
def Vf:=Ml cf rfl
def GL:qm G1 6 (gh 56):=r56 cf rfl
def QT:=Di gh
def t0:=xZ kS
def t43:=sP iZ t0
def t1:=mi fA
def t3:=qI h_ t0 t1
def t12:=Dk qr t3 t43
def t44:jM (de 44)/\(de 44) [.lst .fz (bL [])]=ok (.bl true):=Rc jO rfl rfl rfl
def t9:=nE de t1
def t10:=vw jN
def WU:=Ba gE t9 t10 rfl
def t15:=qH fF WU
def z15:(gG 15) [.lst .fz (bL [])]=ok (.bl false):=n15 fF WU
def t45:=x_ gG t0 t12 t15 t44.1
def z45:∀n:Nat,1<=n->n<=12->(lX 45) [aQ n []]=ok (.bl false):=λn b a=>n45 gG t0 z15 t44.2 b a
def Vh:=Dl lX t43
def t16:=sN gi Vh t45
def z16:∀n:Nat,1<=n->n<=12->(cF 16) [aQ n []]=ok (.bl false):=λn b a=>n16 gi (z45 n b a)
def t17:=nF cF t16
def k17:qm xD 1 (fG 17):=r17 cF z16
def t2:=qJ fG t1
def t19:=HH hZ t2
def Cj:=Bb d4 WU t17 t19
def uS:qm xD 1 (eP 21):=r21 d4 k17
def WG:qg (eO 59)/\y4 (eO 59):=Mj eP rfl rfl rfl
def t70:=Ra eO
def t71:=W4 dF Cj Vf WG.1 QT t70 rfl
def XJ:Cu 71 (bS 71):=r71 dF Cj uS GL
def Pw:=HK bS
def GJ:qm G0 6 (eD 57):=r57 bS
def Pu:=Mm eD Vh rfl
def GI:qm GZ 7 (cm 58):=r58 eD Vh
def Py:=HE cm rfl
def Cq:qm J8 5 (d6 55):=r55 cm rfl
def Vg:=nG d6 t3
def Pz:cW 4 cH (j8 47):=zp eU (f:=40) mK Vg
def t7:=s_by j8 (f:=2) t2
def t41:=xY kO t9 t10
def WI:=sO iX t2 t41
def t6:=HC iY (f:=2) t2.1
def t61:=Mo ia t6
def t5:=Mk jQ (f:=2) t2.1
def t64:=Rh kT t5 t6 t7 t61 QT
def t69:=Dm eQ t7 Cj WI Pz Py Pw Pu WG.2 QT t64
def XM:Cu 69 (di 69):=r69 eQ Cj uS Py Pw Pu Pz Cq GJ GI
def t67:=Rg di Cj WI Pz Py Vf WG.1 t64 rfl
def XO:Cu 67 (gX 67):=r67 di Cj uS Py Vf Pz Cq GL
def t60:=HL gX rfl
def WH:cW 3 cH (gW 46):=zp d5 (f:=40) mK Vg
def t63:=HD gW t5 t6 t61 QT
def t68:=Dh dE t7 Cj WI WH Pz Pw Pu t60 QT t63
def XN:Cu 68 (fN 68):=r68 dE Cj uS Pw Pu WH Pz GJ GI
def WO:=HJ fN ⟨t67,t68,t69,t71,XO,XN,XM,XJ⟩
def WK:=Mi eu WO
def Bs:∀a:ae,(mk GD 1 15 (oo)) [.lst .sc (ag a)]=ok (.bl true):=R9 GD QW WS WR WQ WN WK WJ rfl
def wg:VW ["_law_which","_law_things","_law_kept","e","_law_told"] ["_law_which","_law_things"] (aO (top 68))=true:=by decide +kernel
def twB(sc:Scope)(kept:Str)(c b a:ao)(v:Expr)(ls:List (Str×Bool))(b1 b2 b3:List Bool):Bool:=gB sc "ValueError" && (ls.all (λp=>gB sc p.1)&&(decide (fW kept (GY ls) c=some b1)&&(decide (fW kept (GY ls) b=some b2)&&(decide (fW kept (GY ls) a=some b3)&&(decide (Bv kept (GY ls) v=some true)&&decide (b1.length+b2.length+b3.length<=100))))))
noncomputable def y9(n:Nat):List (Str×Bool):=[("NoDrawing",n==1),("NoWeights",n==3),("NoWorths",n==4),("NoPair",n==6),("NoSize",n==5),("NoLot",n==7),("NoGuess",false),("NoShares",false),("TooMany",false)]
def wQ:∃h g f d c v r0 u t s r l k j q p o m a b c1 J c3 c4 c5 c6 I H G F E D C B A z y x w u1 u2 u3 u4 u5 i,(bM (top 68)=Vj "ShareError" "e" "_law_kept" "_law_told" "" "more" h g f d c v r0 u t s r l k j q p o m a b c1 J c3 c4 c5 c6 I H G F E D C B A z y x w u1 u2 u3 u4 u5 i/\(ntB (aO (top 68)) ["_law_which","_law_things","_law_kept","e","_law_told"] "ShareError" "e" "_law_kept" "_law_told" 3 2 4&&(cg ⟨aO (top 68),["_law_which","_law_things","_law_kept","e","_law_told"],λn=>List.lookup n [(227,"_law_asked")],BL,CC,px⟩ UE c&&(cg ⟨aO (top 68),["_law_which","_law_things","_law_kept","e","_law_told"],λn=>List.lookup n [(227,"_law_asked")],BL,CC,px⟩ UG r0&&(qP ⟨aO (top 68),["_law_which","_law_things","_law_kept","e","_law_told"],λn=>List.lookup n [(227,"_law_asked")],BL,CC,px⟩ V7 h&&LS V7))))=true)/\(JV.all λn=>twB (aO (top 68)) "_law_kept" g f d v (y9 n) [n==1,n==3,n==4] [n==6,n==5,n==7] [false,false,false])=true:=⟨_,_,_,_,_,_,_,_,_,_,_,_,_,_,_,_,_,_,_,_,_,_,_,_,_,_,_,_,_,_,_,_,_,_,_,_,_,_,_,_,_,_,_,_,_,⟨rfl,by decide +kernel⟩,by decide +kernel⟩
noncomputable def ca(f e d b c a:Addr):Nat->Addr
 |1=>f
 |3=>e
 |4=>d
 |5=>b
 |6=>c
 |_=>a
noncomputable abbrev NS(i h g f e d c b a:Addr):List (Str×Addr):=[("NoDrawing",i),("NoWeights",h),("NoWorths",g),("NoPair",f),("NoSize",e),("NoLot",d),("NoGuess",c),("NoShares",b),("TooMany",a)]
def O7:Qi (top 71) ["_law_script","_law_drawing_here","_law_number","_law_many","_law_weights","_law_worths","_law_lot","_law_odd","_law_light","_law_heavy","_law_handed","_law_which","_law_code","_law_good","_law_things"] ["_law_script"] [(200,"_law_cell"),(209,"_law_due"),(212,"_law_drawing"),(215,"_law_copied"),(230,"_law_list"),(235,"_law_word"),(236,"_law_odd_list")] BL CC px (oo)=true:=by decide +kernel
def all_mk{l:PySem.W.OpenLaw}{w:World}{K:ak}{h:Heap}{mg:aY}{fa x t o m k j g C B A:Addr}{F:Value}(X:K.In h)(G:h.Ns mainGlobals mg)(hfa:mg "law" = some (.ref fa))
  (b0:bB (λp:Str×Nat=>Df K p.1 (top p.2)) [("_law_cell",58),("_law_copied",66),("_law_frac",59),("_law_drawing",61),("_law_add",60),("_law_pairs",63),("_law_shares_of",64),("_law_all_asked",65),("_law_due",70),("_law_list",62),("_law_odd_list",69),("check_each_shared",43),("pair_share",49),("is_whole",13),("are_houses",27)])
  (b1:bB (λp:Str×Nat=>Df K p.1 (top p.2)) [("common_divisor",14),("is_fraction",16),("is_row",29),("rows_rise",30),("common_bottom",21),("tops_over",22),("weighed_lots",31),("sums_to_one",32),("is_drawn",33),("is_lot",28),("is_drawing",34),("check_drawing",35),("fraction_of",15),("joint_share",36),("pair_shares",37)])
  (b2:bB (λp:Str×Nat=>Df K p.1 (top p.2)) [("rising_pairs",46),("two_worths",55),("blind_worths",56),("check_all_shared",44),("check_lot",45),("check_one_size",42),("are_fractions",17),("check_worths",40),("frac_by",20),("over_one",23),("frac_total",24),("frac_times",19),("both_shares",48),("frac_less",18),("gap_part",51)])
  (b3:bB (λp:Str×Nat=>Df K p.1 (top p.2)) [("gaps_guess",54),("gaps_spread",52),("all_pairs",47),("check_weights",39),("pair_part",50),("spread_guess",53),("_law_asked",67),("_law_word",68),("law",71)])
  (z:bB (λy=>PySem.W.nsIn K mainGlobals y=some none) BL)
  (q0:PySem.W.nsIn K mainGlobals "MOST_HOUSES" = some (some F)) (r0:RelV (.int 12) F)
  (e0:PySem.W.nsIn K mainGlobals "ShareError" = some (some (.ref x))) (xxB:PySem.W.excIn K x LI "ValueError.__new__" = true) (e:bB (λp:Str×Addr=>PySem.W.nsIn K mainGlobals p.1=some (some (.ref p.2))) (NS t o m k j g C B A))
  (c1:xE K x t ((NS t o m k j g C B A).zip [true,false,false,false,false,false,false,false,false])) (c3:xE K x o ((NS t o m k j g C B A).zip [false,true,false,false,false,false,false,false,false])) (c4:xE K x m ((NS t o m k j g C B A).zip [false,false,true,false,false,false,false,false,false])) (c5:xE K x j ((NS t o m k j g C B A).zip [false,false,false,false,true,false,false,false,false])) (c6:xE K x k ((NS t o m k j g C B A).zip [false,false,false,true,false,false,false,false,false])) (c7:xE K x g ((NS t o m k j g C B A).zip [false,false,false,false,false,true,false,false,false])) :
  ∃fd:FuncData,(∀(s:Shared) (v:Value),BindsTo s fd ⟨[v],[]⟩ [("_law_script",v)])/\∀base:Heap,K.In base->base.Ns mainGlobals mg->iB l.prog w K mg base Ce 55 fa fd ["_law_script"] (Hv K 1 tH):=by
 obtain⟨a0,a1,a2,a3,a4,a5,a6,a7,a8,a9,a10,a11,a12,a13,a14,_⟩:=b0;obtain⟨a15,a16,a17,a18,a19,a20,a21,a22,a23,a24,a25,a26,a27,a28,a29,_⟩:=b1;obtain⟨a30,a31,a32,a33,a34,a35,a36,a37,a38,a39,a40,a41,a42,a43,a44,_⟩:=b2;obtain⟨a45,a46,a47,a48,a49,a50,a51,a52,a53,_⟩:=b3;obtain⟨f,fd,Fu,a⟩:=a53;have e:=hfa.symm.trans (abu X G a);cases e;obtain⟨oc,od,kV,dc,pm,an,cd,ct,sl,rfl,_,_⟩:=id Fu.ex;have Y:=bB.nn X G z;have x0:∃u,mg "MOST_HOUSES" = some u/\y_ K (GK.i 12) u:=⟨_,abu X G q0,r0⟩
 refine⟨PySem.W.fnOf "law" "law" (eM (top 71)) (bM (top 71)) (aO (top 71)) .none kV dc pm an cd ct,λs v=>.of_eq rfl,λbase d D=>?_⟩;have N:=@en7 l.prog w K h base mg BL CC px PT X G pr Y ⟨x0,dm⟩;have O:=bB.mem (P:=λn=>qU (Uy n) (ca t o m j k g n) mg base) (l:=JV) ⟨iK d D e.1 c1.xx,iK d D e.2.1 c3.xx,iK d D e.2.2.1 c4.xx,iK d D e.2.2.2.2.1 c5.xx,iK d D e.2.2.2.1 c6.xx,iK d D e.2.2.2.2.2.1 c7.xx,dm⟩;have c:=@en8 l.prog w K h base mg BL CC px PT X G pr Y ⟨x0,dm⟩ JV Uy _ O xn;have E0:=N 1 kR a0 ["_law_script","_law_k","_law_cell_here","_law_number"] 2 [] (fQ) dm;have E1:=N 2 iW a1 ["_law_drawing_here"] 1 [] (jY) dm;have E2:=N 3 kQ a2 ["_law_top","_law_bottom","_law_one","_law_other"] 2 [] (lT) dm;have E3:=N 4 hX a3 ["_law_script","_law_at","_law_most","_law_number","_law_many","_law_lots","_law_k","_law_other","_law_lot","_law_whole"] 3 [(200,"_law_cell"),(201,"_law_frac")] (jZ) ⟨E0.u,E2.u,dm⟩;have E4:=N 5 mR a4 ["_law_one","_law_other"] 2 [(201,"_law_frac")] (AJ 201) ⟨E2.u,dm⟩;have E5:=N 6 jP a5 ["_law_drawing_here","_law_found","_law_house","_law_row","_law_other","_law_share","_law_chance","_law_lot"] 1 [(202,"_law_add")] (lS) ⟨E4.u,dm⟩;have E6:=N 7 fT a6 ["_law_drawing_here","_law_pairs_here"] 1 [(213,"_law_pairs")] (jX) ⟨E5.u,dm⟩;have E7:=N 8 fU a7 ["_law_drawing_here"] 1 [(233,"_law_shares_of")] (J1) ⟨E6.u,dm⟩;have E8:=N 9 mQ a8 ["_law_which","_law_drawing_here","_law_lot","_law_light","_law_heavy","_law_sizes","_law_asked_here","_law_together"] 5 [(213,"_law_pairs"),(234,"_law_all_asked")] (uD) ⟨E5.u,E7.u,dm⟩;have E9:=N 10 kP a9 ["_law_number","_law_many","_law_found","_law_k"] 2 [(201,"_law_frac")] (om) ⟨E2.u,dm⟩;have E10:=N 11 gF a10 ["_law_some","_law_number","_law_odd"] 2 [] (AK) dm;obtain⟨E11,L⟩:=c 12 cf a11 ["pairs","house","line"] 1 [] (kK) 56 dm (λn h=>dm) (λn b h=>m56 cf n b rfl h);have M:=N 13 gh a12 ["pairs","two"] 2 [] (lR) dm;have Z_:=N 14 kS a13 ["thing"] 1 [] (iS) dm;have E14:=N 15 iZ a14 ["thing","many"] 2 [(0,"is_whole")] (dQ) ⟨Z_.u,dm⟩;have Z9:=N 16 fA a15 ["one","other","rest"] 2 [] (dP) dm;have E16:=N 17 h_ a16 ["thing"] 1 [(0,"is_whole"),(1,"common_divisor")] (ck) ⟨Z_.u,Z9.u,dm⟩;have E17:=N 18 qr a17 ["thing","many"] 2 [(3,"is_fraction"),(43,"are_houses")] (lU) ⟨E16.u,E14.u,dm⟩;have E18:=N 19 jO a18 ["rows","ahead","behind"] 1 [] (sv) dm;have E19:=N 20 de a19 ["some","bottom","part"] 1 [(1,"common_divisor")] (c9) ⟨Z9.u,dm⟩;have E20:=N 21 jN a20 ["some","bottom"] 2 [] (gU) dm;have E21:=N 22 gE a21 ["rows","chances","lots","bottom"] 1 [(9,"common_bottom"),(10,"tops_over")] (jW) ⟨E19.u,E20.u,dm⟩;have E22:=N 23 fF a22 ["rows","weighed"] 1 [(14,"weighed_lots")] (dg) ⟨E21.u,dm⟩;have E23:=N 24 gG a23 ["thing","many","rows","row"] 1 [(0,"is_whole"),(12,"is_row"),(15,"sums_to_one"),(44,"rows_rise")] (fm) ⟨Z_.u,E17.u,E22.u,E18.u,dm⟩;have E24:=N 25 lX a24 ["thing","many"] 2 [(43,"are_houses")] (iy) ⟨E14.u,dm⟩;have E25:=N 26 gi a25 ["thing"] 1 [(11,"is_lot"),(45,"is_drawn")] (dO) ⟨E24.u,E23.u,dm⟩;obtain⟨E26,X26⟩:=c 27 cF a26 ["thing"] 1 [(16,"is_drawing")] (b9) 17 ⟨E25.u,dm⟩ (λn h=>⟨qv,dm⟩) (λn b h=>m17 cF n b z16 h);have Q:=N 28 fG a27 ["top","bottom","divisor"] 2 [(1,"common_divisor")] (dh) ⟨Z9.u,dm⟩;have E28:=N 29 hZ a28 ["weighed","one","other","having"] 3 [(2,"fraction_of")] (oq) ⟨Q.u,dm⟩;obtain⟨Wh,Wf⟩:=c 30 d4 a29 ["drawing","weighed","pairs","one"] 1 [(14,"weighed_lots"),(17,"check_drawing"),(19,"joint_share")] (fj) 21 ⟨E21.u,E26.u,E28.u,dm⟩ (λn h=>⟨qv,λ_=>(X26 n h).u,qv,dm⟩) (λn b h=>m21 d4 n b h);have Z8:=N 31 eP a30 ["houses","pairs","place","one"] 1 [] (mI) dm;have E31:=N 32 eO a31 ["many","two","one","other","worths"] 4 [] (AI) dm;obtain⟨E32,X32⟩:=c 33 dF a32 ["drawing","pairs","blind","told","one","other"] 1 [(21,"pair_shares"),(56,"check_each_shared"),(59,"rising_pairs"),(62,"pair_share"),(70,"two_worths")] (w6) 71 ⟨Wh.u,E11.u,Z8.u,M.u,E31.u,dm⟩ (λn h=>⟨λ_=>(Wf n h).u,λ_=>(L n h).u,qv,qv,qv,dm⟩) (λn b h=>a71 (Φ:=dF) Cj (λq _ h=>⟨q,h⟩) (λq _ h=>⟨q,h⟩) h);obtain⟨E33,J⟩:=c 34 bS a33 ["pairs","line","share"] 1 [] (iT) 57 dm (λn h=>dm) (λn b h=>m57 bS n b h);obtain⟨E34,I⟩:=c 35 eD a34 ["thing","drawing"] 2 [(11,"is_lot")] (kL) 58 ⟨E24.u,dm⟩ (λn h=>⟨qv,dm⟩) (λn b h=>m58 eD n b Vh h);obtain⟨Z,H⟩:=c 36 cm a35 ["drawing"] 1 [] (iR) 55 dm (λn h=>dm) (λn b h=>m55 cm n b rfl h);have V:=N 37 d6 a36 ["thing","many"] 2 [(3,"is_fraction")] (cE) ⟨E16.u,dm⟩;obtain⟨Z7,ZX⟩:=c 38 eU a37 ["thing","many"] 2 [(40,"are_fractions")] (gf 40 4) 47 ⟨V.u,dm⟩ (λn h=>⟨qv,dm⟩) (λn b h=>mCk eU n b Vg h);have Z6:=N 39 j8 a38 ["one","other"] 2 [(2,"fraction_of")] (Gj 2) ⟨Q.u,dm⟩;have E39:=N 40 kO a39 ["some","bottom"] 1 [(9,"common_bottom"),(10,"tops_over")] (iQ) ⟨E19.u,E20.u,dm⟩;have Z5:=N 41 iX a40 ["some","tops"] 1 [(2,"fraction_of"),(41,"over_one")] (gd) ⟨Q.u,E39.u,dm⟩;have Z4:=N 42 iY a41 ["one","other"] 2 [(2,"fraction_of")] (oi 2) ⟨Q.u,dm⟩;have U:=N 43 ia a42 ["pairs","two"] 2 [(6,"frac_times")] (uE) ⟨Z4.u,dm⟩;have S:=N 44 jQ a43 ["one","other"] 2 [(2,"fraction_of")] (uB 2) ⟨Q.u,dm⟩;have R:=N 45 kT a44 ["pairs","two","worths","one","other","gap"] 3 [(5,"frac_less"),(6,"frac_times"),(7,"frac_by"),(61,"both_shares"),(62,"pair_share")] (AL) ⟨S.u,Z4.u,Z6.u,U.u,M.u,dm⟩;obtain⟨E45,X45⟩:=c 46 eQ a45 ["drawing","lot","worths","pairs","parts"] 3 [(7,"frac_by"),(21,"pair_shares"),(42,"frac_total"),(47,"check_worths"),(55,"check_one_size"),(57,"check_all_shared"),(58,"check_lot"),(59,"rising_pairs"),(62,"pair_share"),(64,"gap_part")] (uC) 69 ⟨Z6.u,Wh.u,Z5.u,Z7.u,Z.u,E33.u,E34.u,Z8.u,M.u,R.u,dm⟩ (λn h=>⟨qv,λ_=>(Wf n h).u,qv,λ_=>(ZX n h).u,λ_=>(H n h).u,λ_=>(J n h).u,λ_=>(I n h).u,qv,qv,qv,dm⟩) (λn b h=>a69 (Φ:=eQ) Cj Py Pw Pu (λq _ h=>⟨q,h⟩) (λq _ h=>⟨q,h⟩) (λq _ h=>⟨q,h⟩) (λq _ h=>⟨q,h⟩) (λq _ h=>⟨q,h⟩) h);obtain⟨E46,X46⟩:=c 47 di a46 ["drawing","worths","pairs","houses"] 2 [(21,"pair_shares"),(42,"frac_total"),(47,"check_worths"),(55,"check_one_size"),(56,"check_each_shared"),(59,"rising_pairs"),(64,"gap_part")] (wZ) 67 ⟨Wh.u,Z5.u,Z7.u,Z.u,E11.u,Z8.u,R.u,dm⟩ (λn h=>⟨λ_=>(Wf n h).u,qv,λ_=>(ZX n h).u,λ_=>(H n h).u,λ_=>(L n h).u,qv,qv,dm⟩) (λn b h=>a67 (Φ:=di) Cj Py Vf (λq _ h=>⟨q,h⟩) (λq _ h=>⟨q,h⟩) (λq _ h=>⟨q,h⟩) (λq _ h=>⟨q,h⟩) h);have E47:=N 48 gX a47 ["houses","pairs","one"] 1 [] (uF) dm;obtain⟨E48,X48⟩:=c 49 d5 a48 ["thing","many"] 2 [(40,"are_fractions")] (gf 40 3) 46 ⟨V.u,dm⟩ (λn h=>⟨qv,dm⟩) (λn b h=>mCk d5 n b Vg h);have E49:=N 50 gW a49 ["pairs","two","weights","worths","one","other"] 4 [(5,"frac_less"),(6,"frac_times"),(61,"both_shares"),(62,"pair_share")] (oj) ⟨S.u,Z4.u,U.u,M.u,dm⟩;obtain⟨E50,X50⟩:=c 51 dE a50 ["drawing","weights","lot","worths","pairs","parts"] 4 [(7,"frac_by"),(21,"pair_shares"),(42,"frac_total"),(46,"check_weights"),(47,"check_worths"),(57,"check_all_shared"),(58,"check_lot"),(60,"all_pairs"),(62,"pair_share"),(63,"pair_part")] (qR) 68 ⟨Z6.u,Wh.u,Z5.u,E48.u,Z7.u,E33.u,E34.u,E47.u,M.u,E49.u,dm⟩ (λn h=>⟨qv,λ_=>(Wf n h).u,qv,λ_=>(X48 n h).u,λ_=>(ZX n h).u,λ_=>(J n h).u,λ_=>(I n h).u,qv,qv,qv,dm⟩) (λn b h=>a68 (Φ:=dE) Cj Pw Pu WH (λq _ h=>⟨q,h⟩) (λq _ h=>⟨q,h⟩) (λq _ h=>⟨q,h⟩) (λq _ h=>⟨q,h⟩) (λq _ h=>⟨q,h⟩) h);obtain⟨E51,X51⟩:=c 52 fN a51 ["_law_which","_law_things","_law_drawing_here","_law_weights","_law_lot","_law_worths"] 2 [(67,"gaps_spread"),(68,"spread_guess"),(69,"gaps_guess"),(71,"blind_worths")] (m7) 227 ⟨E46.u,E50.u,E45.u,E32.u,dm⟩ (λn h=>⟨λ_=>(X46 n h).u,λ_=>(X50 n h).u,λ_=>(X45 n h).u,λ_=>(X32 n h).u,dm⟩) (λn b h=>K_ fN (xn n) n b (Qx h));obtain⟨_,_,_,_,_,_,_,_,_,_,_,_,_,_,_,_,_,_,_,_,_,_,_,_,_,_,_,_,_,_,_,_,_,_,_,_,_,_,_,_,_,_,_,_,_,hT,E⟩:=wQ;have T:=λn s (hs:Hc n=some s)=>(show TW K mg base x (aO (top 68)) "_law_kept" _ _ _ _ eu UE UG 5 4 (ca t o m j k g n) s from by
  rcases qY hs with ⟨rfl,rfl⟩|⟨rfl,rfl⟩|⟨rfl,rfl⟩|⟨rfl,rfl⟩|⟨rfl,rfl⟩|⟨rfl,rfl⟩
  ·exact rb X G (gj d c1.xx c1.mb c1.nb) c1.xc (ls:=y9 1) (xE.hl e c1.v) c1.vv (Y.mem _ (by decide)) (List.all_eq_true.mp E 1 (by decide)) rfl rfl
  ·exact rb X G (gj d c3.xx c3.mb c3.nb) c3.xc (ls:=y9 3) (xE.hl e c3.v) c3.vv (Y.mem _ (by decide)) (List.all_eq_true.mp E 3 (by decide)) rfl rfl
  ·exact rb X G (gj d c4.xx c4.mb c4.nb) c4.xc (ls:=y9 4) (xE.hl e c4.v) c4.vv (Y.mem _ (by decide)) (List.all_eq_true.mp E 4 (by decide)) rfl rfl
  ·exact rb X G (gj d c5.xx c5.mb c5.nb) c5.xc (ls:=y9 5) (xE.hl e c5.v) c5.vv (Y.mem _ (by decide)) (List.all_eq_true.mp E 5 (by decide)) rfl rfl
  ·exact rb X G (gj d c6.xx c6.mb c6.nb) c6.xc (ls:=y9 6) (xE.hl e c6.v) c6.vv (Y.mem _ (by decide)) (List.all_eq_true.mp E 6 (by decide)) rfl rfl
  ·exact rb X G (gj d c7.xx c7.mb c7.nb) c7.xc (ls:=y9 7) (xE.hl e c7.v) c7.vv (Y.mem _ (by decide)) (List.all_eq_true.mp E 7 (by decide)) rfl rfl)
 have E52:=Zu (P:=l.prog) (w:=w) (base:=base) X G 3 2 4 53 eu (vA eu) (iK d D e0 xxB) (Y.mem _ (by decide)) a52 wg hT (pr _ _ _) Y ⟨x0,dm⟩ ⟨E51.u,dm⟩ (T 1 _ rfl) (λb r q=>(hmK (Φ:=eu) b r q).imp_right λh=>h.imp_right λ⟨n,s,hs,hr,he⟩=>⟨_,_,_,_,hr,T n s hs,⟨λ_=>(X51 n (LF hs)).u,dm⟩,he⟩) (λ_ _ _ _ _ _=>u2 λ_ _=>rfl);exact enL 54 GD tH Fu O7 (pr _ _ _) Y ⟨x0,dm⟩ ⟨E0.u,E8.u,E3.u,E1.u,E9.u,E52.u,E10.u,dm⟩ (Ep λns _=>(yj _ _ (Bs ns)).2)
def walk{l:PySem.W.OpenLaw}{q:aK}{loose:aq}{o:(aY)->Heap->Prop}{c:World->Heap->Prop}{d:DefRec}{K:Params->ak}(hn:l.most=some 63)(p:d.params.defaults=[])
  (i:∀(w:World) (h:Heap),c w h->(K w.params).In h)
  (F:∀(w:World) (mg:aY) (fa:Addr) (h:Heap),(K w.params).In h->h.Ns mainGlobals mg->mg d.name=some (.ref fa) ->
   ∃b:FuncData,(∀(s:Shared) (u:Value),BindsTo s b ⟨[u],[]⟩ [("_law_script",u)])/\∀base:Heap,(K w.params).In base->base.Ns mainGlobals mg->iB l.prog w (K w.params) mg base Ce 55 fa b ["_law_script"] (Hv (K w.params) 1 tH)) :
  PySem.W.WalkO q loose o c l.row.toRowW d [] (λf e=>PySem.call f e) :=
 L2.Hd (n:=63) (k:=55) (x:="_law_script") (CX:=λ_=>Ce) (sp:=λw=>Hv (K w.params) 1 tH) hn (by decide) p ⟨rfl,by decide,by decide⟩ i F (λw H a g hl m j=>Nf (K w.params) H a g tH (Iy hl) m j) λ_ _ _ _ _ z=>z
end Asm
end
open PySem PySem.W PyProof.Rows
set_option maxRecDepth 100000 in
set_option maxHeartbeats 0 in
theorem PySem.Challenge.cw_sharesample_k28_refused_spreads_holds : PySem.Challenge.rw_sharesample_k28_refused_spreads.Holds := by
 w_on;o_law;k_head;(case hw=>w_witness2)
 k_fill
 refine Asm.walk (l:=PySem.Challenge.rw_sharesample_k28_refused_spreads) rfl rfl (fun w h Y=>PySem.W.kIn_of Y) ?F
 case F =>
  intro w mg fa h KX G hmg
  refine' Asm.all_mk KX G hmg ?b0 ?b1 ?b2 ?b3 ?zz ?q0 ?r0 ?e0 ?xxB ?e ?c1 ?c3 ?c4 ?c5 ?c6 ?c7
  (case b0 =>
   refine' ⟨?_,?_,?_,?_,?_,?_,?_,?_,?_,?_,?_,?_,?_,?_,?_,trivial⟩ <;> (try dsimp only) <;> (refine' DI.dmk ?x ?y ?z ?w;case x | y | z | w=>k_is))
  (case b1 =>
   refine' ⟨?_,?_,?_,?_,?_,?_,?_,?_,?_,?_,?_,?_,?_,?_,?_,trivial⟩ <;> (try dsimp only) <;> (refine' DI.dmk ?x ?y ?z ?w;case x | y | z | w=>k_is))
  (case b2 =>
   refine' ⟨?_,?_,?_,?_,?_,?_,?_,?_,?_,?_,?_,?_,?_,?_,?_,trivial⟩ <;> (try dsimp only) <;> (refine' DI.dmk ?x ?y ?z ?w;case x | y | z | w=>k_is))
  (case b3 =>
   refine' ⟨?_,?_,?_,?_,?_,?_,?_,?_,?_,trivial⟩ <;> (try dsimp only) <;> (refine' DI.dmk ?x ?y ?z ?w;case x | y | z | w=>k_is))
  (case zz=>refine' ⟨?_,?_,?_,?_,?_,?_,?_,?_,?_,?_,?_,?_,?_,?_,?_,?_,?_,trivial⟩ <;> show PySem.W.nsIn _ _ _ = some none <;> k_is)
  (case q0=>k_is);(case r0=>exact ⟨_,rfl⟩)
  (case e0=>k_is)
  (case xxB=>k_exc)
  (case e=>refine' ⟨?_,?_,?_,?_,?_,?_,?_,?_,?_,trivial⟩ <;> show PySem.W.nsIn _ _ _ = some (some _) <;> k_is)
  case c1 | c3 | c4 | c5 | c6 | c7 =>
   refine' ⟨⟨?x1,?x2,?x3,?x4,?x5,?x6,?x7,?x8,?x9,trivial⟩,?vv,?xx,?mb,?nb,?w1,?w2,?w3,?w4,?w5⟩
   case x1 | x2 | x3 | x4 | x5 | x6 | x7 | x8 | x9=>first | kit_is | (dsimp only;kit_is)
   case vv=>kit_is
   case xx=>k_exc
   case nb=>decide
   case mb | w1 | w2 | w3 | w4 | w5=>k_is
