import PyProof.Rows.All
import Wide.All
import OpenK.AllK
import Wide.FinOn
import Lean
import PyProof.EqAt
import PyProof.EqKinds
import PyProof.TupleCall
import PyProof.NeKinds
import PyProof.ZipIter
import PyProof.Draws
import PyProof.FactsAll.zip
import KE.KSortTup
import KE.KDictSum
import PyProof.TupleOfSeq
import PyProof.StrWalks
import PyProof.Rows.SetFrom
import KE.KRevIter
import PyProof.Rows.Range3
import KE.KTryMore
import KE.KIsNot
import PyProof.ExcArgsOwn
import PyProof.ExcAttrAll.ValueError
import PyProof.ExcBaseAll.ValueError
import PyProof.NsDelKeeps
import PyProof.Rows.CallKwBuiltin
import PyProof.WalkInts
import PyProof.Rows.Catch
import KE.KLam
import KE.KNestM
import PyProof.FactsAll.list_3
import KE.KDictList
import PyProof.Rows.CountFlat
import KE.KDictOf
import PyProof.AttrMissHeap
import PyProof.DictFindH
import PySem.Challenge.RW_twoglass_k53_gathered
set_option Elab.async false
set_option linter.all false
set_option maxRecDepth 100000
local macro_rules|`(tactic|omega)=>`(tactic|first|lia|omega (config:={}))
open List renaming filterMap_cons→PH,mem_cons_self→PJ,mem_cons_of_mem→PL,mem_append_left→PN,getElem?_set_self→PP,getElem?_set_ne→PQ,mem_append_right→PY,size_toArray→P0,length_cons→P5,map_cons→P6,length_map→P7,append_nil→Qa,of_mem_zip→Qc,length_take→Qd,getElem?_append_right→Qe,getElem?_replicate→Qf,getElem?_append_left→Qg,getElem?_map→Qh,mem_of_getElem?→Qi,length_append→Qj,length_drop→Ql,length_singleton→Qo,map_nil→Qq,find?_cons→Qr,any_cons→Qs,length_nil→Qv,nodup_nil→Qy,lookup_cons→Qz,forIn_cons→QA,cons_append→QE,take_zero→QG,take_nil→QH,take_succ_cons→QI,drop_zero→QJ,drop_succ_cons→QK,all_cons→QL,range_succ_eq_map→QM,all_map→QN,getElem?_eq_getElem→QO,getElem_of_mem→QS,nil_append→QT,map_congr_left→QU,map_append→QV,take_add_one→QW,length_range→QX,take_length→QY,getElem?_range→Ra,drop_eq_getElem_cons→Rb,append_assoc→Rf,drop_length→Rg,zipIdx_cons→Rh,mem_cons→Ri,not_mem_nil→Rj,getElem?_cons_zero→Rl,getElem?_cons_succ→Rm,zip_cons_cons→Rr,contains_cons→Rt,nodup_append→Rv,replicate_zero→Ry,zip_nil_right→Rz,replicate_succ→RA,foldl_cons→RB,not_lt_nil→RC,nil_lt_cons→RE,cons_lt_cons_iff→RG,filter_cons_of_pos→RH,filter_cons_of_neg→RJ,getElem_mem→RK,pairwise_map→RL,getD_eq_getElem?_getD→RM,map_map→RN,any_map→RO,mem_nil_iff→RP,toList_toArray→RT,getElem?_eq_none→RV,take_of_length_le→RW,mem_singleton→RX,find?_cons_of_pos→R4,find?_cons_of_neg→R5,drop_eq_nil_of_le→R6,set_cons_zero→R7,set_cons_succ→R8,foldl_append→Se,filter_append→Sf,take_succ_eq_append_getElem→Sg,take_left'→Si,length_filter_le→Sj,mem_of_mem_take→Sl,length_zipIdx→Sn,drop_left'→Ss,take_length_add_append→Su,map_id'→Sv,take_append_drop→Sw,flatMap_cons→Sx,take_append_of_le_length→Sy,flatMap_append→Sz,mem_of_mem_drop→SA,map_take→SD,map_drop→SE
open Int renaming fdiv_eq_ediv_of_nonneg→PZ,toNat_natCast→Qk,emod_nonneg→Sb,emod_lt_of_pos→Sd,toNat_of_nonneg→Sq
open Nat renaming lt_of_lt_of_le→Pz,lt_irrefl→PB,ne_of_lt→PC,le_trans→PD,le_of_lt→PF,ne_of_gt→PR,le_refl→PX,le_of_eq→P8,zero_le→P9,le_succ→Qb,lt_trans→Qx,lt_succ_of_lt→QC,min_self→QP,sub_zero→QZ,lt_of_le_of_lt→Rc,le_add_right→Rn,add_lt_add_left→Ro,lt_add_of_pos_right→Rp,zero_add→Rq,sub_self→Rx,lt_or_ge→RU,le_total→RY,min_eq_left→RZ,min_eq_right→R3
open Bool renaming false_and→PV,false_ne_true→P4,and_eq_true→Qm,and_false→Qp,true_or→Qt,false_or→Qu,false_eq_true→QB,and_true→QQ,or_eq_true→QR,or_eq_false_iff→Ru,not_true→R9,not_false→Sa,true_and→Sr
open Option renaming getD_none→Qn,isSome_map→Qw
open PySem renaming Value→T2,NameKind→T3,Addr→T5,Expr→T6,Stmt→T7,Shared→T8,World→T9,Program→Ua,Paired→Ub,Heap→Uc,sizeLine→Ud,mainGlobals→Ug,builtinsNs→Uh,bootBuiltins→Ui,Around→Uj,Scope→Uk,wpAny→Ul,starEach→Um,wpAny_mono→Uo,wpAny_Name→Uq,wpAny_truthy_bool→Ur,wpAny_execs_nil→Us,wpAny_pure→Ut,wpAny_bind→Uu,wpAny_pyIter_list→Uv,PassesOwn→Uw,foldedSetIterable→Ux,wpAny_passesOwn→Uy,binaryOp→Uz,compareOp→UA,CmpOp→UB,behindInMarks→UC,sizeLine_eq→UD,Result→UE,codeAny→UG,attributeBase→UH,callWith→UI,keywordEach→UJ,recursionLimit→UK,cLine→UL,FuncData→UM,BindsTo→UN,wpAny_call→UO,codeAny_mono→UP,wpAny_Call_Name_kw→UQ,Keyword→UR,wpAny_standAt→UT,Arguments→UU,concat_meets→UV,noFill_tuple_add→UW,seq_tuple_add→UX,IsPart→UY,wpAny_field→UZ,wpAny_holding→U0,wpAny_callSpecial?_slot→U1,wpAny_call_entry→U2,wpAny_typeOf→U3,wpAny_newObj_type→U4,evalPart_none→U5,tupleKind_room_in1→U7,wpAny_comprehension_free→U8,wpAny_rule→U9,wpAny_getItem_str_slice→Va,post_val_or_str→Vb,wpAny_seqItems→Vc,wpAny_setField→Ve,wpAny_of_eq→Vf,wpAny_handled→Vg,IsZip→Vh,IsPair→Vi,wpAny_setField_rec→Vj,wpAny_onRaise→Vk,wpAny_updateSeq_pair→Vl,wpAny_letGo→Vm,wpAny_newTuple→Vn,wpAny_attempt→Vo,wpAny_isInstance→Vp,isSubtype_stop→Vq,wpAny_newList→Vx,wpAny_collect_seq→Vy,codeAny_builtin→Vz,wpAny_tryCatch→VA,wpAny_updateSeq→VB,plainId_quiet→VC,wpAny_notOrdered_dict→VE,wpAny_dictEntries→VF,DictEntry→VG,wpAny_dictEpoch→VH,IsItemIter→VI,IsItemIterOut→VJ,wpAny_typeNameOfWhole_itemiter→VL,wpAny_typeNameOf_itemiter→VM,wpAny_fieldsOf→VN,wpAny_isOneOf_itemiter→VO,wpAny_typeNameOfWhole_keyiter→VP,wpAny_typeNameOf_keyiter→VQ
open PySem.W renaming instObj→SF,methodObj→SG,Frag→SH,lookIn→SJ,plainGet→SK,hasDictIn→SL,findIn→SM,handedIn→SN,plainGet_of→SR,isFn→SU,plainOver→SV,takerIn→SW,makesIn→SY,emptyDict→SZ,keepIn→S0,callWith_K→S4,cellsFrom_some→S5,fnOf→S6,codeIn→S7,nsIn→S8,kitOne→S9,kia_one→Tc,BoolBack→Td,tabObj→Te,OpenLaw→Tf,kdl_call→Tg,mg_of→Th,codeHdIn→Ti,kas_ask→Vs,kla_obj→VD
open PySem.Heap renaming lt_size→Tj,get?_none_of_le→Tl,SameBut→Tn,get?_push_of_some→To,get?_push_size→Tp,size_push→Tq,get?_update_other→Tr,get?_update_self→Ts,ExtBut→Tt,get?_push_ne→Tu,size_update→Tv,get?_update_ne→Tx
open PyProof.Rows renaming callWith_type1→Tz,slot_tuple_getitem→TB,envOfC→TC,IsTup→TF,Call_→TH,callWith_kw→TJ,boot_list→TL,boot_int→TN,boot_tuple→TQ,IsTup→Ue,Subscript_→U6,SortKind→Vr,listUpdate_at→Vu,get?_update_seq→Vv,seqEpoch_at→Vw
open PySem.F renaming slot_tuple_add→TR,entry_tuple_add→TU,args_tuple_add_2→TV,slot_dict_get→TY,entry_dict_get→TZ,args_dict_get_3→T1
set_option maxHeartbeats 1000000
local macro_rules | `(‹0›)=>`(by omega)
namespace L2
open PySem PySem.Spec PyProof.Rows
abbrev gH:=List (Option Nat)
abbrev cB:=Str->Option T2
abbrev pN:=List (Str×T3)
abbrev bf:=List (T5×Obj)
abbrev mj:=List (Str×T5)
abbrev bx:=List T6
abbrev eJ:=List T7
abbrev aU:=List T2
abbrev bQ:=List Bool
abbrev az:=List T5
abbrev dQ:=Option Int
abbrev dX:=Array T2
abbrev bh:=T2->T8->Prop
abbrev cP:=T8->Prop
abbrev ax:=List Str
abbrev Key:=Sum Int Str
abbrev cX:=List Key
def oM:Key->T2->Bool
 |.inl k,v=>Value.isInt k v
 |.inr x,v=>Value.isStrOf x v
def Mi(w:T9):Key->Int
 |.inl k=>hashInt k
 |.inr x=>hashStr w x
theorem cF:∀{k:Key}{v:T2},oM k v=true->(∃i t,k=Sum.inl i/\v=Value.int i t)\/(∃x t,k=Sum.inr x/\v=Value.str x t)
 |.inl i,v,h=>by
  obtain⟨t,e⟩:=Value.isInt_shape (k:=i) (v:=v) h;exact .inl ⟨i,t,rfl,e⟩
 |.inr x,v,h=>by
  obtain⟨t,e⟩:=Value.isStrOf_shape (x:=x) (v:=v) h;exact .inr ⟨x,t,rfl,e⟩
theorem zG(i:Int)(t:Tok):oM (.inl i) (.int i t)=true:=by simp[oM,Value.isInt]
theorem Aq(x:Str)(t:Tok):oM (.inr x) (.str x t)=true:=by simp[oM,Value.isStrOf]
theorem Jr(a b:Int):decide ((Sum.inl a:Key)=Sum.inl b)=(a==b):=by
 by_cases e:a=b
 ·subst e;simp
 ·have h:¬(Sum.inl a:Key)=Sum.inl b:=λq=>e (Sum.inl.inj q);rw[decide_eq_false h];exact(beq_eq_false_iff_ne.mpr e).symm
theorem JE(a b:Str):decide ((Sum.inr a:Key)=Sum.inr b)=decide (a=b):=by
 by_cases e:a=b
 ·subst e;simp
 ·have h:¬(Sum.inr a:Key)=Sum.inr b:=λq=>e (Sum.inr.inj q);rw[decide_eq_false h,decide_eq_false e]
theorem IL(a:Int)(b:Str):decide ((Sum.inl a:Key)=Sum.inr b)=false:=decide_eq_false (λq=>nomatch q)
theorem IV(a:Str)(b:Int):decide ((Sum.inr a:Key)=Sum.inl b)=false:=decide_eq_false (λq=>nomatch q)
def bN(prog:Ua)(w:T9):PySem.KeyKind prog w Key where
 is:=oM
 hash:=Mi w
 inj:=λv a b ha hb=>by
  rcases cF ha with⟨i,t,rfl,rfl⟩|⟨x,t,rfl,rfl⟩
  ·rcases cF hb with⟨j,u,rfl,e⟩|⟨y,u,rfl,e⟩
   ·injection e with e1 _;rw[e1]
   ·exact nomatch e
  ·rcases cF hb with⟨j,u,rfl,e⟩|⟨y,u,rfl,e⟩
   ·exact nomatch e
   ·injection e with e1 _;rw[e1]
 byValue:=λk v h=>by
  rcases cF h with⟨i,t,rfl,rfl⟩|⟨x,t,rfl,rfl⟩<;>rfl
 pyHash:=λhv h=>by
  rcases cF hv with⟨i,t,rfl,rfl⟩|⟨x,t,rfl,rfl⟩
  ·exact wpAny_pyHash_int h
  ·exact wpAny_pyHash_str h
 eqBool:=λhu hv h=>by
  rcases cF hu with⟨i,t,rfl,rfl⟩|⟨x,t,rfl,rfl⟩
  ·rcases cF hv with⟨j,u,rfl,rfl⟩|⟨y,u,rfl,rfl⟩
   ·rw[Jr]at h;exact wpAny_eqBool_int h
   ·rw[IL]at h;exact SeqAt.EqAt.int_str i t y u _ _ _ _ h
  ·rcases cF hv with⟨j,u,rfl,rfl⟩|⟨y,u,rfl,rfl⟩
   ·rw[IV]at h;exact SeqAt.EqAt.str_int x t j u _ _ _ _ h
   ·rw[JE]at h;exact wpAny_eqBool_str h
 «strs»:=λk x t v h=>by
  rcases cF h with⟨i,u,rfl,e⟩|⟨y,u,rfl,e⟩
  ·exact nomatch e
  ·injection e with e1 _;subst e1;cases v<;>rfl
theorem xK(prog:Ua)(w:T9)(k:Key)(v:T2):(bN prog w).is k v=oM k v:=rfl
theorem uY(prog:Ua)(w:T9)(i:Int)(t:Tok):(bN prog w).is (.inl i) (.int i t)=true:=zG i t
theorem vp(prog:Ua)(w:T9)(x:Str)(t:Tok):(bN prog w).is (.inr x) (.str x t)=true:=Aq x t
inductive V where
 |non|bl (b:Bool)|int (i:Int)|str (x:Str)|byt (b:Array UInt8)|flt (b:UInt64)|ref (a:T5)|ty (n:String)
 deriving DecidableEq
abbrev aJ:=List V
def RelV:V->T2->Prop
 |.non,u=>u=Value.none
 |.bl b,u=>u=Value.bool b
 |.int i,u=>∃t,u=Value.int i t
 |.str x,u=>∃t,u=Value.str x t
 |.byt b,u=>∃t,u=Value.bytes b t
 |.flt b,u=>∃t,u=Value.float b t
 |.ref a,u=>u=Value.ref a
 |.ty n,u=>u=Value.type n
abbrev Vals:aJ->aU->Prop:=Ub RelV
theorem Vals.length{xs:aJ}{us:aU}(r:Vals xs us):xs.length=us.length:=Paired.length r
theorem Vals.get:∀{xs:aJ}{us:aU}{i:Nat}{x:V},Vals xs us->xs[i]?=some x->∃u,us[i]?=some u/\RelV x u
 |_,_,_,_,.nil,e=>by simp at e
 |_,_,0,_,.cons r _,e=>by simp at e;subst e;exact⟨_,rfl,r⟩
 |_,_,i+1,x,.cons _ t,e=>by
  obtain⟨u,h1,h2⟩:=Vals.get (i:=i) (x:=x) t (by simpa using e);exact⟨u,by simpa using h1,h2⟩
theorem Vals.append:∀{xs ys:aJ}{us ws:aU},Vals xs us->Vals ys ws->Vals (xs++ys) (us++ws)
 |_,_,_,_,.nil,s=>s
 |_,_,_,_,.cons r t,s=>.cons r (Vals.append t s)
theorem Vals.take:∀{xs:aJ}{us:aU}(n:Nat),Vals xs us->Vals (xs.take n) (us.take n)
 |_,_,0,_=>.nil
 |_,_,_+1,.nil=>.nil
 |_,_,n+1,.cons r t=>.cons r (Vals.take n t)
theorem Vals.drop:∀{xs:aJ}{us:aU}(n:Nat),Vals xs us->Vals (xs.drop n) (us.drop n)
 |_,_,0,r=>r
 |_,_,_+1,.nil=>.nil
 |_,_,n+1,.cons _ t=>Vals.drop n t
def oR:Option V->Option T2->Prop
 |some v,some u=>RelV v u
 |none,none=>True
 |_,_=>False
def KV{κ:Type}:List (κ×V)->List (κ×T2)->Prop:=Ub λ(p:κ×V)(q:κ×T2)=>p.1=q.1/\RelV p.2 q.2
def kV:Key->V
 |.inl i=>.int i
 |.inr x=>.str x
inductive HO where
  |lst (xs:aJ)
  |tup (xs:aJ)
  |dK (kvs:List (Key×V))|dT (kvs:List (List Key×V))
  |set (S:Int->Bool) (n:Nat)
  |ins (C dx:T5) (fs:List (Str×V))
  |own (x:T5)
  |xd (fs:List (Str×V))
  |met (f x:T5)
  |rng (lo hi:Int)
  |frz (o:Obj) (u:HO)
  |tbl (ps:dX)
  |ext (φ:(T5->Prop)->Uc->Prop)
abbrev Hp:=T5->Option HO
def upd(H:Hp)(a:T5)(o:HO):Hp:=λb=>if b=a then some o else H b
theorem ay{H:Hp}{a:T5}{o:HO}:upd H a o a=some o:=by unfold upd;rw[if_pos rfl]
theorem ao{H:Hp}{a b:T5}{o:HO}(h:b≠a):upd H a o b=H b:=by unfold upd;rw[if_neg h]
theorem CO{H:Hp}{a b:T5}{o u:HO}(h:H a=some o)(h':H b=some u)(d:o≠u):a≠b:=by
 intro e;subst e;rw[h]at h';exact d (Option.some.inj h')
theorem aE{H:Hp}{a b:T5}{o:HO}(h:H a=some o)(h':H b=none):a≠b:=by
 intro e;subst e;rw[h]at h';cases h'
section
variable(P:Ua)(w:T9)
def b9(H:Hp)(h:Uc)(a:T5):HO->Prop
 |.lst xs=>xs.length<=Ud/\∃(its:aU)(n:Nat),Vals xs its/\h.get? a=some {cls:=.type "list",data:=.seq its.toArray n}
 |.tup xs=>xs.length<=Ud/\∃its:aU,Vals xs its/\Ue h a its.toArray
 |.dK kvs=>kvs.length<=Ud/\(a==sysModules)=false/\∃vs,KV kvs vs/\h.DictOf (bN P w) a vs
 |.dT kvs=>kvs.length<=Ud/\(a==sysModules)=false/\∃xs:List (List Key×T5×T2),
   Ub (λ(p:List Key×V)(q:List Key×T5×T2)=>p.1=q.1/\H q.2.1=some (.tup (p.1.map kV))/\RelV p.2 q.2.2) kvs xs/\
   ∃o es ep,h.get? a=some o/\o.ExactDict/\o.data=.dict es ep/\es.toList=xs.map (entryOfKey (tupleKind (bN P w)))/\(xs.map (·.1)).Nodup
 |.set S n=>h.SetOf (intKind P w) a S n
 |.ins C dx fs=>H dx=some (.own a)/\fs.length<=1000/\dx≠a/\h.get? a=some (SF C dx)/\
   ∃mA,h.Ns1 dx mA/\(∀f,oR (fs.lookup f) (mA f))/\PySem.Within mA (fs.map (·.1))
 |.own _=>∃o,h.get? a=some o
 |.xd fs=>∃mA,h.Ns1 a mA/\∀f,oR (fs.lookup f) (mA f)
 |.rng lo hi=>∃t u v,h.get? a=some {cls:=.type "range",data:=.fields #[.int lo t,.int hi u,.int 1 v]}
 |.frz o u=>h.get? a=some o/\b9 H h a u
 |.tbl ps=>h.get? a=some {cls:=.none,data:=.fields ps}
 |.met f x=>h.get? a=some (SG (.ref f) (.ref x))
 |.ext φ=>φ (λb=>H b=some (.own a)) h/\(∃o,h.get? a=some o)/\∀(S1 S2:T5->Prop)(h1 h2:Uc),φ S1 h1->(∀b,S1 b->S2 b)->(∀b o,(b=a\/S1 b)->h1.get? b=some o->h2.get? b=some o)->φ S2 h2
def mz(H:Hp)(h:Uc):Prop:=∀a o,H a=some o->b9 P w H h a o
end
section
variable{P:Ua}{w:T9}{H H':Hp}{h h':Uc}{a:T5}{o:HO}
theorem b9.lt(x:b9 P w H h a o):a<h.objs.size:=by
 cases o with
 |lst xs=>obtain⟨_,_,_,_,e⟩:=x;exact Tj e
 |tup xs=>obtain⟨_,_,_,p⟩:=x;exact p.lt
 |dK kvs=>obtain⟨_,_,_,_,o,_,_,e,_⟩:=x;exact Tj e
 |dT kvs=>obtain⟨_,_,_,_,o,_,_,e,_⟩:=x;exact Tj e
 |set S n=>obtain⟨o,_,_,_,e,_⟩:=x;exact Tj e
 |ins C dx fs=>obtain⟨_,_,_,e,_⟩:=x;exact Tj e
 |own y=>obtain⟨_,e⟩:=x;exact Tj e
 |xd fs=>obtain⟨_,⟨_,_,_,e,_⟩,_⟩:=x;exact Tj e
 |rng lo hi=>obtain⟨_,_,_,e⟩:=x;exact Tj e
 |frz ob u=>obtain⟨e,_⟩:=x;exact Tj e
 |tbl ps=>exact Tj (show h.get? a=some _ from x)
 |met f y=>exact Tj (show h.get? a=some _ from x)
 |ext φ=>obtain⟨_,⟨_,e⟩,_⟩:=x;exact Tj e
theorem Paired.mapP{α β:Type}{F G:α->β->Prop}:∀{l₁:List α}{l₂:List β},Ub F l₁ l₂->(∀a b,F a b->G a b)->Ub G l₁ l₂
 |_,_,.nil,_=>.nil
 |_,_,.cons r t,f=>.cons (f _ _ r) (Paired.mapP t f)
theorem b9.stay(x:b9 P w H h a o)(k:∀b u,(b=a\/H b=some (.own a))->h.get? b=some u->h'.get? b=some u)
  (ho:∀b,H b=some (.own a)->H' b=some (.own a)) (ht:∀b xs,H b=some (.tup xs)->H' b=some (.tup xs)):b9 P w H' h' a o:=by
 induction o with
 |lst xs=>obtain⟨z,its,n,r,e⟩:=x;exact⟨z,its,n,r,k _ _ (.inl rfl) e⟩
 |tup xs=>obtain⟨z,its,r,ob,e,c⟩:=x;exact⟨z,its,r,ob,k _ _ (.inl rfl) e,c⟩
 |dK kvs=>obtain⟨z,y,vs,r,ob,es,ep,e,c⟩:=x;exact⟨z,y,vs,r,ob,es,ep,k _ _ (.inl rfl) e,c⟩
 |dT kvs=>
  obtain⟨z,y,xs,r,ob,es,ep,e,c⟩:=x;exact⟨z,y,xs,Paired.mapP r λp q z=>⟨z.1,ht _ _ z.2.1,z.2.2⟩,ob,es,ep,k _ _ (.inl rfl) e,c⟩
 |set S n=>obtain⟨ob,es,ep,t,e,c⟩:=x;exact⟨ob,es,ep,t,k _ _ (.inl rfl) e,c⟩
 |ins C dx fs=>
  obtain⟨d,z,ne,e,mA,⟨od,es,ep,e2,c⟩,r⟩:=x;exact⟨ho _ d,z,ne,k _ _ (.inl rfl) e,mA,⟨od,es,ep,k _ _ (.inr d) e2,c⟩,r⟩
 |own y=>obtain⟨ob,e⟩:=x;exact⟨ob,k _ _ (.inl rfl) e⟩
 |xd fs=>obtain⟨mA,⟨od,es,ep,e,c⟩,r⟩:=x;exact⟨mA,⟨od,es,ep,k _ _ (.inl rfl) e,c⟩,r⟩
 |rng lo hi=>obtain⟨t,u,v,e⟩:=x;exact⟨t,u,v,k _ _ (.inl rfl) e⟩
 |frz ob u ih=>obtain⟨e,q⟩:=x;exact⟨k _ _ (.inl rfl) e,ih q⟩
 |tbl ps=>
  have e:h.get? a=some {cls:=.none,data:=.fields ps}:=x;show h'.get? a=some {cls:=.none,data:=.fields ps};exact k a _ (.inl rfl) e
 |met f y=>
  have e:h.get? a=some (SG (.ref f) (.ref y)):=x;show h'.get? a=some (SG (.ref f) (.ref y));exact k a _ (.inl rfl) e
 |ext φ=>obtain⟨p,⟨o,e⟩,st⟩:=x;exact⟨st _ _ _ _ p ho k,⟨o,k _ _ (.inl rfl) e⟩,st⟩
theorem mz.lt(x:mz P w H h)(e:H a=some o):a<h.objs.size:=(x a o e).lt
theorem mz.fresh(x:mz P w H h)(e:h.objs.size<=a):H a=none:=by
 cases q:H a with
 |none=>rfl
 |some u=>exact absurd (Pz (x.lt q) e) (PB _)
theorem mz.kept(x:mz P w H h)(k:∀b u,h.get? b=some u->h'.get? b=some u):mz P w H h':=λa o e=>
 (x a o e).stay (λb u _ q=>k b u q) (λ_ q=>q) λ_ _ q=>q
theorem mz.laid(x:mz P w H h)(k:∀b u,h.get? b=some u->h'.get? b=some u)(hp:h.objs.size<=a)(new:b9 P w (upd H a o) h' a o):mz P w (upd H a o) h':=λb u e=>by
 have hn:=x.fresh hp;by_cases hb:b=a
 ·subst hb;rw[ay]at e;cases e;exact new
 ·rw[ao hb]at e;exact(x b u e).stay (λc v _ q=>k c v q) (λc q=>by rw[ao (aE q hn)];exact q) λc xs q=>by rw[ao (aE q hn)];exact q
end
def Rd(H:Hp)(a:T5)(u:HO):Prop:=H a=some u\/∃o,H a=some (.frz o u)
theorem Rd.ok{P:Ua}{w:T9}{H:Hp}{h:Uc}{a:T5}{u:HO}(r:Rd H a u)(x:mz P w H h):b9 P w H h a u:=by
 rcases r with r|⟨o,r⟩
 ·exact x a u r
 ·obtain⟨_,q⟩:=x a _ r;exact q
def Ly:Option HO->Prop
 |some (.lst _)=>True
 |some (.dK _)=>True
 |some (.dT _)=>True
 |some (.set _ _)=>True
 |some (.ins _ _ _)=>True
 |some (.ext _)=>True
 |_=>False
section
variable{P:Ua}{w:T9}{H:Hp}{h h':Uc}{x e:T5}{o':HO}
theorem mz.write(ok:mz P w H h)(mu:Ly (H x))(he:e=x\/H e=some (.own x))(k:∀b u,b≠e->h.get? b=some u->h'.get? b=some u)(heo:∃u,h'.get? e=some u)
  (new:b9 P w (upd H x o') h' x o'):mz P w (upd H x o') h':=λb u q=>by
 have nown:∀c y,H c=some (.own y)->c≠x:=λc y r z=>by subst z;rw[r]at mu;exact mu
 have ntup:∀c xs,H c=some (.tup xs)->c≠x:=λc xs r z=>by subst z;rw[r]at mu;exact mu
 by_cases hb:b=x
 ·subst hb;rw[ay]at q;cases q;exact new
 ·rw[ao hb]at q;by_cases hbe:b=e
  ·have q':H b=some (.own x):=by
    rcases he with z|z
    ·exact absurd (hbe.trans z) hb
    ·rw[hbe];exact z
   rw[q]at q';cases q';obtain⟨v,hv⟩:=heo;exact⟨v,by rw[hbe];exact hv⟩
  ·refine(ok b u q).stay (λc v hc r=>k c v ?_ r) (λc r=>by rw[ao (nown c b r)];exact r) λc xs r=>by rw[ao (ntup c xs r)];exact r
   rcases hc with rfl|hc
   ·exact hbe
   ·rintro rfl;rcases he with z|z
    ·exact nown c b hc z
    ·rw[hc]at z;cases z;exact hb rfl
end
structure Un(fs ex:az)(H H':Hp)(h h':Uc):Prop where
 keep:∀b o,h.get? b=some o->H b=none->b∉fs->b∉ex->h'.get? b=some o
 slot:∀b o,h.get? b=some o->H b=none->b∈fs->b∉ex->∃sl,h'.get? b=some {o with slots:=sl}
 free:∀b o,h.get? b=some o->H b=none->b∉ex->H' b=none
 there:∀b o,h.get? b=some o->b∉ex->∃o',h'.get? b=some o'
 tups:∀b xs,H b=some (.tup xs)->H' b=some (.tup xs)
 frzs:∀b o u,H b=some (.frz o u)->H' b=some (.frz o u)
 tbls:∀b ps,H b=some (.tbl ps)->∃more,H' b=some (.tbl (ps++more))
section
variable{fs fs' ex ex':az}{H H1 H2:Hp}{h h1 h2 h':Uc}{a x e:T5}{o:HO}
theorem Un.any(u:Un fs ex H H1 h h1){b:T5}{ob:Obj}(q:h.get? b=some ob)(n:H b=none)(hx:b∉ex):∃sl,h1.get? b=some {ob with slots:=sl}:=by
 by_cases hb:b∈fs
 ·exact u.slot b ob q n hb hx
 ·exact⟨ob.slots,u.keep b ob q n hb hx⟩
theorem Un.kept(k:∀b u,h.get? b=some u->h'.get? b=some u):Un fs ex H H h h':=
 ⟨λb ob q _ _ _=>k b ob q,λb ob q _ _ _=>⟨ob.slots,k b ob q⟩,λ_ _ _ n _=>n,λb ob q _=>⟨ob,k b ob q⟩,λ_ _ q=>q,λ_ _ _ q=>q,λ_ ps q=>⟨#[],by rw[q];simp⟩⟩
theorem Un.refl:Un fs ex H H h h:=Un.kept λ_ _ q=>q
theorem Un.laid(k:∀b u,h.get? b=some u->h'.get? b=some u)(hp:h.objs.size<=a)(hn:H a=none):Un fs ex H (upd H a o) h h' where
 keep:=λb u q _ _ _=>k b u q
 slot:=λb u q _ _ _=>⟨u.slots,k b u q⟩
 free:=λb u q n _=>by rw[ao (PC (Pz (Tj q) hp))];exact n
 there:=λb u q _=>⟨u,k b u q⟩
 tups:=λb xs q=>by rw[ao (aE q hn)];exact q
 frzs:=λb u xs q=>by rw[ao (aE q hn)];exact q
 tbls:=λb ps q=>⟨#[],by rw[ao (aE q hn),q];simp⟩
theorem Un.write(mu:Ly (H x))(he:e=x\/H e=some (.own x))(k:∀b u,b≠e->h.get? b=some u->h'.get? b=some u)(heo:∃u,h'.get? e=some u):Un fs ex H (upd H x o) h h':=by
 have hx:∀b,H b=none->b≠x:=λb n z=>by subst z;rw[n]at mu;exact mu
 have hb:∀b,H b=none->b≠e:=λb n z=>by
  subst z;rcases he with r|r
  ·exact hx b n r
  ·rw[n]at r;cases r
 have hm:∀b u,H b=some u->¬Ly (some u)->b≠x:=λb u q nm z=>by subst z;rw[q]at mu;exact nm mu
 refine⟨λb u q n _ _=>k b u (hb b n) q,λb u q n _ _=>⟨u.slots,k b u (hb b n) q⟩,λb u q n _=>by rw[ao (hx b n)];exact n,λb u q _=>?_,
  λb xs q=>by rw[ao (hm b _ q λz=>z)];exact q,λb u xs q=>by rw[ao (hm b _ q λz=>z)];exact q,λb ps q=>⟨#[],by rw[ao (hm b _ q λz=>z),q];simp⟩⟩
 by_cases hbe:b=e
 ·subst hbe;exact heo
 ·exact⟨u,k b u hbe q⟩
end
def LX(h:Uc)(H:Hp):az:=(List.range h.objs.size).filter λa=>(H a).isSome
def t7(h:Uc)(H:Hp):Uc:=PySem.W.hideAll h (LX h H)
theorem zx(h:Uc)(H:Hp):(t7 h H).objs.size=h.objs.size:=PySem.W.hideAll_size _ _
theorem qI{h:Uc}{H:Hp}{b:T5}{o:Obj}(e:h.get? b=some o)(n:H b=none):(t7 h H).get? b=some o:=
 PySem.W.hideAll_get _ e λhm=>by
  have q:(H b).isSome=true:=(List.mem_filter.mp hm).2;rw[n]at q;simp at q
theorem E5{h:Uc}{H:Hp}{b:T5}{o:Obj}(e:(t7 h H).get? b=some o):h.get? b=some o/\H b=none:=by
 have e':h.get? b=some o:=PySem.W.of_hideAll (LX h H) e;refine⟨e',?_⟩;cases q:H b with
 |none=>rfl
 |some x=>
  have hm:b∈LX h H:=List.mem_filter.mpr ⟨List.mem_range.mpr (Tj e'),by simp[q]⟩;have z:(t7 h H).get? b=none:=PySem.W.hideAll_none (LX h H) hm;rw[z]at e;cases e
def GJ(g h:Uc)(L:T5):bf:=(List.range h.objs.size).filterMap λa=>if a=L\/(g.get? a).isSome=true then none else(h.get? a).map λo=>(a,o)
def rest(g h:Uc)(L d:T5):bf:=(GJ g h L).filter λp=>decide (p.1≠d)
structure Mod(K:SH)(mg:cB)(base:Uc):Prop where
 kin:K.In base
 glob:base.Ns Ug mg
 blt:∃mb,base.Ns Uh mb/\∀x:Str,x≠"__name__"->mb x=Ui x
 nolimit:base.NoLimit
structure Cx where
 prog:Ua
 w:T9
 K:SH
 mg:cB
 base:Uc
 A:Uj
 N:ax
 s₀:T8
 H₀:Hp
 env:Env
 outer:List Env
 stack:List Env
 ex:az
 fn:Str->Bool
 calm:Bool
 pn:bf
 xe:bh
def frs(l:List Env):az:=l.filterMap (·.frame)
abbrev Cx.fs(X:Cx):az:=frs X.outer
def Ij(sc:Uk)(x:Str):Prop:=sc.names.lookup x=some .local\/sc.names.lookup x=some .cell\/sc.names.lookup x=some .free
def Loc(sc:Uk)(x:Str):Prop:=sc.names.lookup x=some .local\/sc.names.lookup x=some .cell
def Look(env:Env)(h:Uc)(m:cB)(x:Str)(u:T2):Prop:=
 (env.kindOf x=some .local/\m x=some u)\/((env.kindOf x=some .cell\/env.kindOf x=some .free)/\∃c,env.cells.lookup x=some c/\h.IsCell c (some u))
structure Cx.Ok(X:Cx):Prop where
 mod:Mod X.K X.mg X.base
 kind:X.env.scope.kind=.function
 glob:X.env.globals=Ug
 blt:X.env.builtins=Uh
 above:X.s₀.heap.objs.size<=X.env.locals
 inj:∀x y c,X.env.cells.lookup x=some c->X.env.cells.lookup y=some c->x=y
 has:∀x,(X.env.kindOf x=some .cell\/X.env.kindOf x=some .free)->∃c,X.env.cells.lookup x=some c
 cab:∀x c,X.fn x=true->X.env.cells.lookup x=some c->X.s₀.heap.objs.size<=c
 hd:X.calm=true->X.A.handled=none
 frames:X.A.frames=some X.stack
 stk:X.stack=X.outer\/(X.stack=X.env::X.outer/\X.env.frame=some X.env.locals)
 exf:∀b∈X.ex,b≠X.env.locals/\∀x c,X.env.cells.lookup x=some c->c≠b
 bs:∀b o,X.base.get? b=some o->X.s₀.heap.get? b=some o/\X.H₀ b=none
 bsz:X.base.objs.size<=X.s₀.heap.objs.size
 noex:∀b o,X.base.get? b=some o->b∉X.ex
 exfs:∀b∈X.ex,b∉X.fs
 funs:X.s₀.heap.FunFrames X.base X.outer
 frf:∀b∈X.fs,X.H₀ b=none
structure Inv(X:Cx)(pins:bf)(σ:List (Option V))(H:Hp)(s:T8):Prop where
 ok:X.Ok
 os:s.os=X.s₀.os
 bare:AllBare s.gens
 base:Un X.fs X.ex X.H₀ H X.s₀.heap s.heap
 loc:∃m,s.heap.Ns X.env.locals m/\∀(i:Nat)(x:Str)(v:V),X.N[i]?=some x->σ[i]?=some (some v)->Ij X.env.scope x->∃u,RelV v u/\Look X.env s.heap m x u
 cell:∀x c,X.env.cells.lookup x=some c->∃v,s.heap.IsCell c v
 free:H X.env.locals=none
 freeC:∀x c,X.env.cells.lookup x=some c->H c=none
 pin:∀p∈X.pn++pins,s.heap.get? p.1=some p.2/\H p.1=none/\p.1≠X.env.locals/\p.1∉X.fs/\∀v,p.2.data≠.cell v
 hok:mz X.prog X.w H s.heap
 len:σ.length=X.N.length
section
variable{X:Cx}{pins:bf}{σ:List (Option V)}{H H':Hp}{s:T8}{h':Uc}
theorem Cx.Ok.nofr(ok:X.Ok){b:T5}{o:Obj}(e:X.base.get? b=some o):b∉X.fs:=λhb=>by
 have:=(ok.funs.mem hb).1
 rw[e]at this;cases this
theorem Inv.bs(I:Inv X pins σ H s):∀b o,X.base.get? b=some o->s.heap.get? b=some o/\H b=none:=λb o e=>
 ⟨I.base.keep b o (I.ok.bs b o e).1 (I.ok.bs b o e).2 (I.ok.nofr e) (I.ok.noex b o e),I.base.free b o (I.ok.bs b o e).1 (I.ok.bs b o e).2 (I.ok.noex b o e)⟩
theorem Inv.bk(I:Inv X pins σ H s):∀b o,X.base.get? b=some o->s.heap.get? b=some o:=λb o e=>(I.bs b o e).1
theorem Inv.mod(I:Inv X pins σ H s):Mod X.K X.mg X.base:=I.ok.mod
theorem Inv.kIn(I:Inv X pins σ H s):X.K.In s.heap:=I.ok.mod.kin.keeps I.bk
theorem Inv.nolimit(I:Inv X pins σ H s):s.heap.NoLimit:=I.ok.mod.nolimit.keeps I.bk
theorem Inv.lt(I:Inv X pins σ H s):X.env.locals<s.heap.objs.size:=let ⟨_,hn,_⟩:=I.loc;hn.lt
theorem Inv.sz(I:Inv X pins σ H s):X.s₀.heap.objs.size<=s.heap.objs.size:=PD I.ok.above (PF I.lt)
theorem Inv.nofs(I:Inv X pins σ H s){a:T5}(h:s.heap.objs.size<=a):a∉X.fs:=λhb=>by
 obtain⟨_,o,ho,_⟩:=I.ok.funs.mem hb;exact absurd (Pz (Tj ho) (PD I.sz h)) (PB _)
theorem Inv.cne(I:Inv X pins σ H s):∀x c,X.env.cells.lookup x=some c->c≠X.env.locals:=λx c e z=>by
 obtain⟨v,o,ho,hd⟩:=I.cell x c e;obtain⟨m,⟨o',es,ep,ho',hd',_⟩,_⟩:=I.loc;rw[z,ho']at ho;cases ho;rw[hd']at hd;cases hd
theorem Inv.funs(I:Inv X pins σ H s):s.heap.FunFrames X.base X.outer:=by
 have all:∀(l:List Env),(∀b∈frs l,b∈X.fs)->X.s₀.heap.FunFrames X.base l->s.heap.FunFrames X.base l:=by
  intro l
  induction l with
  |nil=>intro _ _;trivial
  |cons env r ih=>
   intro hs hl;obtain⟨hk,⟨L,o,hf,hn,ho,hd⟩,hr⟩:=hl;have hL:L∈X.fs:=hs L (by unfold frs;rw[PH,hf];exact PJ);obtain⟨sl,e⟩:=I.base.slot L o ho (I.ok.frf L hL) hL λz=>I.ok.exfs L z hL;exact⟨hk,⟨L,_,hf,hn,e,hd⟩,ih (λb hb=>hs b (by unfold frs;rw[PH,hf];exact PL _ hb)) hr⟩
 exact all X.outer (λ_ hb=>hb) I.ok.funs
theorem Inv.stack(I:Inv X pins σ H s):s.heap.FunFrames X.base X.stack:=by
 rcases I.ok.stk with e|⟨e,hf⟩
 ·rw[e];exact I.funs
 ·rw[e];obtain⟨m,hn,_⟩:=I.loc;refine .cons (by rw[I.ok.kind];decide) hf hn ?_ I.funs;exact Tl (PD I.ok.bsz I.ok.above)
theorem Inv.stkSub(I:Inv X pins σ H s):∀b∈frs X.stack,b∈X.env.locals::X.fs:=λb hb=>by
 rcases I.ok.stk with e|⟨e,hf⟩
 ·rw[e]at hb;exact PL _ hb
 ·rw[e]at hb;unfold frs at hb;rw[PH,hf]at hb;exact hb
theorem Inv.stkFree(I:Inv X pins σ H s):∀b∈frs X.stack,H b=none:=λb hb=>by
 rcases List.mem_cons.mp (I.stkSub b hb)with e|hb
 ·rw[e];exact I.free
 ·obtain⟨_,o,ho,_⟩:=I.ok.funs.mem hb;exact I.base.free b o ho (I.ok.frf b hb) λz=>I.ok.exfs b z hb
theorem Inv.step{g':Array GenState}{t':Nat}{d':Drawn}{ch:az}(I:Inv X pins σ H s)
  (hch:∀b∈ch,(b∈X.ex\/X.s₀.heap.objs.size<=b)/\b≠X.env.locals/\(∀x c,X.env.cells.lookup x=some c->c≠b)/\∀p∈X.pn++pins,p.1≠b)
  (keep:∀b o,b≠X.env.locals->b∉X.fs->b∉ch->s.heap.get? b=some o->H b=none->h'.get? b=some o)
  (slot:∀b o,b≠X.env.locals->b∈X.fs->b∉ch->s.heap.get? b=some o->H b=none->∃sl,h'.get? b=some {o with slots:=sl}) (free:∀b o,b∉ch->s.heap.get? b=some o->H b=none->H' b=none)
  (there:∀b o,b∉ch->s.heap.get? b=some o->∃o',h'.get? b=some o')
  (tups:∀b xs,H b=some (.tup xs)->H' b=some (.tup xs)) (frzs:∀b o u,H b=some (.frz o u)->H' b=some (.frz o u)) (tbls:∀b ps,H b=some (.tbl ps)->∃more,H' b=some (.tbl (ps++more)))
  (ns:∀m,s.heap.Ns X.env.locals m->h'.Ns X.env.locals m) (hok:mz X.prog X.w H' h') (hg:AllBare g'):
  Inv X pins σ H' {s with heap:=h',gens:=g',drawn:=d',toks:=t'}:=by
 have neL:∀b o,X.s₀.heap.get? b=some o->b≠X.env.locals:=λb o e=>PC (Pz (Tj e) I.ok.above);have neC:∀b o,X.s₀.heap.get? b=some o->b∉X.ex->b∉ch:=λb o e hx hb=>by
  rcases(hch b hb).1 with z|z
  ·exact hx z
  ·exact absurd (Pz (Tj e) z) (PB _)
 have cellK:∀x c,X.env.cells.lookup x=some c->∀v,s.heap.IsCell c v->h'.IsCell c v:=λx c e v ⟨o,ho,hd⟩=>by
  have nch:c∉ch:=λz=>(hch c z).2.2.1 x c e rfl;by_cases hc:c∈X.fs
  ·obtain⟨sl,q⟩:=slot c o (I.cne x c e) hc nch ho (I.freeC x c e);exact⟨_,q,hd⟩
  ·exact⟨o,keep c o (I.cne x c e) hc nch ho (I.freeC x c e),hd⟩
 refine⟨I.ok,I.os,hg,⟨λb o e n hb hx=>?_,λb o e n hb hx=>?_,λb o e n hx=>?_,λb o e hx=>?_,λb xs e=>tups b xs (I.base.tups b xs e),λb o xs e=>frzs b o xs (I.base.frzs b o xs e),λb ps e=>?_⟩,?_,λx c e=>?_,?_,λx c e=>?_,λp hp=>?_,hok,I.len⟩
 ·exact keep b o (neL b o e) hb (neC b o e hx) (I.base.keep b o e n hb hx) (I.base.free b o e n hx)
 ·obtain⟨sl,e1⟩:=I.base.slot b o e n hb hx;obtain⟨sl',e2⟩:=slot b _ (neL b o e) hb (neC b o e hx) e1 (I.base.free b o e n hx);exact⟨sl',e2⟩
 ·obtain⟨o',e1⟩:=I.base.there b o e hx;exact free b o' (neC b o e hx) e1 (I.base.free b o e n hx)
 ·obtain⟨o',e1⟩:=I.base.there b o e hx;exact there b o' (neC b o e hx) e1
 ·obtain⟨m1,e1⟩:=I.base.tbls b ps e;obtain⟨m2,e2⟩:=tbls b _ e1;exact⟨m1++m2,by rw[e2,Array.append_assoc]⟩
 ·obtain⟨m,hn,hl⟩:=I.loc;refine⟨m,ns m hn,λi x v e1 e2 e3=>?_⟩;obtain⟨u,r,l⟩:=hl i x v e1 e2 e3;refine⟨u,r,?_⟩;rcases l with l|⟨k,c,e,z⟩
  ·exact .inl l
  ·exact .inr ⟨k,c,e,cellK x c e _ z⟩
 ·obtain⟨v,z⟩:=I.cell x c e;exact⟨v,cellK x c e v z⟩
 ·obtain⟨m,⟨o,_,_,ho,_⟩,_⟩:=I.loc;exact free _ o (λz=>(hch _ z).2.1 rfl) ho I.free
 ·obtain⟨v,o,ho,hd⟩:=I.cell x c e;exact free c o (λz=>(hch c z).2.2.1 x c e rfl) ho (I.freeC x c e)
 ·obtain⟨e,n,ne,nf,d⟩:=I.pin p hp;have nch:p.1∉ch:=λz=>(hch p.1 z).2.2.2 p hp rfl;exact⟨keep p.1 p.2 ne nf nch e n,free p.1 p.2 nch e n,ne,nf,d⟩
theorem Inv.un{t':Nat}(I:Inv X pins σ H s)(u:Un X.fs [] H H' s.heap h')(hok:mz X.prog X.w H' h'):Inv X pins σ H' {s with heap:=h',toks:=t'}:=by
 obtain⟨m,⟨o,es,ep,ho,r⟩,_⟩:=id I.loc;obtain⟨sl,hL⟩:=u.any ho I.free (by simp);exact I.step (g':=s.gens) (d':=s.drawn) (ch:=[]) (λ_ z=>nomatch z) (λb o _ hb _ e n=>u.keep b o e n hb (by simp)) (λb o _ hb _ e n=>u.slot b o e n hb (by simp)) (λb o _ e n=>u.free b o e n (by simp)) (λb o _ e=>u.there b o e (by simp)) u.tups u.frzs u.tbls (λm' hm=>by
  obtain⟨o',es',ep',ho',r'⟩:=hm;rw[ho]at ho';cases ho';exact⟨_,es',ep',hL,r'⟩) hok I.bare
theorem Inv.call{g':Array GenState}{t':Nat}{d':Drawn}{ch:az}(I:Inv X pins σ H s)(u:Un (frs X.stack) ch H H' s.heap h')(hok:mz X.prog X.w H' h')(hg:AllBare g')
  (hch:∀b∈ch,(b∈X.ex\/X.s₀.heap.objs.size<=b)/\b≠X.env.locals/\(∀x c,X.env.cells.lookup x=some c->c≠b)/\∀p∈X.pn++pins,p.1≠b):
  Inv X pins σ H' {s with heap:=h',gens:=g',drawn:=d',toks:=t'}:=by
 obtain⟨m,⟨o,es,ep,ho,r⟩,_⟩:=id I.loc;obtain⟨sl,hL⟩:=u.any ho I.free λz=>(hch _ z).2.1 rfl;exact I.step (ch:=ch) hch (λb o hL hb hc e n=>u.keep b o e n (λz=>(List.mem_cons.mp (I.stkSub b z)).elim hL hb) hc) (λb o _ _ hc e n=>u.any e n hc) (λb o hc e n=>u.free b o e n hc) (λb o hc e=>u.there b o e hc) u.tups u.frzs u.tbls (λm' hm=>by
  obtain⟨o',es',ep',ho',r'⟩:=hm;rw[ho]at ho';cases ho';exact⟨_,es',ep',hL,r'⟩) hok hg
theorem Inv.turned{t':Nat}{it:T5}(I:Inv X pins σ H s)(k:∀b o,b≠it->s.heap.get? b=some o->h'.get? b=some o)(hn:H it=none)(hL:it≠X.env.locals)
  (h1:it∈X.ex\/X.s₀.heap.objs.size<=it) (h2:∀x c,X.env.cells.lookup x=some c->c≠it) (h3:∀p∈X.pn++pins,p.1≠it):Inv X pins σ H {s with heap:=h',toks:=t'}:=by
 have nit:∀b u,H b=some u->b≠it:=λb u e z=>by rw[z,hn]at e;cases e
 refine I.step (g':=s.gens) (d':=s.drawn) (ch:=[it]) (λb hb=>?_) (λb o _ _ hc e _=>k b o (λz=>hc (by simp[z])) e) (λb o _ _ hc e _=>⟨o.slots,k b o (λz=>hc (by simp[z])) e⟩) (λ_ _ _ _ n=>n)
  (λb o hc e=>⟨o,k b o (λz=>hc (by simp[z])) e⟩) (λ_ _ e=>e) (λ_ _ _ e=>e) (λb ps e=>⟨#[],by rw[e];simp⟩) (λm hm=>?_) (λb u e=>?_) I.bare
 ·have e:b=it:=by simpa using hb
  subst e;exact⟨h1,hL,h2,h3⟩
 ·obtain⟨o,es,ep,ho,r⟩:=hm;exact⟨o,es,ep,k _ o (Ne.symm hL) ho,r⟩
 ·refine(I.hok b u e).stay (λc v hc q=>k c v ?_ q) (λ_ q=>q) λ_ _ q=>q;rcases hc with z|z
  ·rw[z];exact nit b u e
  ·exact nit c _ z
theorem Inv.tok(I:Inv X pins σ H s)(t:Nat):Inv X pins σ H {s with toks:=t}:=I.un (h':=s.heap) (t':=t) Un.refl I.hok
theorem Inv.kept{t':Nat}(I:Inv X pins σ H s)(k:∀b u,s.heap.get? b=some u->h'.get? b=some u):Inv X pins σ H {s with heap:=h',toks:=t'}:=I.un (Un.kept k) (I.hok.kept k)
theorem Inv.laid{a:T5}{o:HO}{t':Nat}(I:Inv X pins σ H s)(k:∀b u,s.heap.get? b=some u->h'.get? b=some u)(hp:s.heap.objs.size<=a)(new:b9 X.prog X.w (upd H a o) h' a o):
  Inv X pins σ (upd H a o) {s with heap:=h',toks:=t'}:=I.un (Un.laid k hp (I.hok.fresh hp)) (I.hok.laid k hp new)
theorem Inv.write{x e:T5}{o:HO}{t':Nat}(I:Inv X pins σ H s)(mu:Ly (H x))(he:e=x\/H e=some (.own x))(k:∀b u,b≠e->s.heap.get? b=some u->h'.get? b=some u)(heo:∃u,h'.get? e=some u)
  (new:b9 X.prog X.w (upd H x o) h' x o):Inv X pins σ (upd H x o) {s with heap:=h',toks:=t'}:=I.un (Un.write mu he k heo) (I.hok.write mu he k heo new)
theorem Inv.pins_of{pins':bf}(I:Inv X pins σ H s)(h:∀p∈pins',s.heap.get? p.1=some p.2/\H p.1=none/\p.1≠X.env.locals/\p.1∉X.fs/\∀v,p.2.data≠.cell v):Inv X pins' σ H s:=
 ⟨I.ok,I.os,I.bare,I.base,I.loc,I.cell,I.free,I.freeC,λp hp=>(List.mem_append.mp hp).elim (λz=>I.pin p (PN _ z)) (h p),I.hok,I.len⟩
theorem vZ{N:ax}(hN:N.Nodup){i j:Nat}{x:Str}(a:N[i]?=some x)(b:N[j]?=some x):i=j:=by
 obtain⟨h1,e1⟩:=List.getElem?_eq_some_iff.mp a;obtain⟨h2,e2⟩:=List.getElem?_eq_some_iff.mp b;exact(List.getElem_inj hN).mp (e1.trans e2.symm)
theorem sy{M:Model}{A:Uj}{E:bh}{i:Nat}{x:Str}{v:V}{u:T2}{Q:Unit->cP}(I:Inv X pins σ H s)(hN:X.N.Nodup)(hi:X.N[i]?=some x)(hx:Loc X.env.scope x)(r:RelV v u)
  (h:∀s',Inv X pins (σ.set i (some v)) H s'->(∃a,Tn a s.heap s'.heap/\(a=X.env.locals\/X.env.cells.lookup x=some a))->Q () s') (hf:X.fn x=true\/X.env.scope.names.lookup x=some .local:=by first|exact .inl rfl|exact .inr rfl|assumption):Ul M A (storeName X.env x u) Q E s:=by
 obtain⟨m,hn,hl⟩:=id I.loc;have hcls:(X.env.scope.kind==.class||(X.env.scope.kind==.module&&X.env.locals !=X.env.globals))=false:=by rw[I.ok.kind];rfl
 have hiσ:i<σ.length:=by rw[I.len];exact(List.getElem?_eq_some_iff.mp hi).1
 have cne:=I.cne;have tracked:∀{a:T5}{h':Uc},(∃o,s.heap.get? a=some o/\H a=none)->Tn a s.heap h'->mz X.prog X.w H h':=λ{a h'} ha hs b ob e=>by
  obtain⟨_,_,hfree⟩:=ha;refine(I.hok b ob e).stay (λc w' hc q=>(hs.2 c ?_).trans q) (λ_ q=>q) λ_ _ q=>q;rintro rfl;rcases hc with rfl|hc
  ·rw[hfree]at e;cases e
  ·rw[hfree]at hc;cases hc
 rcases hx with hk|hk
 ·refine wpAny_storeName_local hk hn (λh' hn' hs=>?_) hcls;obtain⟨oL,_,_,hoL,_⟩:=id hn;refine h _ ⟨I.ok,I.os,I.bare,⟨λb o e n hb hx=>?_,λb o e n hb hx=>?_,I.base.free,λb o e hx=>?_,I.base.tups,I.base.frzs,I.base.tbls⟩,⟨_,hn',λj y v' e1 e2 e3=>?_⟩,λy c e=>?_,I.free,I.freeC,λp hp=>?_,tracked ⟨oL,hoL,I.free⟩ hs,by simpa using I.len⟩ ⟨_,hs,.inl rfl⟩
  ·exact(hs.2 b (PC (Pz (Tj e) I.ok.above))).trans (I.base.keep b o e n hb hx)
  ·obtain⟨sl,e1⟩:=I.base.slot b o e n hb hx;exact⟨sl,(hs.2 b (PC (Pz (Tj e) I.ok.above))).trans e1⟩
  ·obtain⟨o',e1⟩:=I.base.there b o e hx;exact⟨o',(hs.2 b (PC (Pz (Tj e) I.ok.above))).trans e1⟩
  ·by_cases hj:j=i
   ·subst hj;rw[hi]at e1;cases e1;rw[PP hiσ]at e2;cases e2;exact⟨u,r,.inl ⟨hk,by simp⟩⟩
   ·rw[PQ (Ne.symm hj)]at e2;obtain⟨u',r',q⟩:=hl j y v' e1 e2 e3;refine⟨u',r',?_⟩;rcases q with⟨k,e⟩|⟨k,c,e,z⟩
    ·refine .inl ⟨k,?_⟩
     have:y≠x:=λe=>hj (vZ hN e1 (e ▸ hi))
     simp[this,e]
    ·exact .inr ⟨k,c,e,z.sameBut hs (cne y c e)⟩
  ·obtain⟨w',z⟩:=I.cell y c e;exact⟨w',z.sameBut hs (cne y c e)⟩
  ·obtain⟨e,n,ne,nf,d⟩:=I.pin p hp;exact⟨(hs.2 p.1 ne).trans e,n,ne,nf,d⟩
 ·have hfn:X.fn x=true:=by
   rcases hf with z|z
   ·exact z
   ·rw[z]at hk;cases hk
  obtain⟨c,hc⟩:=I.ok.has x (.inl hk);obtain⟨w',z⟩:=I.cell x c hc;refine wpAny_storeName_cell I.ok.kind hk hc z (λh' hc' hs=>?_);obtain⟨oc,hoc,hocd⟩:=id z;refine h {s with heap:=h'} ⟨I.ok,I.os,I.bare,⟨λb o e n hb hx=>?_,λb o e n hb hx=>?_,I.base.free,λb o e hx=>?_,I.base.tups,I.base.frzs,I.base.tbls⟩,⟨m,hn.sameBut hs (Ne.symm (cne x c hc)),λj y v' e1 e2 e3=>?_⟩,λy c' e=>?_,I.free,I.freeC,λp hp=>?_,tracked ⟨oc,hoc,I.freeC x c hc⟩ hs,by simpa using I.len⟩ ⟨c,hs,.inr hc⟩
  ·exact(hs.2 b (PC (Pz (Tj e) (I.ok.cab x c hfn hc)))).trans (I.base.keep b o e n hb hx)
  ·obtain⟨sl,e1⟩:=I.base.slot b o e n hb hx;exact⟨sl,(hs.2 b (PC (Pz (Tj e) (I.ok.cab x c hfn hc)))).trans e1⟩
  ·obtain⟨o',e1⟩:=I.base.there b o e hx;exact⟨o',(hs.2 b (PC (Pz (Tj e) (I.ok.cab x c hfn hc)))).trans e1⟩
  ·by_cases hj:j=i
   ·subst hj;rw[hi]at e1;cases e1;rw[PP hiσ]at e2;cases e2;exact⟨u,r,.inr ⟨.inl hk,c,hc,hc'⟩⟩
   ·rw[PQ (Ne.symm hj)]at e2;obtain⟨u',r',q⟩:=hl j y v' e1 e2 e3;refine⟨u',r',?_⟩;rcases q with q|⟨k,c',e,z'⟩
    ·exact .inl q
    ·refine .inr ⟨k,c',e,z'.sameBut hs ?_⟩;rintro rfl;exact hj (vZ hN e1 (I.ok.inj _ _ _ e hc ▸ hi))
  ·by_cases hcc:c'=c
   ·subst hcc;exact⟨_,hc'⟩
   ·obtain⟨w2,z2⟩:=I.cell y c' e;exact⟨w2,z2.sameBut hs hcc⟩
  ·obtain⟨e,n,ne,nf,d⟩:=I.pin p hp;refine⟨(hs.2 p.1 ?_).trans e,n,ne,nf,d⟩;intro q;rw[q,hoc]at e;have q':oc=p.2:=Option.some.inj e;exact d w' (by rw[<-q'];exact hocd)
theorem wu{M:Model}{A:Uj}{E:bh}{i:Nat}{x:Str}{v:V}{u:T2}{Q:Unit->cP}(I:Inv X pins σ H s)(hN:X.N.Nodup)(hi:X.N[i]?=some x)(hx:Loc X.env.scope x)(r:RelV v u)
  (h:∀s',Inv X pins (σ.set i (some v)) H s'->Q () s') (hf:X.fn x=true\/X.env.scope.names.lookup x=some .local:=by first|exact .inl rfl|exact .inr rfl|assumption):Ul M A (storeName X.env x u) Q E s:=
 sy I hN hi hx r (λs' I' _=>h s' I') hf
theorem Inv.call'{s':T8}{ch:az}(I:Inv X pins σ H s)(ho:s'.os=s.os)(u:Un (frs X.stack) ch H H' s.heap s'.heap)(hok:mz X.prog X.w H' s'.heap)(hg:AllBare s'.gens)
  (hch:∀b∈ch,(b∈X.ex\/X.s₀.heap.objs.size<=b)/\b≠X.env.locals/\(∀x c,X.env.cells.lookup x=some c->c≠b)/\∀p∈X.pn++pins,p.1≠b):Inv X pins σ H' s':=by
 obtain⟨h',g',d',t',o'⟩:=s';have e:o'=s.os:=ho;subst e;exact I.call (g':=g') (t':=t') (d':=d') u hok hg hch
end
abbrev XK:=T2->Option T5->Hp->Prop
abbrev St:=List (Option V)
abbrev VK:=V->Hp->Prop
abbrev TE:=St->Hp->VK->Prop
abbrev TT:=St->Hp->(Bool->Hp->Prop)->Prop
abbrev TA:=St->Hp->(aJ->Hp->Prop)->Prop
structure Ends where
 nx:St->Hp->Prop
 rt:VK
 bk:St->Hp->Prop:=λ_ _=>False
 ct:St->Hp->Prop:=λ_ _=>False
abbrev TS:=Ends->St->Hp->Prop
noncomputable def EP(X:Cx)(pins:bf)(σ:St)(Q:VK)(u:T2)(s':T8):Prop:=∃v H',Inv X pins σ H' s'/\RelV v u/\Q v H'
noncomputable def TP(X:Cx)(pins:bf)(σ:St)(Q:Bool->Hp->Prop)(b:Bool)(s':T8):Prop:=∃H',Inv X pins σ H' s'/\Q b H'
noncomputable def AP(X:Cx)(pins:bf)(σ:St)(Q:aJ->Hp->Prop)(us:aU)(s':T8):Prop:=∃vs H',Inv X pins σ H' s'/\Vals vs us/\Q vs H'
noncomputable def SP(X:Cx)(pins:bf)(D:Ends)(f:Flow)(s':T8):Prop:=
 match f with
 |.next=>∃σ' H',Inv X pins σ' H' s'/\D.nx σ' H'
 |.brk=>∃σ' H',Inv X pins σ' H' s'/\D.bk σ' H'
 |.cont=>∃σ' H',Inv X pins σ' H' s'/\D.ct σ' H'
 |.ret u=>∃v σ' H',Inv X pins σ' H' s'/\RelV v u/\D.rt v H'
noncomputable def PE(X:Cx)(e:T6)(t:TE):Prop:=
 ∀(pins:bf)(s:T8)(σ:St)(H:Hp)(Q:VK),Inv X pins σ H s->t σ H Q->Ul (model X.prog X.w) X.A (eval e X.env) (EP X pins σ Q) X.xe s
noncomputable def PT(X:Cx)(e:T6)(t:TT):Prop:=
 ∀(pins:bf)(s:T8)(σ:St)(H:Hp)(Q:Bool->Hp->Prop),Inv X pins σ H s->t σ H Q->Ul (model X.prog X.w) X.A (isTrue e X.env (eval e X.env)) (TP X pins σ Q) X.xe s
noncomputable def PW(X:Cx)(e:T6)(t:TT):Prop:=
 ∀(whole:Sem T2)(pins:bf)(s:T8)(σ:St)(H:Hp)(Q:Bool->Hp->Prop),Inv X pins σ H s->t σ H Q->Ul (model X.prog X.w) X.A (isTrue e X.env whole) (TP X pins σ Q) X.xe s
theorem PW.pt{X:Cx}{e:T6}{t:TT}(h:PW X e t):PT X e t:=h _
noncomputable def PA(X:Cx)(es:bx)(t:TA):Prop:=
 ∀(pos:Pos)(pins:bf)(s:T8)(σ:St)(H:Hp)(Q:aJ->Hp->Prop),Inv X pins σ H s->t σ H Q->Ul (model X.prog X.w) X.A (spliced (backTo pos (Um es X.env))) (AP X pins σ Q) X.xe s
noncomputable def PS(X:Cx)(st:T7)(t:TS):Prop:=
 ∀(pins:bf)(s:T8)(σ:St)(H:Hp)(D:Ends),Inv X pins σ H s->t D σ H->Ul (model X.prog X.w) X.A (exec st X.env) (SP X pins D) X.xe s
noncomputable def wy(X:Cx)(st:eJ)(t:TS):Prop:=
 ∀(pins:bf)(s:T8)(σ:St)(H:Hp)(D:Ends),Inv X pins σ H s->t D σ H->Ul (model X.prog X.w) X.A (execs st X.env) (SP X pins D) X.xe s
theorem cN{α:Type}{t:Sem α}{Q Q':α->cP}{M:Model}{A:Uj}{E:bh}{s:T8}(h:Ul M A t Q E s)(hQ:∀a s,Q a s->Q' a s):Ul M A t Q' E s:=Uo h hQ λ_ _ x=>x
section
variable{X:Cx}
noncomputable def C3(i:Nat):TE:=λσ H Q=>∃v,σ[i]?=some (some v)/\Q v H
noncomputable def tC(v:V):TE:=λ_ H Q=>Q v H
theorem Ir{i:Nat}{x:Str}{pos:Pos}(hN:X.N[i]?=some x)(hv:Ij X.env.scope x)(hd:(x==("__debug__":Str))=false:=by decide)(hcd:(x==("__classdict__":Str))=false:=by decide):PE X (.Name x pos) (C3 i):=by
 intro pins s σ H Q I h;obtain⟨v,e,h⟩:=h;obtain⟨m,hn,hl⟩:=I.loc;obtain⟨u,r,l⟩:=hl i x v hN e hv;have fin:EP X pins σ Q u s:=⟨v,H,I,r,h⟩
 rcases l with⟨hk,hm⟩|⟨hk,c,hc,hcell⟩
 ·exact Uq (wpAny_loadName_local I.ok.kind hk hn hm fin) hd
 ·rcases hk with hk|hk
  ·exact Uq (wpAny_loadName_cell I.ok.kind hk hc hcell fin) hd
  ·exact Uq (wpAny_loadName_free I.ok.kind hk hc hcell fin hcd) hd
theorem xG{i j pos}:PE X (.Constant (.int i) j pos) (tC (.int i)):=λ_ _ _ H _ I h=>wpAny_Constant_int ⟨.int i,H,I.tok _,⟨_,rfl⟩,h⟩
theorem Ka{b j pos}:PE X (.Constant (.bool b) j pos) (tC (.bl b)):=λ_ _ _ H _ I h=>Constant_bool ⟨.bl b,H,I,rfl,h⟩
theorem JB{j pos}:PE X (.Constant .none j pos) (tC .non):=λ_ _ _ H _ I h=>Constant_none ⟨.non,H,I,rfl,h⟩
theorem JZ{x j pos}:PE X (.Constant (.str x) j pos) (tC (.str x)):=λ_ _ _ H _ I h=>Calls.Constant_str ⟨.str x,H,I.tok _,⟨_,rfl⟩,h⟩
noncomputable def Gl(X:Cx)(x:Str):Prop:=X.env.kindOf x=some .globalImplicit
theorem uE{E:bh}{pins:bf}{s:T8}{σ:St}{H:Hp}{x:Str}{u:T2}{pos:Pos}{Q:bh}(I:Inv X pins σ H s)(hg:Gl X x)(hm:X.mg x=some u)(h:Q u s)
  (hd:(x==("__debug__":Str))=false:=by decide):Ul (model X.prog X.w) X.A (eval (.Name x pos) X.env) Q E s:=
 Calls.Name_function_global I.ok.kind hg (Calls.loadGlobal_global (by rw[I.ok.glob];exact I.mod.glob.keeps I.bk) hm h) hd
theorem jH{E:bh}{pins:bf}{s:T8}{σ:St}{H:Hp}{x:Str}{u:T2}{pos:Pos}{Q:bh}(I:Inv X pins σ H s)(hg:Gl X x)(hm:X.mg x=none)(hv:Ui x=some u)(h:Q u s)
  (hn:x≠"__name__":=by decide) (hd:(x==("__debug__":Str))=false:=by decide):Ul (model X.prog X.w) X.A (eval (.Name x pos) X.env) Q E s:=by
 obtain⟨mb,h1,h2⟩:=I.mod.blt;exact Calls.Name_function_global I.ok.kind hg (Calls.loadGlobal_builtin (by rw[I.ok.glob];exact I.mod.glob.keeps I.bk) hm (by rw[I.ok.blt];exact h1.keeps I.bk) ((h2 x hn).trans hv) h) hd
theorem GI{x:Str}{v:V}{u:T2}{pos:Pos}(hg:Gl X x)(hm:X.mg x=some u)(r:RelV v u)(hd:(x==("__debug__":Str))=false:=by decide):PE X (.Name x pos) (tC v):=
 λ_ _ _ H _ I h=>uE I hg hm ⟨v,H,I,r,h⟩ hd
theorem EC{x:Str}{v:V}{u:T2}{pos:Pos}(hg:Gl X x)(hm:X.mg x=none)(hv:Ui x=some u)(r:RelV v u)(hn:x≠"__name__":=by decide)(hd:(x==("__debug__":Str))=false:=by decide):PE X (.Name x pos) (tC v):=
 λ_ _ _ H _ I h=>jH I hg hm hv ⟨v,H,I,r,h⟩ hn hd
variable{a b:T6}{ta tb:TE}{pos:Pos}
noncomputable def tB(t:TE):TT:=λσ H Q=>t σ H λx H1=>∃c,x=.bl c/\Q c H1
variable{tA tB':TT}{rest:bx}
noncomputable def NC(t u:TT):TT:=λσ H Q=>t σ H λc H1=>if c=true then u σ H1 Q else Q false H1
noncomputable def OU(t u:TT):TT:=λσ H Q=>t σ H λc H1=>if c=true then Q true H1 else u σ H1 Q
noncomputable def M0(t:TT):TT:=λσ H Q=>t σ H λc H1=>Q (!c) H1
theorem Fc(ha:PT X a tA):PW X (.BoolOp .And [a] pos) tA:=by
 intro wh pins s σ H Q I h;refine isTrue_and (cN (ha pins s σ H Q I h) λc s1 e=>?_);cases c with
 |true=>exact isTrue_and_nil e
 |false=>exact e
theorem JO(ha:PT X a tA):PW X (.BoolOp .Or [a] pos) tA:=by
 intro wh pins s σ H Q I h;refine isTrue_or (cN (ha pins s σ H Q I h) λc s1 e=>?_);cases c with
 |false=>exact isTrue_or_nil e
 |true=>exact e
theorem HF(ha:PT X a tA)(hb:PW X (.BoolOp .And (b::rest) pos) tB'):PW X (.BoolOp .And (a::b::rest) pos) (NC tA tB'):=by
 intro wh pins s σ H Q I h;refine isTrue_and (cN (ha pins s σ H _ I h) λc s1 ⟨H1,I1,q1⟩=>?_);cases c with
 |true=>exact hb wh pins s1 σ H1 Q I1 q1
 |false=>exact⟨H1,I1,q1⟩
theorem Kb(ha:PT X a tA)(hb:PW X (.BoolOp .Or (b::rest) pos) tB'):PW X (.BoolOp .Or (a::b::rest) pos) (OU tA tB'):=by
 intro wh pins s σ H Q I h;refine isTrue_or (cN (ha pins s σ H _ I h) λc s1 ⟨H1,I1,q1⟩=>?_);cases c with
 |true=>exact⟨H1,I1,q1⟩
 |false=>exact hb wh pins s1 σ H1 Q I1 q1
theorem IG(ha:PT X a tA):PT X (.UnaryOp .Not a pos) (M0 tA):=by
 intro pins s σ H Q I h;exact isTrue_not (ha pins s σ H (λc H1=>Q (!c) H1) I h)
noncomputable def Lg(ta tb:TE):TE:=λσ H Q=>ta σ H λx H1=>∃c,x=.bl c/\if c=true then tb σ H1 Q else Q (.bl false) H1
noncomputable def Mo(ta tb:TE):TE:=λσ H Q=>ta σ H λx H1=>∃c,x=.bl c/\if c=true then Q (.bl true) H1 else tb σ H1 Q
noncomputable def K5(ta:TE):TE:=λσ H Q=>ta σ H λx H1=>∃c,x=.bl c/\Q (.bl (!c)) H1
theorem JD{op}{t:TE}(h:PE X a t):PE X (.BoolOp op [a] pos) t:=λpins s σ H Q I hw=>BoolOp_one (h pins s σ H Q I hw)
theorem HP(ha:PE X a ta)(hb:PE X (.BoolOp .And (b::rest) pos) tb):PE X (.BoolOp .And (a::b::rest) pos) (Lg ta tb):=by
 intro pins s σ H Q I h;refine BoolOp_and (cN (ha pins s σ H _ I h) λv s1 ⟨x,H1,I1,r1,q1⟩=>?_);obtain⟨c,rfl,q1⟩:=q1;cases r1;refine Ur ?_;cases c with
 |true=>exact hb pins s1 σ H1 Q I1 q1
 |false=>exact⟨.bl false,H1,I1,rfl,q1⟩
theorem J7(ha:PE X a ta)(hb:PE X (.BoolOp .Or (b::rest) pos) tb):PE X (.BoolOp .Or (a::b::rest) pos) (Mo ta tb):=by
 intro pins s σ H Q I h;refine BoolOp_or (cN (ha pins s σ H _ I h) λv s1 ⟨x,H1,I1,r1,q1⟩=>?_);obtain⟨c,rfl,q1⟩:=q1;cases r1;refine Ur ?_;cases c with
 |false=>exact hb pins s1 σ H1 Q I1 q1
 |true=>exact⟨.bl true,H1,I1,rfl,q1⟩
theorem II(ha:PE X a ta):PE X (.UnaryOp .Not a pos) (K5 ta):=by
 intro pins s σ H Q I h;refine UnaryOp_ (cN (ha pins s σ H _ I h) λv s1 ⟨x,H1,I1,r1,q1⟩=>?_);obtain⟨c,rfl,q1⟩:=q1;cases r1;exact not_of (Ur ⟨.bl (!c),H1,I1,rfl,q1⟩)
noncomputable def Oi(t:TT)(ta tb:TE):TE:=λσ H Q=>t σ H λc H1=>if c=true then ta σ H1 Q else tb σ H1 Q
theorem Bn{c:T6}(hc:PT X c tA)(ha:PE X a ta)(hb:PE X b tb):PE X (.IfExp c a b pos) (Oi tA ta tb):=by
 intro pins s σ H Q I h;refine wpAny_IfExp (cN (hc pins s σ H _ I h) λd s1 ⟨H1,I1,q1⟩=>?_);cases d with
 |true=>exact ha pins s1 σ H1 Q I1 q1
 |false=>exact hb pins s1 σ H1 Q I1 q1
end
noncomputable def md(K:SH)(H:Hp)(a:T5)(xs:aJ):Prop:=
 Rd H a (.lst xs) \/
  ∃(o:Obj)(its:dX)(n:Nat),K.lookup a=some o/\o.cls=.type "list"/\o.dict=none/\o.data=.seq its n/\its.size<=Ud/\Vals xs its.toList
noncomputable def nA(K:SH)(H:Hp)(a:T5)(xs:aJ):Prop:=
 Rd H a (.tup xs) \/
  ∃(o:Obj)(its:dX)(n:Nat),K.lookup a=some o/\o.cls=.type "tuple"/\o.data=.seq its n/\its.size<=Ud/\Vals xs its.toList
noncomputable def My:T2->Option V
 |.none=>some .non
 |.bool b=>some (.bl b)
 |.int i _=>some (.int i)
 |.str x _=>some (.str x)
 |.bytes b _=>some (.byt b)
 |.float b _=>some (.flt b)
 |.ref a=>some (.ref a)
 |.type n=>some (.ty n)
 |_=>none
theorem RelV.abs{x:V}{u:T2}(r:RelV x u):My u=some x:=by
 cases x with
 |non=>cases r;rfl
 |bl _=>cases r;rfl
 |int _=>obtain⟨t,rfl⟩:=r;rfl
 |str _=>obtain⟨t,rfl⟩:=r;rfl
 |byt _=>obtain⟨t,rfl⟩:=r;rfl
 |flt _=>obtain⟨t,rfl⟩:=r;rfl
 |ref _=>cases r;rfl
 |ty _=>cases r;rfl
theorem RelV.inj{x y:V}{u:T2}(r:RelV x u)(q:RelV y u):x=y:=Option.some.inj (r.abs.symm.trans q.abs)
theorem Vals.inj:∀{xs ys:aJ}{us:aU},Vals xs us->Vals ys us->xs=ys
 |_,_,_,.nil,.nil=>rfl
 |_,_,_,.cons r t,.cons r' t'=>by rw[r.inj r',Vals.inj t t']
section
variable{X:Cx}{pins:bf}{σ:St}{H:Hp}{s:T8}{a:T5}{xs ys:aJ}
theorem md.of{K:SH}(h:H a=some (.lst xs)):md K H a xs:=.inl (.inl h)
theorem nA.of{K:SH}(h:H a=some (.tup xs)):nA K H a xs:=.inl (.inl h)
theorem Inv.list(I:Inv X pins σ H s)(h:md X.K H a xs):∃its:aU,Vals xs its/\PlainL s.heap a its.toArray/\xs.length<=Ud:=by
 rcases h with h|⟨o,its,n,hk,hc,hd,hs,hz,r⟩
 ·obtain⟨z,its,n,r,e⟩:=h.ok I.hok;exact⟨its,r,⟨_,n,e,rfl,rfl,rfl⟩,z⟩
 ·refine⟨its.toList,r,⟨o,n,I.kIn a o hk,hc,hd,by simpa using hs⟩,?_⟩;have e:=r.length;simp only[Array.length_toList]at e;omega
theorem Inv.tuple(I:Inv X pins σ H s)(h:nA X.K H a xs):∃its:aU,Vals xs its/\Ue s.heap a its.toArray/\xs.length<=Ud:=by
 rcases h with h|⟨o,its,n,hk,hc,hs,hz,r⟩
 ·obtain⟨z,its,r,p⟩:=h.ok I.hok;exact⟨its,r,p,z⟩
 ·refine⟨its.toList,r,⟨o,I.kIn a o hk,hc,n,by simpa using hs⟩,?_⟩;have e:=r.length;simp only[Array.length_toList]at e;omega
theorem Inv.list_inj(I:Inv X pins σ H s)(h:md X.K H a xs)(h':md X.K H a ys):xs=ys:=by
 obtain⟨its,r,⟨o,n,e,_,_,d⟩,_⟩:=I.list h;obtain⟨its',r',⟨o',n',e',_,_,d'⟩,_⟩:=I.list h';rw[e]at e';cases e';rw[d]at d';injection d' with d1 _
 have:its=its':=by simpa using congrArg Array.toList d1
 subst this;exact r.inj r'
theorem Inv.tuple_inj(I:Inv X pins σ H s)(h:nA X.K H a xs)(h':nA X.K H a ys):xs=ys:=by
 obtain⟨its,r,⟨o,e,_,n,d⟩,_⟩:=I.tuple h;obtain⟨its',r',⟨o',e',_,n',d'⟩,_⟩:=I.tuple h';rw[e]at e';cases e';rw[d]at d';injection d' with d1 _
 have:its=its':=by simpa using congrArg Array.toList d1
 subst this;exact r.inj r'
end
noncomputable abbrev Cx.wish(X:Cx)(E:bh):Cx:={X with xe:=E}
noncomputable abbrev Cx.nox(X:Cx):Cx:=X.wish λ_ _=>False
theorem Cx.Ok.wish{X:Cx}(ok:X.Ok)(E:bh):(X.wish E).Ok:=
 ⟨ok.mod,ok.kind,ok.glob,ok.blt,ok.above,ok.inj,ok.has,ok.cab,ok.hd,ok.frames,ok.stk,ok.exf,ok.bs,ok.bsz,ok.noex,ok.exfs,ok.funs,ok.frf⟩
theorem Cx.Ok.unwish{X:Cx}{E:bh}(ok:(X.wish E).Ok):X.Ok:=
 ⟨ok.mod,ok.kind,ok.glob,ok.blt,ok.above,ok.inj,ok.has,ok.cab,ok.hd,ok.frames,ok.stk,ok.exf,ok.bs,ok.bsz,ok.noex,ok.exfs,ok.funs,ok.frf⟩
section
variable{X:Cx}{pins:bf}{σ:St}{H:Hp}{s:T8}{E:bh}
theorem Inv.wish(I:Inv X pins σ H s)(E:bh):Inv (X.wish E) pins σ H s:=⟨I.ok.wish E,I.os,I.bare,I.base,I.loc,I.cell,I.free,I.freeC,I.pin,I.hok,I.len⟩
theorem Inv.unwish(I:Inv (X.wish E) pins σ H s):Inv X pins σ H s:=⟨I.ok.unwish,I.os,I.bare,I.base,I.loc,I.cell,I.free,I.freeC,I.pin,I.hok,I.len⟩
theorem SP.unwish{D:Ends}{f:Flow}{s':T8}(h:SP (X.wish E) pins D f s'):SP X pins D f s':=by
 cases f with
 |next=>obtain⟨σ',H',I,q⟩:=h;exact⟨σ',H',I.unwish,q⟩
 |brk=>obtain⟨σ',H',I,q⟩:=h;exact⟨σ',H',I.unwish,q⟩
 |cont=>obtain⟨σ',H',I,q⟩:=h;exact⟨σ',H',I.unwish,q⟩
 |ret u=>obtain⟨v,σ',H',I,r,q⟩:=h;exact⟨v,σ',H',I.unwish,r,q⟩
theorem wy.nox{st:eJ}{t:TS}(h:wy X.nox st t):wy X st t:=λpins s σ H D I hw=>
 Uo (h pins s σ H D (I.wish _) hw) (λ_ _ q=>q.unwish) λ_ _ z=>False.elim z
end
section
variable{X:Cx}{st:T7}{rest:eJ}{t u:TS}{e:T6}{te:TE}{pos:Pos}
noncomputable def DN:TS:=λD σ H=>D.nx σ H
noncomputable def Ms(t u:TS):TS:=λD σ H=>t {D with nx:=u D} σ H
theorem Gn:wy X [] DN:=λ_ _ σ H _ I h=>Us ⟨σ,H,I,h⟩
theorem Dj(h1:PS X st t)(h2:wy X rest u):wy X (st::rest) (Ms t u):=by
 intro pins s σ H D I h;refine wpAny_execs_cons (cN (h1 pins s σ H {D with nx:=u D} I h) λf s1 q=>?_);cases f with
 |next=>
  obtain⟨σ',H',I',q⟩:=q;exact h2 pins s1 σ' H' D I' q
 |ret v=>exact q
 |brk=>exact q
 |cont=>exact q
theorem yz(h1:PS X st t):wy X [st] t:=by
 intro pins s σ H D I h;refine wpAny_execs_cons (cN (h1 pins s σ H D I h) λf s1 q=>?_);cases f with
 |next=>exact Us q
 |ret v=>exact q
 |brk=>exact q
 |cont=>exact q
theorem Gy:PS X (.Pass pos) DN:=λ_ _ σ H _ I h=>wpAny_Pass ⟨σ,H,I,h⟩
theorem Inv.quiet{pins:bf}{σ:St}{H:Hp}{s:T8}(I:Inv X pins σ H s):interactive X.env=false:=by simp[interactive,I.ok.kind]
theorem Io{x j pos pos'}:PS X (.Expr (.Constant (.str x) j pos) pos') DN:=λ_ s σ H _ I h=>wpAny_Expr (Calls.Constant_str (show SP X _ _ .next {s with toks:=s.toks+1}from⟨σ,H,I.tok _,h⟩)) I.quiet
noncomputable def Kz(te:TE):TS:=λD σ H=>te σ H λ_ H1=>D.nx σ H1
theorem oX(he:PE X e te)(hs:swapsWith e none pos.line X.env=pure false:=by rfl):PS X (.Expr e pos) (Kz te):=by
 intro pins s σ H D I h;exact wpAny_Expr_any (cN (he pins s σ H _ I h) λv s1 ⟨x,H1,I1,r1,q1⟩=>⟨σ,H1,I1,q1⟩) I.quiet hs
noncomputable def MJ(te:TE):TS:=λD σ H=>te σ H D.rt
theorem JW(he:PE X e te):PS X (.Return (some e) pos) (MJ te):=by
 intro pins s σ H D I h;exact wpAny_Return_some (cN (he pins s σ H _ I h) λv s1 ⟨x,H1,I1,r1,q1⟩=>⟨x,σ,H1,I1,r1,q1⟩)
noncomputable def MK(c:TT)(t u:TS):TS:=λD σ H=>c σ H λb H1=>if b=true then t D σ H1 else u D σ H1
theorem KS{c:T6}{a b:eJ}{tc:TT}(hc:PT X c tc)(ha:wy X a t)(hb:wy X b u):PS X (.If c a b pos) (MK tc t u):=by
 intro pins s σ H D I h;refine wpAny_If (cN (hc pins s σ H _ I h) λd s1 ⟨H1,I1,q1⟩=>?_);cases d with
 |true=>exact ha pins s1 σ H1 D I1 q1
 |false=>exact hb pins s1 σ H1 D I1 q1
end
noncomputable abbrev TG:=V->St->Hp->(St->Hp->Prop)->Prop
noncomputable abbrev Hl:=List V->St->Hp->(St->Hp->Prop)->Prop
noncomputable def PG(X:Cx)(target:T6)(t:TG):Prop:=
 ∀(pins:bf)(s:T8)(σ:St)(H:Hp)(v:V)(u:T2)(Q:St->Hp->Prop),Inv X pins σ H s->RelV v u->t v σ H Q->
  Ul (model X.prog X.w) X.A (assign target X.env u) (λ_ s'=>∃σ' H',Inv X pins σ' H' s'/\Q σ' H') X.xe s
noncomputable def LI(X:Cx)(ts:bx)(t:Hl):Prop:=
 ∀(pins:bf)(s:T8)(σ:St)(H:Hp)(vs:aJ)(us:aU)(Q:St->Hp->Prop),Inv X pins σ H s->Vals vs us->t vs σ H Q->
  Ul (model X.prog X.w) X.A (assignInOrder ((assignEach ts X.env).map (·.2)) us) (λ_ s'=>∃σ' H',Inv X pins σ' H' s'/\Q σ' H') X.xe s
section
variable{X:Cx}{pos:Pos}
noncomputable def tR(i:Nat):TG:=λv σ H Q=>Q (σ.set i (some v)) H
theorem GY{i:Nat}{x:Str}(hN:X.N.Nodup)(hi:X.N[i]?=some x)(hx:Loc X.env.scope x)(hf:X.fn x=true\/X.env.scope.names.lookup x=some .local:=by first|exact .inl rfl|exact .inr rfl|assumption):PG X (.Name x pos) (tR i):=by
 intro pins s σ H v u Q I r h;exact wpAny_assign_Name (wu I hN hi hx r (λs' I'=>⟨_,H,I',h⟩) hf)
noncomputable def Nw:Hl:=λvs σ H Q=>vs=[]/\Q σ H
noncomputable def Ld(t:TG)(u:Hl):Hl:=λvs σ H Q=>∃v r,vs=v::r/\t v σ H λσ' H'=>u r σ' H' Q
theorem G1:LI X [] Nw:=by
 intro pins s σ H vs us Q I r h;obtain⟨e,h⟩:=h;subst e;cases r;exact assignInOrder_nil ⟨σ,H,I,h⟩
theorem CG{e:T6}{es:bx}{t:TG}{u:Hl}(h1:PG X e t)(h2:LI X es u)
  (hs:(assignEach (e::es) X.env).map (·.2)=assign e X.env::(assignEach es X.env).map (·.2):=by rfl):LI X (e::es) (Ld t u):=by
 intro pins s σ H vs us Q I r h;obtain⟨v,vr,e1,h⟩:=h;subst e1;cases r with
 |cons r rr=>
  rw[hs];refine assignInOrder_cons (cN (h1 pins s σ H _ _ _ I r h) λ_ s1 ⟨σ1,H1,I1,q1⟩=>?_);exact h2 pins s1 σ1 H1 _ _ Q I1 rr q1
noncomputable def M9(K:SH)(n:Nat)(t:Hl):TG:=λv σ H Q=>∃a xs,v=.ref a/\nA K H a xs/\xs.length=n/\t xs σ H Q
theorem JA{es:bx}{k:Nat}{t:Hl}{n:Nat}(hc:X.calm=true)(h:LI X es t)
  (hn:(assignEach es X.env).length=n:=by rfl) (hst:(assignEach es X.env).findIdx? (·.1)=none:=by rfl):PG X (.Tuple es k pos) (M9 X.K n t):=by
 intro pins s σ H v u Q I r hw;obtain⟨a,xs,e1,hq,hl,hw⟩:=hw;subst e1;cases r;obtain⟨its,rv,ht,hz⟩:=I.tuple hq;refine assign_Tuple_tuple (I.ok.hd hc) ht (by simp[hn,<-hl,rv.length]) hst λh' hx=>?_;have I1:Inv X pins σ H {s with heap:=h'}:=I.kept (t':=s.toks) λb o e=>hx b o (PC (Tj e)) e;exact h pins _ σ H xs _ Q I1 (by simpa using rv) hw
noncomputable def Bq(te:TE)(g:TG):TS:=λD σ H=>te σ H λx H1=>g x σ H1 D.nx
theorem HH{tg e:T6}{te:TE}{g:TG}(he:PE X e te)(hg:PG X tg g)(hs:swapsWithSole [tg] e pos.line X.env=pure false:=by rfl)(hw:swappedStores [tg] e X.env=pure none:=by rfl)
  (h1:(assignEach [tg] X.env).map (·.2)=[assign tg X.env]:=by rfl):PS X (.Assign [tg] e pos) (Bq te g):=by
 intro pins s σ H D I h;refine wpAny_Assign_stores (cN (he pins s σ H _ I h) λv s1 ⟨x,H1,I1,r1,q1⟩=>?_) hs hw;rw[h1];exact cN (hg pins s1 σ H1 x v _ I1 r1 q1) λ_ s2 q=>q
theorem ua{i:Nat}{x:Str}{e:T6}{te:TE}{pos':Pos}(hN:X.N.Nodup)(hi:X.N[i]?=some x)(hx:Loc X.env.scope x)(he:PE X e te)(hs:swapsWith e (some (.Name x pos')) pos.line X.env=pure false:=by rfl)(hf:X.fn x=true\/X.env.scope.names.lookup x=some .local:=by first|exact .inl rfl|exact .inr rfl|assumption):
  PS X (.Assign [.Name x pos'] e pos) (Bq te (tR i)):=by
 intro pins s σ H D I h;refine wpAny_Assign_Name (cN (he pins s σ H _ I h) λv s1 ⟨y,H1,I1,r1,q1⟩=>?_) hs;exact wu I1 hN hi hx r1 (λs2 I2=>⟨_,H1,I2,q1⟩) hf
end
structure It where
 go:Nat->Hp->Prop
 yld:Nat->Hp->V->Hp->Prop
 stop:Nat->Hp->Prop
noncomputable def rp(X:Cx)(pins:bf)(H:Hp)(b:T5):Prop:=
 H b=none/\b≠X.env.locals/\b∉X.fs/\(b∈X.ex\/X.s₀.heap.objs.size<=b)/\(∀x c,X.env.cells.lookup x=some c->c≠b)/\∀p∈X.pn++pins,p.1≠b
theorem Inv.fpOk{X:Cx}{pins:bf}{σ:St}{H H':Hp}{s:T8}{b:T5}(I:Inv X pins σ H s)(hb:s.heap.objs.size<=b)(hn:H' b=none):rp X pins H' b:=by
 refine⟨hn,PR (Pz I.lt hb),I.nofs hb,.inr (PD I.sz hb),λx c e z=>?_,λp hp z=>?_⟩
 ·obtain⟨v,q⟩:=I.cell x c e;exact absurd (Pz q.lt (by rw[z];exact hb)) (PB _)
 ·exact absurd (Pz (Tj (I.pin p hp).1) (by rw[z];exact hb)) (PB _)
structure Turn(P:Ua)(w:T9)(K:SH)(tg:T6)(J:It)(fp:az)(it:T5)(tn:Nat->Uc->Prop):Prop where
 mem:it∈fp
 obj:∀i h,tn i h->∀b∈fp,∃o,h.get? b=some o/\∀v,o.data≠.cell v
 keep:∀i h h',tn i h->(∀b∈fp,∀o,h.get? b=some o->h'.get? b=some o)->tn i h'
 item:∀(X:Cx),X.prog=P->X.w=w->X.K=K->X.calm=true->∀(i:Nat)(pins:bf)(s:T8)(σ:St)(H:Hp)(E:bh),Inv X pins σ H s->(∀b∈fp,rp X pins H b)->tn i s.heap->J.go i H->
  Ul (model P w) X.A (pyNext (.ref it)) (λr s1=>∃u,r=some u/\
   Ul (model P w) X.A (letOwnedTupleGo tg (.ref it) u) (λ_ s2=>∃x H',Inv X pins σ H' s2/\RelV x u/\J.yld i H x H'/\tn (i+1) s2.heap/\∀b∈fp,H' b=none) E s1) E s
 done:∀(X:Cx),X.prog=P->X.w=w->X.K=K->X.calm=true->∀(i:Nat)(pins:bf)(s:T8)(σ:St)(H:Hp)(E:bh),Inv X pins σ H s->(∀b∈fp,rp X pins H b)->tn i s.heap->J.stop i H->
  Ul (model P w) X.A (pyNext (.ref it)) (λr s1=>r=none/\Inv X pins σ H s1) E s
 self:∀(A:Uj)(i:Nat)(s:T8)(Q:bh)(E:bh),tn i s.heap->Q (.ref it) s->Ul (model P w) A (pyIter (.ref it)) Q E s
noncomputable abbrev TI:=St->Hp->(It->Hp->Prop)->Prop
noncomputable def PIE(X:Cx)(pins:bf)(σ:St)(tg:T6)(R:It->Hp->Prop)(itv:T2)(s2:T8):Prop:=
 ∃(it:T5)(fp:az)(tn:Nat->Uc->Prop)(J:It)(H':Hp),itv=.ref it/\Inv X pins σ H' s2/\Turn X.prog X.w X.K tg J fp it tn/\tn 0 s2.heap/\(∀b∈fp,rp X pins H' b)/\R J H'
noncomputable def PI(X:Cx)(tg iter:T6)(wi:TI):Prop:=
 ∀(pins:bf)(s:T8)(σ:St)(H:Hp)(R:It->Hp->Prop),Inv X pins σ H s->wi σ H R->
  Ul (model X.prog X.w) X.A (eval iter X.env) (λv s1=>Ul (model X.prog X.w) X.A (pyIter v) (PIE X pins σ tg R) X.xe s1) X.xe s
theorem CJ{M:Model}{A:Uj}{E:bh}{s:T8}{tg:T6}{it:T5}{u:T2}{o:Obj}{n:String}{vs:dX}{Q:Unit->cP}(ho:s.heap.get? it=some o)(hc:o.cls=.type n)(hd:o.data=.fields vs)
    (hn:["enumerate","zip","dict_itemiterator","dict_reverseitemiterator","odict_iterator","itertools.zip_longest","itertools.pairwise"].contains n=false) (hQ:Q () s):Ul M A (letOwnedTupleGo tg (.ref it) u) Q E s:=by
  unfold letOwnedTupleGo;cases tg<;>first
    |exact Ut hQ
    | (cases u <;> first
        |exact Ut hQ
        | (refine Uu (wpAny_load ho ?_)
           rw[hc,hd];show Ul M A (if(["enumerate","zip","dict_itemiterator","dict_reverseitemiterator","odict_iterator","itertools.zip_longest","itertools.pairwise"].contains n&&vs[0]?==some (rawInt _))=true then _ else _) Q E s;rw[if_neg (by intro h;rw[hn,PV]at h;cases h)];exact Ut hQ))
noncomputable def Mv(K:SH)(a:T5):It:=
 ⟨λi H=>∃xs x,md K H a xs/\xs[i]?=some x,λi H x H'=>H'=H/\∀xs,md K H a xs->xs[i]?=some x,λi H=>∃xs,md K H a xs/\xs.length<=i⟩
noncomputable def Nj(K:SH)(a:T5):It:=
 ⟨λi H=>∃xs x,nA K H a xs/\xs[i]?=some x,λi H x H'=>H'=H/\∀xs,nA K H a xs->xs[i]?=some x,λi H=>∃xs,nA K H a xs/\xs.length<=i⟩
noncomputable def KR(lo:Int)(n:Nat):It:=⟨λi _=>i<n,λi H x H'=>H'=H/\x=.int (lo+i),λi _=>n<=i⟩
theorem zr{P:Ua}{w:T9}{K:SH}{tg:T6}(a it:T5):Turn P w K tg (Mv K a) [it] it (λi h=>h.IsListIter it a i)where
 mem:=by simp
 obj:=λi h st b hb=>by
  have e:b=it:=by simpa using hb
  subst e;obtain⟨o,e,c,d⟩:=st;exact⟨o,e,λv z=>by rw[d]at z;cases z⟩
 keep:=λi h h' st k=>st.at λo e=>k it (by simp) o e
 item:=by
  intro X hP hw hK hc i pins s σ H E I hf st hg;subst hP hw hK;obtain⟨xs,x,hq,hx⟩:=hg;obtain⟨its,rv,p,hz⟩:=I.list hq;obtain⟨u,hu,ru⟩:=rv.get hx;obtain⟨f0,f1,f2,f3,f4,f5⟩:=hf it (by simp);refine wpAny_pyNext_list_item st p.isList (x:=u) (by simpa using hu) λh' st' sb=>?_;have I1:Inv X pins σ H {s with heap:=h'}:=I.turned (t':=s.toks) (λb o hb e=>(sb.2 b hb).trans e) f0 f1 f3 f4 f5;obtain⟨o,e,c,d⟩:=id st';exact⟨u,rfl,CJ (s:={s with heap:=h'}) e c d (by decide) ⟨x,H,I1,ru,⟨rfl,λys hy=>by rw[I.list_inj hy hq];exact hx⟩,st',λb hb=>(hf b hb).1⟩⟩
 done:=by
  intro X hP hw hK hc i pins s σ H E I hf st hg;subst hP hw hK;obtain⟨xs,hq,hx⟩:=hg;obtain⟨its,rv,p,hz⟩:=I.list hq;obtain⟨f0,f1,f2,f3,f4,f5⟩:=hf it (by simp);have hl:=rv.length;exact wpAny_pyNext_list_end (I.ok.hd hc) st p.isList (by simp;omega) λh' eb=>⟨rfl,I.turned (t':=s.toks) (λb o hb e=>eb b o hb e) f0 f1 f3 f4 f5⟩
 self:=λ_ _ _ _ _ st h=>wpAny_pyIter_listiter st h
theorem xL{P:Ua}{w:T9}{K:SH}{tg:T6}(a it:T5):Turn P w K tg (Nj K a) [it] it (λi h=>h.IsTupleIter it a i)where
 mem:=by simp
 obj:=λi h st b hb=>by
  have e:b=it:=by simpa using hb
  subst e;obtain⟨o,e,c,d⟩:=st;exact⟨o,e,λv z=>by rw[d]at z;cases z⟩
 keep:=λi h h' st k=>st.at λo e=>k it (by simp) o e
 item:=by
  intro X hP hw hK hc i pins s σ H E I hf st hg;subst hP hw hK;obtain⟨xs,x,hq,hx⟩:=hg;obtain⟨its,rv,p,hz⟩:=I.tuple hq;obtain⟨u,hu,ru⟩:=rv.get hx;obtain⟨f0,f1,f2,f3,f4,f5⟩:=hf it (by simp);refine wpAny_pyNext_tuple_item st (show s.heap.IsTuple a its.toArray from p) (x:=u) (by simpa using hu) λh' st' sb=>?_;have I1:Inv X pins σ H {s with heap:=h'}:=I.turned (t':=s.toks) (λb o hb e=>(sb.2 b hb).trans e) f0 f1 f3 f4 f5;obtain⟨o,e,c,d⟩:=id st';exact⟨u,rfl,CJ (s:={s with heap:=h'}) e c d (by decide) ⟨x,H,I1,ru,⟨rfl,λys hy=>by rw[I.tuple_inj hy hq];exact hx⟩,st',λb hb=>(hf b hb).1⟩⟩
 done:=by
  intro X hP hw hK hc i pins s σ H E I hf st hg;subst hP hw hK;obtain⟨xs,hq,hx⟩:=hg;obtain⟨its,rv,p,hz⟩:=I.tuple hq;obtain⟨f0,f1,f2,f3,f4,f5⟩:=hf it (by simp);have hl:=rv.length;exact wpAny_pyNext_tuple_end (I.ok.hd hc) st (show s.heap.IsTuple a its.toArray from p) (by simp;omega) λh' eb=>⟨rfl,I.turned (t':=s.toks) (λb o hb e=>eb b o hb e) f0 f1 f3 f4 f5⟩
 self:=λ_ _ _ _ _ st h=>wpAny_pyIter_tupleiter st h
theorem xE{P:Ua}{w:T9}{K:SH}{tg:T6}(it:T5)(lo:Int)(n:Nat):Turn P w K tg (KR lo n) [it] it (λi h=>IsRangeIter h it (lo+(i:Nat)*1) ((n:Int)-(i:Nat)) 1)where
 mem:=by simp
 obj:=λi h st b hb=>by
  have e:b=it:=by simpa using hb
  subst e;exact⟨_,st,λv z=>by
   have z':Data.fields _=Data.cell v:=z;cases z'⟩
 keep:=λi h h' st k=>k it (by simp) _ st
 item:=by
  intro X hP hw hK hc i pins s σ H E I hf st hg;subst hP hw hK;obtain⟨f0,f1,f2,f3,f4,f5⟩:=hf it (by simp);have W:=Walks.range (prog:=X.prog) (w:=X.w) (I.ok.hd hc) it lo 1 n;refine W.item i s _ _ hg st λv h' tk hv st' kk=>?_;obtain⟨t,rfl⟩:=hv;have I1:Inv X pins σ H {s with heap:=h',toks:=tk}:=I.turned (λb o hb e=>kk b o (by simpa using hb) e) f0 f1 f3 f4 f5;refine⟨_,rfl,CJ (s:={s with heap:=h',toks:=tk}) (n:="range_iterator") st' rfl rfl (by decide) ⟨.int (lo+i),H,I1,⟨t,?_⟩,⟨rfl,rfl⟩,st',λb hb=>(hf b hb).1⟩⟩;rw[Int.mul_one]
 done:=by
  intro X hP hw hK hc i pins s σ H E I hf st hg;subst hP hw hK;obtain⟨f0,f1,f2,f3,f4,f5⟩:=hf it (by simp);exact wpAny_pyNext_range_end (I.ok.hd hc) st (by have:n<=i:=hg;omega) λh' eb=>⟨rfl,I.turned (t':=s.toks) (λb o hb e=>eb b o hb e) f0 f1 f3 f4 f5⟩
 self:=λ_ _ _ _ _ st h=>wpAny_pyIter_rangeiter st h
section
variable{X:Cx}{tg:T6}
noncomputable def Li(K:SH)(tl:TE):TI:=λσ H R=>tl σ H λx H1=>∃a,x=.ref a/\(∃xs,md K H1 a xs)/\R (Mv K a) H1
noncomputable def NA(K:SH)(tl:TE):TI:=λσ H R=>tl σ H λx H1=>∃a,x=.ref a/\(∃xs,nA K H1 a xs)/\R (Nj K a) H1
theorem y6{l:T6}{tl:TE}(hl:PE X l tl):PI X tg l (Li X.K tl):=by
 intro pins s σ H R I h;refine cN (hl pins s σ H _ I h) λv s1 ⟨x,H1,I1,r1,q1⟩=>?_;obtain⟨a,e,⟨xs,hq⟩,q⟩:=q1;subst e;cases r1;obtain⟨its,rv,p,hz⟩:=I1.list hq;refine Uv p.isList ?_;refine⟨s1.heap.objs.size,[s1.heap.objs.size],_,_,H1,rfl,I1.kept (t':=s1.toks) λb o e=>To _ e,zr a _,⟨_,Tp _ rfl,rfl,rfl⟩,λb hb=>?_,q⟩;have e:b=s1.heap.objs.size:=by simpa using hb
 subst e;exact I1.fpOk (PX _) (I1.hok.fresh (PX _))
theorem JQ{l:T6}{tl:TE}(hl:PE X l tl):PI X tg l (NA X.K tl):=by
 intro pins s σ H R I h;refine cN (hl pins s σ H _ I h) λv s1 ⟨x,H1,I1,r1,q1⟩=>?_;obtain⟨a,e,⟨xs,hq⟩,q⟩:=q1;subst e;cases r1;obtain⟨its,rv,p,hz⟩:=I1.tuple hq;refine wpAny_pyIter_tuple (show s1.heap.IsTuple a its.toArray from p) ?_;refine⟨s1.heap.objs.size,[s1.heap.objs.size],_,_,H1,rfl,I1.kept (t':=s1.toks) λb o e=>To _ e,xL a _,⟨_,Tp _ rfl,rfl,rfl⟩,λb hb=>?_,q⟩;have e:b=s1.heap.objs.size:=by simpa using hb
 subst e;exact I1.fpOk (PX _) (I1.hok.fresh (PX _))
theorem vV{pins:bf}{σ:St}{H:Hp}{s:T8}{R:It->Hp->Prop}{E:bh}{lo hi:Int}{t u v:Tok}{tk:Nat}(I:Inv X pins σ H s)(h1:-(2^62)<=lo)(h2:lo<2^62)(h3:-(2^62)<=hi)(h4:hi<2^62)
  (q:R (KR lo (hi-lo).toNat) H):Ul (model X.prog X.w) X.A (pyIter (.ref s.heap.objs.size)) (PIE X pins σ tg R) E {s with heap:=s.heap.push {cls:=.type "range",data:=.fields #[.int lo t,.int hi u,.int 1 v]},toks:=tk}:=by
 refine wpAny_pyIter_range (IsRange.new ..) (small_one h1 h2 h3 h4) ?_;have I1:Inv X pins σ H {s with heap:=s.heap.push {cls:=.type "range",data:=.fields #[.int lo t,.int hi u,.int 1 v]},toks:=tk}:=I.kept λb o e=>To _ e;refine⟨(s.heap.push {cls:=.type "range",data:=.fields #[.int lo t,.int hi u,.int 1 v]}).objs.size,[(s.heap.push {cls:=.type "range",data:=.fields #[.int lo t,.int hi u,.int 1 v]}).objs.size],_,_,H,rfl,
  I1.kept (t':=tk) λb o e=>To _ e,xE _ lo (hi-lo).toNat,?_,λb hb=>?_,q⟩
 ·have e1:lo+((0:Nat):Int)*1=lo:=by simp
  have e2:(((hi-lo).toNat:Nat):Int)-((0:Nat):Int)=Builtin.Range.rangeSize lo hi 1:=by rw[rangeSize_one];split<;>omega
  show IsRangeIter _ _ (lo+((0:Nat):Int)*1) ((((hi-lo).toNat:Nat):Int)-((0:Nat):Int)) 1;rw[e1,e2];exact Tp _ rfl
 ·have e:b=(s.heap.push {cls:=.type "range",data:=.fields #[.int lo t,.int hi u,.int 1 v]}).objs.size:=by simpa using hb
  subst e;exact I1.fpOk (PX _) (I1.hok.fresh (PX _))
noncomputable def Lf(ta:TA):TI:=λσ H R=>ta σ H λvs H1=>∃j:Int,vs=[.int j]/\-(2^62)<=j/\j<2^62/\R (KR 0 j.toNat) H1
noncomputable def Kq(ta:TA):TI:=λσ H R=>ta σ H λvs H1=>∃i j:Int,vs=[.int i,.int j]/\(-(2^62)<=i/\i<2^62/\-(2^62)<=j/\j<2^62)/\R (KR i (j-i).toNat) H1
theorem Ag{a:T6}{ta:TA}{p pos:Pos}(hg:Gl X "range")(hm:X.mg "range"=none)(ha:PA X [a] ta)(hs:Um [a] X.env=[(false,eval a X.env)]:=by rfl):PI X tg (.Call (.Name "range" p) [a] [] pos) (Lf ta):=by
 intro pins s σ H R I h;refine Call_ (jH I hg hm boot_range (Tz (cN (ha pos pins s σ H _ I h) λus s1 ⟨vs,H1,I1,r1,q1⟩=>?_) hs rfl));obtain⟨j,e,q1,q2,q⟩:=q1;subst e;cases r1 with
 |cons r rr=>
  cases rr;obtain⟨t,rfl⟩:=r;exact call_range_1 (vV I1 ‹0› ‹0› q1 q2 (by simpa using q))
theorem An{a b:T6}{ta:TA}{p pos:Pos}(hg:Gl X "range")(hm:X.mg "range"=none)(ha:PA X [a,b] ta)(hs:Um [a,b] X.env=[(false,eval a X.env),(false,eval b X.env)]:=by rfl)(hs2:Um [b] X.env=[(false,eval b X.env)]:=by rfl):
  PI X tg (.Call (.Name "range" p) [a,b] [] pos) (Kq ta):=by
 intro pins s σ H R I h;refine Call_ (jH I hg hm boot_range (Tz (cN (ha pos pins s σ H _ I h) λus s1 ⟨vs,H1,I1,r1,q1⟩=>?_) (by rw[hs,hs2]) (by rw[hs2];rfl)));obtain⟨i,j,e,⟨q1,q2,q3,q4⟩,q⟩:=q1;subst e;cases r1 with
 |cons r rr=>
  cases rr with
  |cons r' rr=>
   cases rr;obtain⟨t,rfl⟩:=r;obtain⟨t',rfl⟩:=r';exact call_range_2 (vV I1 q1 q2 q3 q4 q)
noncomputable def M8(wi:TI)(g:TG)(tb:TS):TS:=λD σ H=>wi σ H λJ H1=>∃W:Nat->Nat->St->Hp->Prop,(∃m,W 0 m σ H1)/\∀i m σ H,W i m σ H->
 (J.stop i H/\D.nx σ H)\/(J.go i H/\∃N:St->Hp->Prop,(∀σ' H',N σ' H'->∃m',m'<m/\W (i+1) m' σ' H')/\∀x H',J.yld i H x H'->g x σ H' λσ2 H2=>tb {D with nx:=N,ct:=N,bk:=D.nx} σ2 H2)
noncomputable def qE(fp:az)(h:Uc):bf:=fp.filterMap λb=>(h.get? b).map λo=>(b,o)
theorem jA{fp:az}{h:Uc}{b:T5}{o:Obj}(hb:b∈fp)(e:h.get? b=some o):(b,o)∈qE fp h:=List.mem_filterMap.mpr ⟨b,hb,by rw[e];rfl⟩
theorem zZ{fp:az}{h:Uc}{p:T5×Obj}(hp:p∈qE fp h):p.1∈fp/\h.get? p.1=some p.2:=by
 obtain⟨b,hb,e⟩:=List.mem_filterMap.mp hp;cases q:h.get? b with
 |none=>rw[q]at e;cases e
 |some o=>
  rw[q]at e;have e':(b,o)=p:=Option.some.inj e;subst e';exact⟨hb,q⟩
theorem Inv.pinned{pins:bf}{σ:St}{H:Hp}{s:T8}{fp:az}(I:Inv X pins σ H s)(hf:∀b∈fp,rp X pins H b)(ho:∀b∈fp,∃o,s.heap.get? b=some o/\∀v,o.data≠.cell v):Inv X (pins++qE fp s.heap) σ H s:=
 I.pins_of λp hp=>(List.mem_append.mp hp).elim (λz=>I.pin p (PY _ z)) λz=>by
  obtain⟨hb,e⟩:=zZ z;obtain⟨f0,f1,f2,_⟩:=hf p.1 hb;obtain⟨o,e',d⟩:=ho p.1 hb;rw[e]at e';cases e';exact⟨e,f0,f1,f2,d⟩
theorem Inv.unpinned{pins pl:bf}{σ:St}{H:Hp}{s:T8}(I:Inv X (pins++pl) σ H s):Inv X pins σ H s:=I.pins_of λp hp=>I.pin p (PY _ (PN _ hp))
theorem Iq{iter:T6}{body:eJ}{wi:TI}{g:TG}{tb:TS}{pos:Pos}(hp:Uw (model X.prog X.w) X.A X.env X.xe)(hc:X.calm=true)(hi:PI X tg iter wi)(hg:PG X tg g)(hb:wy X body tb)
  (hs:∀x,Ux iter X.env x=pure x:=by intro _;rfl):PS X (.For tg iter body [] pos) (M8 wi g tb):=by
 intro pins s σ H D I h;refine wpAny_For (cN (hi pins s σ H _ I h) λv s1 h1=>cN h1 λitv s2 h2=>?_) hs;obtain⟨it,fp,tn,J,H2,e,I2,T,st2,f2,W,⟨m0,w0⟩,turn⟩:=h2;subst e;have stat:∀{H':Hp},(∀b∈fp,H' b=none)->∀b∈fp,rp X pins H' b:=λhn b hb=>⟨hn b hb,(f2 b hb).2⟩
 refine codeAny_forLoop_any (λn s'=>∃i σ' H',Inv X pins σ' H' s'/\tn i s'.heap/\(∀b∈fp,H' b=none)/\W i n σ' H') ?_ m0 ⟨0,σ,H2,I2,st2,λb hb=>(f2 b hb).1,w0⟩;rintro n s3 ⟨i,σ3,H3,I3,st3,fr3,w3⟩;rcases turn i n σ3 H3 w3 with⟨stop,qn⟩|⟨go,N,hN,step⟩
 ·refine Uy hp (cN (T.done X rfl rfl rfl hc i pins s3 σ3 H3 X.xe I3 (stat fr3) st3 stop) λr s4 ⟨hr,I4⟩=>?_);subst hr;exact Us ⟨σ3,H3,I4,qn⟩
 ·refine Uy hp (cN (T.item X rfl rfl rfl hc i pins s3 σ3 H3 X.xe I3 (stat fr3) st3 go) λr s4 ⟨u,hr,h4⟩=>?_);subst hr;refine Uy hp (cN h4 λ_ s5 ⟨x,H5,I5,r5,y5,st5,fr5⟩=>?_);have I5':=I5.pinned (stat fr5) (T.obj _ _ st5);refine Uy hp (cN (hg _ s5 σ3 H5 x u _ I5' r5 (step x H5 y5)) λ_ s6 ⟨σ6,H6,I6,q6⟩=>?_);refine Uy hp (cN (hb _ s6 σ6 H6 _ I6 q6) λf s7 q7=>?_);have again:∀{σ7:St}{H7:Hp},Inv X (pins++qE fp s5.heap) σ7 H7 s7->N σ7 H7->∃m,m<n/\∃i σ' H',Inv X pins σ' H' s7/\tn i s7.heap/\(∀b∈fp,H' b=none)/\W i m σ' H':=λ{σ7 H7} I7 n7=>by
   obtain⟨m',hm,w7⟩:=hN σ7 H7 n7;refine⟨m',hm,i+1,σ7,H7,I7.unpinned,T.keep _ _ _ st5 λb hb o e=>(I7.pin (b,o) (PY _ (PY _ (jA hb e)))).1,λb hb=>?_,w7⟩;obtain⟨o,e,d⟩:=T.obj _ _ st5 b hb;exact(I7.pin (b,o) (PY _ (PY _ (jA hb e)))).2.1
  cases f with
  |next=>obtain⟨σ7,H7,I7,n7⟩:=q7;exact again I7 n7
  |cont=>obtain⟨σ7,H7,I7,n7⟩:=q7;exact again I7 n7
  |brk=>obtain⟨σ7,H7,I7,q7⟩:=q7;exact⟨σ7,H7,I7.unpinned,q7⟩
  |ret v=>obtain⟨x7,σ7,H7,I7,r7,q7⟩:=q7;exact⟨x7,σ7,H7,I7.unpinned,r7,q7⟩
end
noncomputable abbrev R2:=V->V->Hp->VK->Prop
noncomputable def iL(X:Cx)(f:T2->T2->Sem T2)(r:R2):Prop:=
 ∀(pins:bf)(s:T8)(σ:St)(H:Hp)(x y:V)(v u:T2)(Q:VK),Inv X pins σ H s->RelV x v->RelV y u->r x y H Q->
  Ul (model X.prog X.w) X.A (f v u) (EP X pins σ Q) X.xe s
noncomputable def Nr(X:Cx)(f:T2->Sem T2)(r:V->Hp->VK->Prop):Prop:=
 ∀(pins:bf)(s:T8)(σ:St)(H:Hp)(x:V)(v:T2)(Q:VK),Inv X pins σ H s->RelV x v->r x H Q->
  Ul (model X.prog X.w) X.A (f v) (EP X pins σ Q) X.xe s
noncomputable def dW(X:Cx)(f:T2)(r:aJ->Hp->VK->Prop):Prop:=
 ∀(pins:bf)(s:T8)(σ:St)(H:Hp)(xs:aJ)(us:aU)(Q:VK),Inv X pins σ H s->Vals xs us->r xs H Q->
  Ul (model X.prog X.w) X.A (call f us) (EP X pins σ Q) X.xe s
noncomputable def Mp(X:Cx)(r:V->Hp->(Bool->Hp->Prop)->Prop):Prop:=
 ∀(pins:bf)(s:T8)(σ:St)(H:Hp)(x:V)(v:T2)(Q:Bool->Hp->Prop),Inv X pins σ H s->RelV x v->r x H Q->
  Ul (model X.prog X.w) X.A (truthy v) (TP X pins σ Q) X.xe s
noncomputable def J9(r:R2)(ta tb:TE):TE:=λσ H Q=>ta σ H λx H1=>tb σ H1 λy H2=>r x y H2 Q
noncomputable def N8(r:V->Hp->VK->Prop)(ta:TE):TE:=λσ H Q=>ta σ H λx H1=>r x H1 Q
noncomputable def rI(C:Int->Int->Prop)(g:Int->Int->V):R2:=λx y H Q=>∃i j,x=.int i/\y=.int j/\C i j/\Q (g i j) H
noncomputable def zI(g:Int->Int->V):R2:=λx y H Q=>∃i j,x=.int i/\y=.int j/\Q (g i j) H
noncomputable def rU(g:Int->V):V->Hp->VK->Prop:=λx H Q=>∃i,x=.int i/\Q (g i) H
section
variable{X:Cx}{a b c:T6}{ta tb tc:TE}{pos:Pos}
theorem J0(ha:PE X a ta)(hb:PE X b tb){pins:bf}{s:T8}{σ:St}{H:Hp}{R:V->V->Hp->Prop}(I:Inv X pins σ H s)
  (h:ta σ H λx H1=>tb σ H1 λy H2=>R x y H2) {Q:bh} {f:T2->T2->Sem T2}
  (hf:∀v u s2 x y H2,Inv X pins σ H2 s2->RelV x v->RelV y u->R x y H2->Ul (model X.prog X.w) X.A (f v u) Q X.xe s2):
  Ul (model X.prog X.w) X.A (eval a X.env) (λv s₁=>Ul (model X.prog X.w) X.A (eval b X.env) (λu s₂=>Ul (model X.prog X.w) X.A (f v u) Q X.xe s₂) X.xe s₁) X.xe s:=by
 refine cN (ha pins s σ H _ I h) λv s1 ⟨x,H1,I1,r1,q1⟩=>?_;refine cN (hb pins s1 σ H1 _ I1 q1) λu s2 ⟨y,H2,I2,r2,q2⟩=>?_;exact hf v u s2 x y H2 I2 r1 r2 q2
theorem K8{op:Operator}{r:R2}(ho:iL X (Uz op) r)(ha:PE X a ta)(hb:PE X b tb):PE X (.BinOp a op b pos) (J9 r ta tb):=by
 intro pins s σ H Q I h;exact wpAny_BinOp (J0 ha hb I h λv u s2 x y H2 I2 rx ry q=>ho pins s2 σ H2 x y v u Q I2 rx ry q)
theorem J6{op:UnaryOp}{r:V->Hp->VK->Prop}(ho:Nr X (unaryOp op) r)(ha:PE X a ta):PE X (.UnaryOp op a pos) (N8 r ta):=by
 intro pins s σ H Q I h;exact UnaryOp_ (cN (ha pins s σ H _ I h) λv s1 ⟨x,H1,I1,r1,q1⟩=>ho pins s1 σ H1 x v Q I1 r1 q1)
theorem Ky{f:T2->T2->Sem T2}{C:Int->Int->Prop}{g:Int->Int->Int}
  (rule:∀(i j:Int)(t u:Tok)(s:T8)(Q:bh)(E:bh),C i j->Q (.int (g i j) s.toks) {s with toks:=s.toks+1}->Ul (model X.prog X.w) X.A (f (.int i t) (.int j u)) Q E s):
  iL X f (rI C λi j=>.int (g i j)):=by
 intro pins s σ H x y v u Q I rx ry h;obtain⟨i,j,rfl,rfl,hc,q⟩:=h;obtain⟨t,rfl⟩:=rx;obtain⟨t',rfl⟩:=ry;exact rule i j t t' s _ _ hc ⟨.int (g i j),H,I.tok _,⟨_,rfl⟩,q⟩
theorem HY{f:T2->T2->Sem T2}{g:Int->Int->Int}
  (rule:∀(i j:Int)(t u:Tok)(s:T8)(Q:bh)(E:bh),Q (.int (g i j) s.toks) {s with toks:=s.toks+1}->Ul (model X.prog X.w) X.A (f (.int i t) (.int j u)) Q E s):
  iL X f (zI λi j=>.int (g i j)):=by
 intro pins s σ H x y v u Q I rx ry h;obtain⟨i,j,rfl,rfl,q⟩:=h;obtain⟨t,rfl⟩:=rx;obtain⟨t',rfl⟩:=ry;exact rule i j t t' s _ _ ⟨.int (g i j),H,I.tok _,⟨_,rfl⟩,q⟩
theorem Ep{f:T2->T2->Sem T2}{g:Int->Int->Bool}
  (rule:∀(i j:Int)(t u:Tok)(s:T8)(Q:bh)(E:bh),Q (.bool (g i j)) s->Ul (model X.prog X.w) X.A (f (.int i t) (.int j u)) Q E s):
  iL X f (zI λi j=>.bl (g i j)):=by
 intro pins s σ H x y v u Q I rx ry h;obtain⟨i,j,rfl,rfl,q⟩:=h;obtain⟨t,rfl⟩:=rx;obtain⟨t',rfl⟩:=ry;exact rule i j t t' s _ _ ⟨.bl (g i j),H,I,rfl,q⟩
noncomputable def Ki(i j:Int):Prop:=0<=j/\j<=1000000/\i.natAbs<2^64
noncomputable def Ii(i j:Int):Prop:=(-(2^64)<i/\i<2^64)\/(-(2^64)<j/\j<2^64)
theorem Ii.ok{i j:Int}(h:Ii i j):IntMulOk i j:=by
 rcases h with⟨h1,h2⟩|⟨h1,h2⟩
 ·exact .of_left (intBits_le_64 h1 h2)
 ·exact .of_right (intBits_le_64 h1 h2)
theorem ye(k:Nat):(0:Int)<=2^k:=by
 rw[two_pow_cast];exact Int.natCast_nonneg _
theorem HZ:iL X (Uz .Add) (zI λi j=>.int (i+j)):=HY λ_ _ _ _ _ _ _ q=>add_int q
theorem Ie:iL X (Uz .Sub) (zI λi j=>.int (i-j)):=HY λ_ _ _ _ _ _ _ q=>sub_int q
theorem Dx:iL X (Uz .Mult) (rI Ii λi j=>.int (i*j)):=Ky λ_ _ _ _ _ _ _ hc q=>mul_int q hc.ok
theorem Ip:iL X (Uz .Mod) (rI (λ_ j=>0<j) λi j=>.int (i%j)):=Ky λi j _ _ _ _ _ hc q=>by
 have h1:(0:Int)<j:=hc;exact mod_int' ‹0› (by rw[Int.fmod_eq_emod_of_nonneg i ‹0›];exact q)
theorem Jq:iL X (Uz .Pow) (rI Ki λi j=>.int (i^j.toNat)):=Ky λ_ _ _ _ _ _ _ hc q=>pow_int_small hc.1 hc.2.1 hc.2.2 q
theorem JG:iL X (Uz .RShift) (rI (λ_ j=>0<=j) λi j=>.int (i/2^j.toNat)):=Ky λi j _ _ _ _ _ hc q=>
 rshift_int hc (by rw[PZ i (ye _)];exact q)
theorem JI:iL X (Uz .BitAnd) (zI λi j=>.int (Builtin.bitAnd i j)):=HY λ_ _ _ _ _ _ _ q=>and_int q
theorem Ph{f:T2->Sem T2}{g:Int->Int}
  (rule:∀(i:Int)(t:Tok)(s:T8)(Q:bh)(E:bh),Q (.int (g i) s.toks) {s with toks:=s.toks+1}->Ul (model X.prog X.w) X.A (f (.int i t)) Q E s):
  Nr X f (rU λi=>.int (g i)):=by
 intro pins s σ H x v Q I rx h;obtain⟨i,rfl,q⟩:=h;obtain⟨t,rfl⟩:=rx;exact rule i t s _ _ ⟨.int (g i),H,I.tok _,⟨_,rfl⟩,q⟩
theorem Ib:Nr X (unaryOp .USub) (rU λi=>.int (-i)):=Ph λ_ _ _ _ _ q=>neg_int q
end
section
variable{X:Cx}{a b c:T6}{ta tb tc:TE}{pos:Pos}
theorem CY{pins:bf}{σ:St}{H:Hp}{s:T8}{Q:VK}{k k':Bool}(I:Inv X pins σ H s)(q:Q (.bl k) H)(e:k=k'):EP X pins σ Q (.bool k') s:=by
 subst e;exact⟨.bl k,H,I,rfl,q⟩
theorem J8:iL X (UA .Lt) (zI λi j=>.bl (decide (i<j))):=Ep λ_ _ _ _ _ _ _ q=>lt_int q
theorem tT:iL X (UA .LtE) (zI λi j=>.bl (decide (i<=j))):=Ep λ_ _ _ _ _ _ _ q=>le_int q
theorem G3:iL X (UA .Gt) (zI λi j=>.bl (decide (j<i))):=Ep λ_ _ _ _ _ _ _ q=>gt_int q
theorem Hm:iL X (UA .GtE) (zI λi j=>.bl (decide (j<=i))):=Ep λ_ _ _ _ _ _ _ q=>ge_int q
theorem zQ:iL X (UA .Lt) (λx y H Q=>∃i j,x=.str i/\y=.str j/\Q (.bl (decide (i.cps.toList<j.cps.toList))) H):=by
 intro pins s σ H x y v u Q I rx ry h;obtain⟨i,j,rfl,rfl,q⟩:=h;obtain⟨t,rfl⟩:=rx;obtain⟨t',rfl⟩:=ry;exact lt_str (CY I q rfl)
theorem gE(b:T6){op:UB}(h:op≠.In:=by decide)(h2:op≠.NotIn:=by decide):UC op b=false:=by
 have e1:(op==CmpOp.In)=false:=by cases op<;>first|rfl|exact absurd rfl h
 have e2:(op==CmpOp.NotIn)=false:=by cases op<;>first|rfl|exact absurd rfl h2
 cases b<;>simp[UC,e1,e2]
theorem EV{op:UB}{r:R2}(ho:iL X (UA op) r)(ha:PE X a ta)(hb:PE X b tb)(hm:UC op b=false):PE X (.Compare a [op] [b] pos) (J9 r ta tb):=by
 intro pins s σ H Q I h;exact wpAny_Compare1 (J0 ha hb I h λv u s2 x y H2 I2 rx ry q=>ho pins s2 σ H2 x y v u Q I2 rx ry q) hm
noncomputable def Cr(t:TE):TT:=λσ H Q=>t σ H λx H'=>∃k,x=.bl k/\Q k H'
theorem GV{op:UB}{r:R2}(ho:iL X (UA op) r)(ha:PE X a ta)(hb:PE X b tb)(hm:UC op b=false):PT X (.Compare a [op] [b] pos) (Cr (J9 r ta tb)):=by
 intro pins s σ H Q I h;refine wpAny_isTrue_Compare1 (cN (ha pins s σ H _ I h) λv s1 ⟨x,H1,I1,r1,q1⟩=>cN (hb pins s1 σ H1 _ I1 q1) λu s2 ⟨y,H2,I2,r2,q2⟩=>
  cN (ho pins s2 σ H2 x y v u _ I2 r1 r2 q2) λc s3 ⟨z,H3,I3,r3,k,e,q3⟩=>?_) hm
 subst e;cases r3;exact Ur ⟨H3,I3,q3⟩
noncomputable def xW(r r':R2)(ta tb tc:TE):TE:=λσ H Q=>ta σ H λx H1=>tb σ H1 λy H2=>r x y H2 λz H3=>∃k,z=.bl k/\
 (if k=true then tc σ H3 λw' H4=>r' y w' H4 Q else Q (.bl false) H3)
theorem Bj{op op':UB}{r r':R2}(ho:iL X (UA op) r)(ho':iL X (UA op') r')(ha:PE X a ta)(hb:PE X b tb)(hc:PE X c tc)
  (hm:lastMarks [op,op'] [b,c]=false:=by with_unfolding_all rfl):PE X (.Compare a [op,op'] [b,c] pos) (xW r r' ta tb tc):=by
 intro pins s σ H Q I h;refine Compare_chain (cN (ha pins s σ H _ I h) λv s1 ⟨x,H1,I1,r1,q1⟩=>chain_link (cN (hb pins s1 σ H1 _ I1 q1) λu s2 ⟨y,H2,I2,r2,q2⟩=>
  cN (ho pins s2 σ H2 x y v u _ I2 r1 r2 q2) λd s3 ⟨z,H3,I3,r3,k,e,q3⟩=>?_)) hm
 subst e;cases r3;refine Ur ?_;cases k with
 |false=>exact ite_ff ⟨.bl false,H3,I3,rfl,q3⟩
 |true=>exact ite_tt (chain_last (cN (hc pins s3 σ H3 _ I3 q3) λw' s4 ⟨z',H4,I4,r4,q4⟩=>ho' pins s4 σ H4 y z' u w' Q I4 r2 r4 q4))
theorem Di{op op':UB}{r r':R2}(ho:iL X (UA op) r)(ho':iL X (UA op') r')(ha:PE X a ta)(hb:PE X b tb)(hc:PE X c tc)
  (hm:lastMarks [op,op'] [b,c]=false:=by with_unfolding_all rfl):PT X (.Compare a [op,op'] [b,c] pos) (Cr (xW r r' ta tb tc)):=by
 intro pins s σ H Q I h;refine isTrue_chain (cN (ha pins s σ H _ I h) λv s1 ⟨x,H1,I1,r1,q1⟩=>test_link (cN (hb pins s1 σ H1 _ I1 q1) λu s2 ⟨y,H2,I2,r2,q2⟩=>
  cN (ho pins s2 σ H2 x y v u _ I2 r1 r2 q2) λd s3 ⟨z,H3,I3,r3,k,e,q3⟩=>?_)) hm
 subst e;cases r3;refine Ur ?_;cases k with
 |false=>
  obtain⟨k',e',q'⟩:=q3;cases e';exact ite_ff ⟨H3,I3,q'⟩
 |true=>
  refine ite_tt (test_last (cN (hc pins s3 σ H3 _ I3 q3) λw' s4 ⟨z',H4,I4,r4,q4⟩=>cN (ho' pins s4 σ H4 y z' u w' _ I4 r2 r4 q4) λd' s5 ⟨z2,H5,I5,r5,k2,e2,q5⟩=>?_));subst e2;cases r5;exact Ur ⟨H5,I5,q5⟩
noncomputable def Lh(K:SH)(x:V)(H:Hp)(k:Bool):Prop:=
 match x with
 |.non=>k=false
 |.bl b=>k=b
 |.int i=>k=(i !=0)
 |.str y=>y.length<=Ud/\k=((y.length:Int) !=0)
 |.byt y=>y.size<=Ud/\k=((y.size:Int) !=0)
 |.ref p=>(∃xs,md K H p xs/\k=!xs.isEmpty)\/(∃xs,nA K H p xs/\k=!xs.isEmpty)\/∃kvs,H p=some (.dK kvs)/\k=!kvs.isEmpty
 |_=>False
theorem xC{κ:Type}{kvs:List (κ×V)}{vs:List (κ×T2)}(r:KV kvs vs):(!vs.isEmpty)=!kvs.isEmpty:=by
 cases r<;>rfl
theorem qc{xs:aJ}{its:aU}(r:Vals xs its):(!its.toArray.isEmpty)=!xs.isEmpty:=by
 cases r<;>simp
theorem nM:(Ud:Nat)<2^63:=by rw[UD];decide
theorem JM:Mp X (λx H Q=>∃k,Lh X.K x H k/\Q k H):=by
 intro pins s σ H x v Q I rx h;obtain⟨k,e,q⟩:=h;have hl:=nM;have hs:Ud=16777216:=UD;cases x with
 |non=>
  cases rx;have e':k=false:=e;subst e';exact truthy_none ⟨H,I,q⟩
 |bl b=>
  cases rx;have e':k=b:=e;subst e';exact Ur ⟨H,I,q⟩
 |int i=>
  obtain⟨t,rfl⟩:=rx;have e':k=(i !=0):=e;subst e';exact PySem.P.truthy_int ⟨H,I,q⟩
 |str y=>
  obtain⟨t,rfl⟩:=rx;obtain⟨hy,e'⟩:y.length<=Ud/\k=((y.length:Int) !=0):=e;subst e';exact PySem.P.truthy_str ‹0› ⟨H,I.tok _,q⟩
 |byt y=>
  obtain⟨t,rfl⟩:=rx;obtain⟨hy,e'⟩:y.size<=Ud/\k=((y.size:Int) !=0):=e;subst e';exact PySem.W.truthy_bytes ‹0› ⟨H,I.tok _,q⟩
 |ref p=>
  cases rx;have e':(∃xs,md X.K H p xs/\k=!xs.isEmpty)\/(∃xs,nA X.K H p xs/\k=!xs.isEmpty)\/∃kvs,H p=some (.dK kvs)/\k=!kvs.isEmpty:=e;rcases e' with⟨xs,hx,e'⟩|⟨xs,hx,e'⟩|⟨kvs,hx,e'⟩
  ·subst e';obtain⟨its,r,pl,hz⟩:=I.list hx;have hlen:=r.length;exact wpAny_truthy_list pl.isList (by simp only[P0];omega) ⟨H,I.tok _,by rw[qc r];exact q⟩
  ·subst e';obtain⟨its,r,pl,hz⟩:=I.tuple hx;have hlen:=r.length;exact truthy_tuple pl (by simp only[P0];omega) ⟨H,I.tok _,by rw[qc r];exact q⟩
  ·subst e';obtain⟨hz,hS,vs,r,m⟩:kvs.length<=Ud/\(p==sysModules)=false/\∃vs,KV kvs vs/\s.heap.DictOf (bN X.prog X.w) p vs:=I.hok p _ hx;have hlen:kvs.length=vs.length:=Paired.length r;exact wpAny_truthy_dict hS m ‹0› ⟨H,I.tok _,by rw[xC r];exact q⟩
 |_=>exact(show False from e).elim
theorem C1(ha:PE X a ta)(he:∀whole,isTrue a X.env whole=(do let v<-whole;standAt a.pos;holding [v] (truthy v))):
  PT X a (λσ H Q=>ta σ H λx H'=>∃k,Lh X.K x H' k/\Q k H'):=by
 intro pins s σ H Q I h;exact isTrue_plain (cN (ha pins s σ H _ I h) λv s1 ⟨x,H1,I1,r1,q1⟩=>JM pins s1 σ H1 x v Q I1 r1 q1) (he _)
theorem xH:iL X (Uz .Add) (λx y H Q=>∃i j,x=.str i/\y=.str j/\i.length+j.length<=Ud/\Q (.str (i++j)) H):=by
 intro pins s σ H x y v u Q I rx ry h;obtain⟨i,j,rfl,rfl,hz,q⟩:=h;obtain⟨t,rfl⟩:=rx;obtain⟨t',rfl⟩:=ry;exact add_str (λt' tk=>⟨.str (i++j),H,I.tok _,⟨_,rfl⟩,q⟩) hz
theorem vals1{x:V}{us:aU}(r:Vals [x] us):∃u,us=[u]/\RelV x u:=by
 cases r with
 |cons r1 r2=>cases r2;exact⟨_,rfl,r1⟩
theorem vals2{x y:V}{us:aU}(r:Vals [x,y] us):∃u w',us=[u,w']/\RelV x u/\RelV y w':=by
 cases r with
 |cons r1 r2=>
  cases r2 with
  |cons r3 r4=>cases r4;exact⟨_,_,rfl,r1,r3⟩
theorem zC(hc:X.calm=true):dW X (.builtin "max") (λxs H Q=>∃i j,xs=[.int i,.int j]/\Q (.int (if j>i then j else i)) H):=by
 intro pins s σ H xs us Q I r h;obtain⟨i,j,rfl,q⟩:=h;obtain⟨u,w',rfl,⟨t,rfl⟩,⟨t',rfl⟩⟩:=vals2 r;refine max_two_ints (I.ok.hd hc) λh' tk k=>⟨_,H,I.kept k,?_,q⟩
 by_cases hj:j>i
 ·rw[if_pos hj,if_pos hj];exact⟨_,rfl⟩
 ·rw[if_neg hj,if_neg hj];exact⟨_,rfl⟩
theorem z8(hc:X.calm=true):dW X (.builtin "min") (λxs H Q=>∃i j,xs=[.int i,.int j]/\Q (.int (if j<i then j else i)) H):=by
 intro pins s σ H xs us Q I r h;obtain⟨i,j,rfl,q⟩:=h;obtain⟨u,w',rfl,⟨t,rfl⟩,⟨t',rfl⟩⟩:=vals2 r;refine min_two_ints (I.ok.hd hc) λh' tk k=>⟨_,H,I.kept k,?_,q⟩
 by_cases hj:j<i
 ·rw[if_pos hj,if_pos hj];exact⟨_,rfl⟩
 ·rw[if_neg hj,if_neg hj];exact⟨_,rfl⟩
theorem rZ:dW X (.type "int") (λxs H Q=>(∃i,xs=[.int i]/\Q (.int i) H)\/∃k,xs=[.bl k]/\Q (.int (if k then 1 else 0)) H):=by
 intro pins s σ H xs us Q I r h;rcases h with⟨i,rfl,q⟩|⟨k,rfl,q⟩
 ·obtain⟨u,rfl,t,rfl⟩:=vals1 r;exact call_int_int ⟨.int i,H,I,⟨_,rfl⟩,q⟩
 ·obtain⟨u,rfl,r1⟩:=vals1 r;cases r1;exact call_int_bool ⟨.int (if k then 1 else 0),H,I.tok _,⟨_,rfl⟩,q⟩
end
structure Ak(h:Uc)(x dx C:T5)(mA:cB):Prop where
 obj:h.get? x=some (SF C dx)
 ns:h.Ns1 dx mA
 ne:dx≠x
theorem zW{h:Uc}{dx:T5}{mA:cB}(n:h.Ns1 dx mA):∃od,h.get? dx=some od/\∀name,SJ name od=some (mA name):=by
 obtain⟨o,es,ep,ho,hd,hk,_,hm⟩:=n;refine⟨o,ho,λname=>?_⟩;have e:=hm name;unfold nsFind findBy at e;rw[<-Array.find?_toList]at e;unfold SJ;rw[hd];dsimp only;split
 ·rename_i y q;rw[q]at e;exact congrArg some e
 ·rename_i q;rw[q]at e;have a:es.toList.any (·.refKey)=false:=by
   rw[List.any_eq_false];intro y hy;obtain⟨z,t,hkey⟩:=hk y (Array.mem_toList_iff.mp hy);simp[DictEntry.refKey,hkey]
  have a':¬es.toList.any (·.refKey)=true:=by rw[a];exact P4
  rw[if_neg a'];exact congrArg some e
theorem Ak.look{h:Uc}{x dx C:T5}{mA:cB}(I:Ak h x dx C mA):∃od,PySem.W.InstAt h x (SF C dx) C (some od)/\∀name,SJ name od=some (mA name):=
 let ⟨od,ho,hl⟩:=zW I.ns
 ⟨od,⟨I.obj,rfl,rfl,ho⟩,hl⟩
section
variable{prog:Ua}{w:T9}{A:Uj}{E:bh}{s:T8}{K:SH}{x dx C f:T5}{mA:cB}{name:Str}{v:T2}
theorem Ey{expr:Bool}{Q:bh}(X:K.In s.heap)(I:Ak s.heap x dx C mA)(hg:SK K C name=true)(hh:SL K C=true)
  (ha:SM K (.ref C) name=some none) (hv:mA name=some v) (hv':SN v=true) (h:Q v {s with toks:=s.toks+1}):
  Ul (model prog w) A (getAttr (.ref x) name expr) Q E s:=by
 obtain⟨od,J,hl⟩:=I.look;exact PySem.W.get_value X J (SR hg).1 (PySem.W.findObj_own hh ha rfl (by rw[hl,hv])) hv' h
theorem BX{pl:Sem Bool}{Q:T2×List T2->cP}(X:K.In s.heap)(I:Ak s.heap x dx C mA)(hg:SK K C name=true)
  (hf:SM K (.ref C) name=some (some (.ref f))) (ht:SU K (.ref f)=true) (hv:mA name=none) (h:Q (.ref f,[.ref x]) s):
  Ul (model prog w) A (getMethod (.ref x) name pl) Q E s:=by
 obtain⟨od,J,hl⟩:=I.look;exact PySem.W.method_fn X J (SR hg).1 (SR hg).2 hf (beq_iff_eq.mp ht) (by show(SJ name od).map (·.isSome)=some false;rw[hl,hv];rfl) h
theorem Gv{ns:ax}{Q:Unit->cP}(X:K.In s.heap)(I:Ak s.heap x dx C mA)
  (hs:SM K (.ref C) "__setattr__"=some (some (.builtin "object.__setattr__"))) (hp:SV K C=true) (ht:SW K C name=some none) (hh:SL K C=true)
  (hw:PySem.Within mA ns) (hsz:ns.length<=Ud)
  (h:∀h',Ak h' x dx C (λy=>if y=name then some v else mA y)->Tn dx s.heap h'->Q () {s with heap:=h',toks:=s.toks+2}):
  Ul (model prog w) A (setAttr (.ref x) name v) Q E s:=by
 obtain⟨od,J,hl⟩:=I.look;refine PySem.W.set_plain X J hs (PySem.W.osa_open (s:={s with toks:=s.toks+1}) (r:=none) X J hp ht λb=>?_);obtain⟨cd,hc,hd'⟩:=PySem.W.any_some hh;have hx:s.heap.get? x=some ⟨.ref C,some dx,.plain,#[]⟩:=I.obj;refine Uu (Ut (Uu (Uu (wpAny_loadPart hx (Uu (PySem.W.Looks.here (s:={s with toks:=s.toks+1}) (PySem.W.looks_clsIn X hc) ?_))))));rw[hd'];refine Ut (a:=some dx) (Uu (Ut (Uu ?_)));refine wpAny_nsSet1 (s:={s with toks:=s.toks+1}) I.ns λh' hn2 hs2=>?_;obtain⟨oD,esD,epD,hoD,hdD,hcD⟩:=hn2.count (PySem.Within.cons name v hw);refine Uu (wpAny_lookBehind hoD (by rw[hdD];exact pastItsLine_dict (PD hcD (by rw[P5];omega))) ?_);exact Ut (h _ ⟨(hs2.2 _ (Ne.symm I.ne)).trans I.obj,hn2,I.ne⟩ hs2)
theorem Cb{R:UE->cP}{vs:aU}{kw:List (Str×T2)}(X:K.In s.heap)(hm:SY K C=true)
  (hi:SM K (.ref C) "__init__"=some (some (.ref f))) (hf:PySem.W.typeIn K (.ref f)=some (.type "function"))
  (h:UG (model prog w) (A.under (.builtin "type.__call__" ⟨.ref C::vs,kw⟩)) (.call (.ref f) ⟨.ref (s.heap.objs.size+1)::vs,kw⟩) (PySem.W.InitBack (s.heap.objs.size+1) R)
   {s with heap:=(s.heap.push SZ).push (SF C s.heap.objs.size)}):
  UG (model prog w) A (.call (.ref C) ⟨vs,kw⟩) R s:=by
 obtain⟨hh,g,d,t,os⟩:=s;exact PySem.W.make_core (PySem.W.makes_of X hm) (PySem.W.looks_findIn X hi) (λself=>PySem.W.bind_fn X self hf) (.inl rfl) h
end
noncomputable def jT(f:Str)(v:V):List (Str×V)->List (Str×V)
 |[]=>[(f,v)]
 |(g,x)::r=>if g=f then(g,v)::r else(g,x)::jT f v r
theorem oz(f g:Str)(v:V):∀fs:List (Str×V),(jT f v fs).lookup g=if g=f then some v else fs.lookup g
 |[]=>by
  show List.lookup g [(f,v)]=_;by_cases h:g=f
  ·have hb:(g==f)=true:=beq_iff_eq.mpr h;simp only[List.lookup,hb,if_pos h]
  ·have hb:(g==f)=false:=beq_eq_false_iff_ne.mpr h;simp only[List.lookup,hb,if_neg h]
 |(k,x)::r=>by
  have ih:=oz f g v r;rw[show jT f v ((k,x)::r)=(if k=f then(k,v)::r else(k,x)::jT f v r)from rfl];by_cases hk:k=f
  ·rw[if_pos hk];by_cases h:g=k
   ·have hb:(g==k)=true:=beq_iff_eq.mpr h;simp only[List.lookup,hb,if_pos (h.trans hk)]
   ·have hb:(g==k)=false:=beq_eq_false_iff_ne.mpr h;simp only[List.lookup,hb,if_neg (λe:g=f=>h (e.trans hk.symm))]
  ·rw[if_neg hk];by_cases h:g=k
   ·have hb:(g==k)=true:=beq_iff_eq.mpr h;simp only[List.lookup,hb,if_neg (λe:g=f=>hk (h.symm.trans e))]
   ·have hb:(g==k)=false:=beq_eq_false_iff_ne.mpr h;simp only[List.lookup,hb];exact ih
theorem oo(f:Str)(v:V):∀fs:List (Str×V),f∈(jT f v fs).map (·.1)/\∀g,g∈fs.map (·.1)->g∈(jT f v fs).map (·.1)
 |[]=>⟨by simp[jT],λg h=>by simp at h⟩
 |(k,x)::r=>by
  obtain⟨i1,i2⟩:=oo f v r;rw[show jT f v ((k,x)::r)=(if k=f then(k,v)::r else(k,x)::jT f v r)from rfl];by_cases hk:k=f
  ·rw[if_pos hk];subst hk;exact⟨by simp,λg h=>by simpa using h⟩
  ·rw[if_neg hk];refine⟨?_,λg h=>?_⟩
   ·rw[P6];exact PL _ i1
   ·rw[P6]at h ⊢;rcases List.mem_cons.mp h with e|e
    ·exact List.mem_cons.mpr (.inl e)
    ·exact PL _ (i2 g e)
theorem oA(f:Str)(v:V):∀fs:List (Str×V),(jT f v fs).length<=fs.length+1
 |[]=>by simp[jT]
 |(k,x)::r=>by
  have ih:=oA f v r;rw[show jT f v ((k,x)::r)=(if k=f then(k,v)::r else(k,x)::jT f v r)from rfl];by_cases hk:k=f
  ·rw[if_pos hk,P5,P5];omega
  ·rw[if_neg hk,P5,P5];omega
theorem oR.some_of{v:V}{o:Option T2}(r:oR (some v) o):∃u,o=some u/\RelV v u:=by
 cases o with
 |none=>exact(show False from r).elim
 |some u=>exact⟨u,rfl,r⟩
theorem oR.none_of{o:Option T2}(r:oR none o):o=none:=by
 cases o with
 |none=>rfl
 |some u=>exact(show False from r).elim
theorem zX{v:V}{u:T2}(r:RelV v u):SN u=true:=by
 cases v with
 |non=>cases(show u=Value.none from r);rfl
 |bl b=>cases(show u=Value.bool b from r);rfl
 |int i=>obtain⟨t,e⟩:=(show∃t,u=Value.int i t from r);cases e;rfl
 |str x=>obtain⟨t,e⟩:=(show∃t,u=Value.str x t from r);cases e;rfl
 |byt b=>obtain⟨t,e⟩:=(show∃t,u=Value.bytes b t from r);cases e;rfl
 |flt b=>obtain⟨t,e⟩:=(show∃t,u=Value.float b t from r);cases e;rfl
 |ref a=>cases(show u=Value.ref a from r);rfl
 |ty n=>cases(show u=Value.type n from r);rfl
section
variable{P:Ua}{w:T9}{H H':Hp}{h h':Uc}{a C dx:T5}{fs fs':List (Str×V)}
theorem ut(hok:mz P w H h)(e:H a=some (.ins C dx fs)):∃mA,Ak h a dx C mA/\(∀f,oR (fs.lookup f) (mA f))/\PySem.Within mA (fs.map (·.1))/\fs.length<=1000/\H dx=some (.own a):=by
 obtain⟨d,z,ne,ob,mA,n,r,q⟩:=(show b9 P w H h a (.ins C dx fs)from hok a _ e)
 exact⟨mA,⟨ob,n,ne⟩,r,q,z,d⟩
end
structure wB(K:SH)(C:T5):Prop where
 pg:SK K C Str.empty=true
 hd:SL K C=true
 po:SV K C=true
 sa:SM K (.ref C) "__setattr__"=some (some (.builtin "object.__setattr__"))
theorem wB.get{K:SH}{C:T5}(c:wB K C)(f:Str):SK K C f=true:=c.pg
noncomputable def jL(K:SH)(C:T5)(f:Str):Prop:=SM K (.ref C) f=some none
theorem jL.taker{K:SH}{C:T5}{f:Str}(n:jL K C f):SW K C f=some none:=by
 unfold SW;rw[show SM K (.ref C) f=some none from n];rfl
structure Meth(K:SH)(C:T5)(m:Str)(f:T5):Prop where
 at_:SM K (.ref C) m=some (some (.ref f))
 fn:SU K (.ref f)=true
 kp:S0 K (.ref f)=true
section
variable{X:Cx}{pins:bf}{σ:St}{H:Hp}{s:T8}{a C dx:T5}{fs:List (Str×V)}{f:Str}{v:V}{A:Uj}{E:bh}
theorem xX{b:Bool}{Q:bh}(I:Inv X pins σ H s)(e:H a=some (.ins C dx fs))(c:wB X.K C)(n:jL X.K C f)(l:fs.lookup f=some v)
  (h:∀u s',Inv X pins σ H s'->RelV v u->Q u s'):Ul (model X.prog X.w) A (getAttr (.ref a) f b) Q E s:=by
 obtain⟨mA,O,r,_,_,_⟩:=ut I.hok e;obtain⟨u,hu,ru⟩:=oR.some_of (v:=v) (o:=mA f) (by rw[<-l];exact r f);exact Ey I.kIn O (c.get f) c.hd n hu (zX ru) (h u _ (I.tok _) ru)
theorem xQ{m:Str}{g:T5}{pl:Sem Bool}{Q:T2×List T2->cP}(I:Inv X pins σ H s)(e:H a=some (.ins C dx fs))(c:wB X.K C)(k:Meth X.K C m g)(l:fs.lookup m=none)
  (h:Q (.ref g,[.ref a]) s):Ul (model X.prog X.w) A (getMethod (.ref a) m pl) Q E s:=by
 obtain⟨mA,O,r,_,_,_⟩:=ut I.hok e;have hn:mA m=none:=oR.none_of (by rw[<-l];exact r m);exact BX I.kIn O (c.get m) k.at_ k.fn hn h
theorem xF{y:V}{u:T2}{Q:Unit->cP}(I:Inv X pins σ H s)(e:H a=some (.ins C dx fs))(c:wB X.K C)(n:jL X.K C f)(hl:fs.length<1000)(ry:RelV y u)
  (h:∀s',Inv X pins σ (upd H a (.ins C dx (jT f y fs))) s'->Q () s'):Ul (model X.prog X.w) A (setAttr (.ref a) f u) Q E s:=by
 obtain⟨mA,O,r,wi,_,ho⟩:=ut I.hok e;have hz:(fs.map (·.1)).length<=Ud:=by rw[P7,UD];omega
 refine Gv I.kIn O c.sa c.po n.taker c.hd wi hz λh' O' sb=>h _ ?_;have hd:∃o,h'.get? dx=some o:=let ⟨o,_,_,e',_⟩:=O'.ns;⟨o,e'⟩
 refine I.write (x:=a) (e:=dx) (by rw[e];exact True.intro) (.inr ho) (λb q hb z=>(sb.2 b hb).trans z) hd ?_;refine⟨by rw[ao O.ne];exact ho,?_,O.ne,O'.obj,_,O'.ns,λg=>?_,λg hg=>?_⟩
 ·have:=oA f y fs;omega
 ·show oR ((jT f y fs).lookup g) (if g=f then some u else mA g);rw[oz];by_cases q:g=f
  ·rw[if_pos q,if_pos q];exact ry
  ·rw[if_neg q,if_neg q];exact r g
 ·by_cases q:g=f
  ·rw[q];exact(oo f y fs).1
  ·refine(oo f y fs).2 g (wi g λz=>hg ?_);show(if g=f then some u else mA g)=none;rw[if_neg q];exact z
theorem Inv.made(I:Inv X pins σ H s):Inv X pins σ (upd (upd H s.heap.objs.size (.own (s.heap.objs.size+1))) (s.heap.objs.size+1) (.ins C s.heap.objs.size []))
  {s with heap:=(s.heap.push SZ).push (SF C s.heap.objs.size)}:=by
 have e1:(s.heap.push SZ).get? s.heap.objs.size=some SZ:=Tp s.heap rfl;have e2:((s.heap.push SZ).push (SF C s.heap.objs.size)).get? (s.heap.objs.size+1)=some (SF C s.heap.objs.size):=by
  have:=Tp (s.heap.push SZ) (o:=SF C s.heap.objs.size) rfl
  rwa [Tq]at this
 have e3:(s.heap.push SZ).Ns s.heap.objs.size (λ_=>none):=⟨SZ,#[],_,e1,rfl,(λe he=>absurd he (by simp)),λ_=>rfl⟩
 have I1:=I.laid (a:=s.heap.objs.size) (o:=.own (s.heap.objs.size+1)) (h':=s.heap.push SZ) (t':=s.toks) (λb u q=>To _ q) (PX _) ⟨_,e1⟩;refine I1.laid (a:=s.heap.objs.size+1) (o:=.ins C s.heap.objs.size []) (t':=s.toks) (λb u q=>To _ q) (P8 (Tq _ _)) ?_;have ne:s.heap.objs.size≠s.heap.objs.size+1:=PC (Nat.lt_succ_self _);refine⟨by rw[ao ne,ay],P9 _,ne,e2,λ_=>none,(Heap.Ns1.of_empty e3).at λo q=>To _ q,λ_=>True.intro,λy hy=>absurd rfl hy⟩
theorem Gk{prog:Ua}{w:T9}{env:Env}{e:T6}{f:Str}{pos:Pos}{s:T8}{Q:bh}(hb:UH e f env (eval e env)=eval e env)
  (h:Ul (model prog w) A (eval e env) (λo s₁=>Ul (model prog w) A (getAttr o f true) Q E s₁) E s):Ul (model prog w) A (eval (.Attribute e f pos) env) Q E s:=
 Attribute_any_ h (by rw[arm_eval_Attribute,hb])
end
noncomputable def Mh(K:SH)(ta:TE)(f:Str):TE:=λσ H Q=>ta σ H λx H1=>∃a C dx fs v,x=.ref a/\H1 a=some (.ins C dx fs)/\wB K C/\jL K C f/\fs.lookup f=some v/\Q v H1
noncomputable def MM(K:SH)(ta tv:TE)(f:Str):TS:=λD σ H=>tv σ H λy H1=>ta σ H1 λx H2=>∃a C dx fs,x=.ref a/\H2 a=some (.ins C dx fs)/\wB K C/\jL K C f/\fs.length<1000/\
 D.nx σ (upd H2 a (.ins C dx (jT f y fs)))
section
variable{X:Cx}{o e value:T6}{f:Str}{pos pos' tpos:Pos}{ta tv:TE}
theorem Iz(he:PE X e ta)(hb:UH e f X.env (eval e X.env)=eval e X.env):PE X (.Attribute e f pos) (Mh X.K ta f):=by
 intro pins s σ H Q I h;refine Gk hb (cN (he pins s σ H _ I h) λu s1 ⟨x,H1,I1,rx,a,C,dx,fs,v,ex,ea,c,n,l,q⟩=>?_);subst ex;obtain rfl:u=Value.ref a:=rx;exact xX I1 ea c n l λu' s2 I2 ru=>⟨v,H1,I2,ru,q⟩
theorem Jz(ha:PE X o ta)(hv:PE X value tv)(hs:swapsWith value (some (.Attribute o f pos')) pos.line X.env=pure false):PS X (.Assign [.Attribute o f pos'] value pos) (MM X.K ta tv f):=by
 intro pins s σ H D I h;refine plainObj_wpAny_Assign_Attribute (cN (hv pins s σ H _ I h) λu s1 ⟨y,H1,I1,ry,q⟩=>cN (ha pins s1 σ H1 _ I1 q) λov s2 h2=>?_) hs;obtain⟨x,H2,I2,rx,a,C,dx,fs,ex,ea,c,n,l,q2⟩:=h2;subst ex;obtain rfl:ov=Value.ref a:=rx;exact xF I2 ea c n l ry λs3 I3=>⟨σ,_,I3,q2⟩
theorem v7{pl:Sem Bool}{m:Str}{apos:Pos}{args:bx}{pins:bf}{s:T8}{σ:St}{H:Hp}{Q:bh}{te:TE}(he:PE X e te)(I:Inv X pins σ H s)
  (h:te σ H fun x H1=>∃ a C dx fs g,x=.ref a/\H1 a=some (.ins C dx fs)/\wB X.K C/\Meth X.K C m g/\fs.lookup m=none /\
   ∀s1,Inv X pins σ H1 s1->Ul (model X.prog X.w) X.A (UI pos (.ref g) [.ref a] (backTo pos (Um args X.env)) (backToKw pos (UJ [] X.env))) Q X.xe s1)
  (ht:eval (.Call (.Attribute e m apos) args [] pos) X.env=(do
   let ov<-eval e X.env
   standAt apos.atName
   let (f,first)<-holding [ov] (getMethod ov m pl)
   UI pos f first (backTo pos (Um args X.env)) (backToKw pos (UJ [] X.env)))):
  Ul (model X.prog X.w) X.A (eval (.Call (.Attribute e m apos) args [] pos) X.env) Q X.xe s:=by
 refine PySem.W.methodCall_KW (pl:=pl) (cN (he pins s σ H _ I h) λu s1 ⟨x,H1,I1,rx,a,C,dx,fs,g,ex,ea,c,k,l,q⟩=>?_) ht;subst ex;obtain rfl:u=Value.ref a:=rx;exact xQ I1 ea c k l (q s1 I1)
end
structure eY(k:Nat)(A:Uj):Prop where
 hd:A.handled=none
 dp:A.depth+3*k+5<UK
 un:A.units+16*k+200<UL
theorem eY.mono{j k:Nat}{A:Uj}(r:eY k A)(h:j<=k):eY j A:=⟨r.hd,by have:=r.dp;omega,by have:=r.un;omega⟩
theorem eY.deeper{k:Nat}{A:Uj}(r:eY (k+1) A)(env:Env):eY k (A.deeper env):=
 ⟨r.hd,by have:=r.dp;show A.depth+1+3*k+5<_;omega,by have:=r.un;show A.units+3+16*k+200<_;omega⟩
theorem xN{A:Uj}{C:T5}{us:aU}{kw:List (Str×T2)}:(A.under (.builtin "type.__call__" ⟨.ref C::us,kw⟩)).depth=A.depth+1:=by
 first|rfl|simp[Around.under,Code.weight,Code.isCreation,Code.isGuard,Code.isCaller,Code.frames,Code.isFrame,guardIds]
theorem xP{A:Uj}{C:T5}{us:aU}{kw:List (Str×T2)}:(A.under (.builtin "type.__call__" ⟨.ref C::us,kw⟩)).units=A.units+1:=by
 first|rfl|simp[Around.under,Code.cUnits,Code.frames,Code.isFrame]
theorem eY.make{k:Nat}{A:Uj}(r:eY (k+1) A)(C:T5)(us:aU)(kw:List (Str×T2)):eY k (A.under (.builtin "type.__call__" ⟨.ref C::us,kw⟩)):=
 ⟨r.hd,by have:=r.dp;rw[xN];omega,by have:=r.un;rw[xP];omega⟩
theorem eY.depth{k:Nat}{A:Uj}(r:eY k A):A.depth<UK:=by have:=r.dp;omega
theorem eY.units{k:Nat}{A:Uj}(r:eY k A):A.units+64<UL:=by have:=r.un;omega
noncomputable def Ln:TA:=λ_ H Q=>Q [] H
noncomputable def Ho(ta:TE)(tr:TA):TA:=λσ H Q=>ta σ H λx H1=>tr σ H1 λxs H2=>Q (x::xs) H2
section
variable{X:Cx}{e:T6}{es:bx}{te:TE}{t:TA}{pos:Pos}
theorem iI:PA X [] Ln:=λ_ _ _ _ H Q I h=>Calls.spliced_nil ⟨[],H,I,.nil,h⟩
theorem gq(ha:PE X e te)(hr:PA X es t)(hs:Um (e::es) X.env=(false,eval e X.env)::Um es X.env:=by rfl):PA X (e::es) (Ho te t):=by
 intro pos pins s σ H Q I h;rw[hs];show Ul _ _ (spliced ((false,eval e X.env)::backTo pos (Um es X.env))) _ _ s;refine Calls.spliced_cons (cN (ha pins s σ H _ I h) λu s1 ⟨x,H1,I1,r1,q1⟩=>?_);exact cN (hr pos pins s1 σ H1 _ I1 q1) λus s2 ⟨xs,H2,I2,r2,q2⟩=>⟨x::xs,H2,I2,.cons r1 r2,q2⟩
noncomputable def MD(t:TA):TE:=λσ H Q=>t σ H λxs H1=>xs.length<=Ud/\∀p,H1 p=none->Q (.ref p) (upd H1 p (.tup xs))
noncomputable def NY(t:TA):TE:=λσ H Q=>t σ H λxs H1=>xs.length<=Ud/\∀p,H1 p=none->Q (.ref p) (upd H1 p (.lst xs))
theorem Je{x1}(h:PA X es t):PE X (.Tuple es x1 pos) (MD t):=by
 intro pins s σ H Q I hq;refine wpAny_Tuple_spliced (cN (h pos pins s σ H _ I hq) λus s1 ⟨xs,H1,I1,r,z,q⟩=>⟨by rw[<-r.length];exact z,?_⟩);have hf:H1 s1.heap.objs.size=none:=I1.hok.fresh (PX _);refine⟨.ref s1.heap.objs.size,upd H1 s1.heap.objs.size (.tup xs),I1.laid (t':=s1.toks) (λb u e=>To _ e) (PX _) ?_,rfl,q _ hf⟩;exact⟨z,us,r,⟨_,Tp _ rfl,rfl,_,rfl⟩⟩
theorem n6(h:PA X es t):PE X (.List es pos) (NY t):=by
 intro pins s σ H Q I hq;refine wpAny_List_spliced (cN (h pos pins s σ H _ I hq) λus s1 ⟨xs,H1,I1,r,z,q⟩=>⟨by rw[<-r.length];exact z,?_⟩);have hf:H1 s1.heap.objs.size=none:=I1.hok.fresh (PX _);refine⟨.ref s1.heap.objs.size,upd H1 s1.heap.objs.size (.lst xs),I1.laid (t':=s1.toks) (λb u e=>To _ e) (PX _) ?_,rfl,q _ hf⟩;exact⟨z,us,0,r,Tp _ rfl⟩
end
noncomputable abbrev Sp:=List V->Hp->VK->XK->Prop
noncomputable abbrev wC:=List Env->Hp->T8->XK->bh
structure Ah(P:Ua)(w:T9)(K:SH)(mg:cB)(base:Uc)(A:Uj)(outer:List Env)(s:T8)(H:Hp):Prop where
 frames:A.frames=some outer
 mod:Mod K mg base
 bs:∀b o,base.get? b=some o->s.heap.get? b=some o/\H b=none
 bsz:base.objs.size<=s.heap.objs.size
 funs:s.heap.FunFrames base outer
 frf:∀b∈frs outer,H b=none
 hok:mz P w H s.heap
 bare:AllBare s.gens
noncomputable def CE(outer:List Env)(P:Ua)(w:T9)(H:Hp)(s:T8)(Q:VK)(u:T2)(s':T8):Prop:=
 ∃v H',s'.os=s.os/\AllBare s'.gens/\Un (frs outer) [] H H' s.heap s'.heap/\mz P w H' s'.heap/\RelV v u/\Q v H'
noncomputable def CR(CX:wC)(outer:List Env)(P:Ua)(w:T9)(H:Hp)(s:T8)(Q:VK)(E:XK)(r:UE)(s':T8):Prop:=
 match r with
 |.ok (.ret u)=>CE outer P w H s Q u s'
 |.ok _=>False
 |.error e=>CX outer H s E e s'
structure ir(P:Ua)(w:T9)(K:SH)(mg:cB)(base:Uc)(CX:wC)(k:Nat)(f:T5)(fd:UM)(ps:ax)(sp:Sp):Prop where
 len:∀vs H Q E,sp vs H Q E->vs.length=ps.length
 run:∀(A:Uj)(outer:List Env)(s:T8)(H:Hp)(args:Args)(us:aU)(vs:aJ)(Q:VK)(E:XK),eY k A->Ah P w K mg base A outer s H->UN s fd args (ps.zip us)->Vals vs us->sp vs H Q E->
  UG (model P w) A (.call (.ref f) args) (CR CX outer P w H s Q E) s
theorem ir.mono{P:Ua}{w:T9}{K:SH}{mg:cB}{base:Uc}{CX:wC}{j k:Nat}{f:T5}{fd:UM}{ps:ax}{sp:Sp}(F:ir P w K mg base CX j f fd ps sp)(h:j<=k):
  ir P w K mg base CX k f fd ps sp:=⟨F.len,λA outer s H args us vs Q E hr=>F.run A outer s H args us vs Q E (hr.mono h)⟩
theorem Ah.make{P:Ua}{w:T9}{K:SH}{mg:cB}{base:Uc}{A:Uj}{outer:List Env}{s:T8}{H:Hp}(e:Ah P w K mg base A outer s H)(C:T5)(us:aU)(kw:List (Str×T2)):
  Ah P w K mg base (A.under (.builtin "type.__call__" ⟨.ref C::us,kw⟩)) outer s H:=⟨by first|exact e.frames|(simpa [Around.under,Code.envs,Code.isFrame,pushEnvs]using e.frames),e.mod,e.bs,e.bsz,e.funs,e.frf,e.hok,e.bare⟩
section
variable{X:Cx}{pins:bf}{σ:St}{H:Hp}{s s':T8}
theorem Inv.env0(I:Inv X pins σ H s):Ah X.prog X.w X.K X.mg X.base X.A X.stack s H:=
 ⟨I.ok.frames,I.ok.mod,I.bs,PD I.ok.bsz I.sz,I.stack,I.stkFree,I.hok,I.bare⟩
theorem Inv.after{Q:VK}{u:T2}(I:Inv X pins σ H s)(h:CE X.stack X.prog X.w H s Q u s'):EP X pins σ Q u s':=by
 obtain⟨v,H',os,bare,un,hok,r,q⟩:=h;obtain⟨hh,g,d,t,os'⟩:=s';obtain rfl:os'=s.os:=os;exact⟨v,H',I.call (h':=hh) (g':=g) (d':=d) (t':=t) (ch:=[]) un hok bare (λb z=>absurd z (by simp)),r,q⟩
end
noncomputable def LA(C:T5)(sp:Sp)(dvs:aJ)(E:XK)(t:TA):TE:=λσ H Q=>t σ H λvs H1=>∀x dx,H1 x=none->H1 dx=none->dx≠x->
 sp (.ref x::(vs++dvs)) (upd (upd H1 dx (.own x)) x (.ins C dx [])) (λv H2=>v=.non/\Q (.ref x) H2) E
noncomputable def Binds(K:SH)(fd:UM)(ps:ax)(ds:aU):Prop:=
 ∀(s:T8)(us:aU),K.In s.heap->(us++ds).length=ps.length->UN s fd ⟨us,[]⟩ (ps.zip (us++ds))
theorem Binds.all{K:SH}{fd:UM}{ps:ax}(h:∀us:aU,us.length=ps.length->bindArgs fd ⟨us,[]⟩=pure (ps.zip us)):Binds K fd ps []:=λs us _ hl=>by
 rw[Qa]at hl ⊢;exact .of_eq (h us hl)
noncomputable def xf(CX:wC)(X:Cx)(E:XK):Prop:=∀(pins:bf)(σ:St)(H:Hp)(s:T8)(e:T2)(s':T8),Inv X pins σ H s->CX X.stack H s E e s'->X.xe e s'
section
variable{X:Cx}{CX:wC}{k:Nat}{f C:T5}{fd:UM}{ps:ax}{sp:Sp}{dvs:aJ}{ds:aU}{E:XK}{x m:Str}{p pos apos:Pos}{e o:T6}{es:bx}{ta:TE}{t:TA}
structure Mk(K:SH)(C f:T5):Prop where
 makes:SY K C=true
 init:SM K (.ref C) "__init__"=some (some (.ref f))
 fn:SU K (.ref f)=true
 kp:S0 K (.ref C)=true
theorem CV{pins:bf}{σ:St}{H:Hp}{s:T8}{Q:VK}{us:aU}{vs:aJ}(M:Mk X.K C f)(F:ir X.prog X.w X.K X.mg X.base CX k f fd ps sp)(hr:eY (k+1) X.A)(hb:Binds X.K fd ps ds)(hd:Vals dvs ds)
  (hx:xf CX X E) (I:Inv X pins σ H s) (r:Vals vs us)
  (h:∀x dx,H x=none->H dx=none->dx≠x->sp (.ref x::(vs++dvs)) (upd (upd H dx (.own x)) x (.ins C dx [])) (λv H2=>v=.non/\Q (.ref x) H2) E):
  Ul (model X.prog X.w) X.A (call (.ref C) us) (EP X pins σ Q) X.xe s:=by
 have hq:=h (s.heap.objs.size+1) s.heap.objs.size (I.hok.fresh (Qb _)) (I.hok.fresh (PX _)) (PC (Nat.lt_succ_self _));have I2:=Inv.made (C:=C) I;have r2:Vals (V.ref (s.heap.objs.size+1)::(vs++dvs)) (Value.ref (s.heap.objs.size+1)::(us++ds)):=.cons rfl (r.append hd);have hl:(Value.ref (s.heap.objs.size+1)::us++ds).length=ps.length:=by
  have e:=r2.length;rw[F.len _ _ _ _ hq]at e;exact e.symm
 refine UO (Cb (f:=f) I.kIn M.makes M.init (beq_iff_eq.mp M.fn) (UP (F.run _ X.stack _ _ ⟨Value.ref (s.heap.objs.size+1)::us,[]⟩ (Value.ref (s.heap.objs.size+1)::(us++ds)) _ _ E (hr.make C us [])
  (I2.env0.make C us []) (hb _ (Value.ref (s.heap.objs.size+1)::us) I2.kIn hl) r2 hq) λr s' hq'=>?_))
 cases r with
 |error e=>exact hx pins σ _ _ e s' I2 hq'
 |ok fl=>
  cases fl with
  |ret u=>
   obtain⟨v,H',I3,rv,ev,q3⟩:=I2.after hq';subst ev;exact⟨rv,⟨V.ref (s.heap.objs.size+1),H',I3,rfl,q3⟩⟩
  |next=>exact False.elim hq'
  |brk=>exact False.elim hq'
  |cont=>exact False.elim hq'
theorem GO(M:Mk X.K C f)(F:ir X.prog X.w X.K X.mg X.base CX k f fd ps sp)(hr:eY (k+1) X.A)(hg:Gl X x)(hm:X.mg x=some (.ref C))(hb:Binds X.K fd ps ds)(hd:Vals dvs ds)(hx:xf CX X E)
  (ha:PA X (e::es) t) (hdb:(x==("__debug__":Str))=false:=by decide) (he:Um (e::es) X.env=(false,eval e X.env)::Um es X.env:=by rfl) (hpl:(backTo pos (Um es X.env)).any (·.1)=false:=by rfl):
  PE X (.Call (.Name x p) (e::es) [] pos) (LA C sp dvs E t):=by
 intro pins s σ H Q I h;refine UQ (uE I hg hm ?_ hdb);refine S4 (h₀:=X.base) I.ok.mod.kin M.kp (cN (ha pos pins s σ H _ I h) λus s1 ⟨vs,H1,I1,r,q⟩=>⟨I1.kIn,?_⟩) he hpl;exact CV M F hr hb hd hx I1 r q
end
noncomputable def PK(X:Cx)(kws:List UR)(t:TA):Prop:=
 ∀(pos:Pos)(pins:bf)(s:T8)(σ:St)(H:Hp)(Q:aJ->Hp->Prop),Inv X pins σ H s->t σ H Q->Ul (model X.prog X.w) X.A (evalAll ((backToKw pos (UJ kws X.env)).map (·.2))) (AP X pins σ Q) X.xe s
section
variable{X:Cx}{CX:wC}{k:Nat}{f C:T5}{fd:UM}{ps ks:ax}{sp:Sp}{E:XK}{x m:Str}{p pos apos kpos:Pos}{e o:T6}{es:bx}{kws:List UR}{te ta:TE}{t tk:TA}{nm:Option Str}
theorem IM:PK X [] Ln:=λ_ _ _ _ H Q I h=>wpAny_evalAll_nil ⟨[],H,I,.nil,h⟩
theorem Gu(ha:PE X e te)(hr:PK X kws t):PK X (⟨nm,e,kpos⟩::kws) (Ho te t):=by
 intro pos pins s σ H Q I h;show Ul _ _ (evalAll ((do let v<-eval e X.env;standAt pos;pure v)::(backToKw pos (UJ kws X.env)).map (·.2))) _ _ s;refine wpAny_evalAll_cons (Uu (cN (ha pins s σ H _ I h) λu s1 ⟨x,H1,I1,r1,q1⟩=>Uu (UT (Ut ?_))));exact cN (hr pos pins s1 σ H1 _ I1 q1) λus s2 ⟨xs,H2,I2,r2,q2⟩=>⟨x::xs,H2,I2,.cons r1 r2,q2⟩
variable{g:aU->aU->aU}{gV:aJ->aJ->aJ}
end
structure dD(N P:ax)(sc:Uk):Prop where
 kind:sc.kind=.function
 co:sc.isCoroutine=false
 gen:sc.isGenerator=false
 nd:N.Nodup
 pre:N.take P.length=P
 par:∀x∈P,sc.names.lookup x=some .local\/sc.names.lookup x=some .cell
 nofree:∀y∈sc.names,y.2≠.free
theorem tJ{kindOf:Str->Option T3}{x:Str}:∀{binds:List (Str×T2)}{m:cB},(∀v,(x,v)∉binds)->bindL kindOf binds m x=m x
 |[],_,_=>rfl
 |(n,v)::r,m,h=>by
  unfold bindL;rw[tJ λw hw=>h w (PL _ hw)];split
  ·have:x≠n:=(by rintro rfl;exact h v PJ);simp[this]
  ·rfl
theorem sr{kindOf:Str->Option T3}{x:Str}:∀{binds:List (Str×T2)}{m:cB},(∀v,(x,v)∉binds)->bindC kindOf binds m x=m x
 |[],_,_=>rfl
 |(n,v)::r,m,h=>by
  unfold bindC;rw[sr λw hw=>h w (PL _ hw)];split
  ·rfl
  ·have:x≠n:=(by rintro rfl;exact h v PJ);simp[this]
theorem sC{kindOf:Str->Option T3}{x:Str}{v:T2}:∀{P:ax}{vs:aU}{i:Nat}{m:cB},P.Nodup->P[i]?=some x->vs[i]?=some v->kindOf x=some .local->
  bindL kindOf (P.zip vs) m x=some v
 |[],_,_,_,_,h,_,_=>by simp at h
 |_::_,[],_,_,_,_,h,_=>by simp at h
 |p::P,w::vs,0,m,nd,h1,h2,hk=>by
  simp at h1 h2;subst h1;subst h2;show bindL kindOf ((p,w)::P.zip vs) m p=_;unfold bindL;rw[tJ λv hv=>(List.nodup_cons.mp nd).1 (Qc hv).1,if_pos hk];simp
 |p::P,w::vs,i+1,m,nd,h1,h2,hk=>by
  show bindL kindOf ((p,w)::P.zip vs) m x=_;unfold bindL;exact sC (i:=i) (List.nodup_cons.mp nd).2 (by simpa using h1) (by simpa using h2) hk
theorem sV{kindOf:Str->Option T3}{x:Str}{v:T2}:∀{P:ax}{vs:aU}{i:Nat}{m:cB},P.Nodup->P[i]?=some x->vs[i]?=some v->kindOf x≠some .local->
  bindC kindOf (P.zip vs) m x=some v
 |[],_,_,_,_,h,_,_=>by simp at h
 |_::_,[],_,_,_,_,h,_=>by simp at h
 |p::P,w::vs,0,m,nd,h1,h2,hk=>by
  simp at h1 h2;subst h1;subst h2;show bindC kindOf ((p,w)::P.zip vs) m p=_;unfold bindC;rw[sr λv hv=>(List.nodup_cons.mp nd).1 (Qc hv).1,if_neg hk];simp
 |p::P,w::vs,i+1,m,nd,h1,h2,hk=>by
  show bindC kindOf ((p,w)::P.zip vs) m x=_;unfold bindC;exact sV (i:=i) (List.nodup_cons.mp nd).2 (by simpa using h1) (by simpa using h2) hk
noncomputable def start(N:ax)(vs:aJ):St:=vs.map some++List.replicate (N.length-vs.length) none
noncomputable def ie(CX:wC)(P:Ua)(w:T9)(K:SH)(mg:cB)(base:Uc)(N:ax)(qual:Str)(scope:Uk)(f:T5)(cd:T2)(A:Uj)(outer:List Env)(s:T8)(H:Hp)(E:XK):Cx where
 prog:=P
 w:=w
 K:=K
 mg:=mg
 base:=base
 A:=A.deeper (envOfC qual scope s.heap.objs.size f cd)
 N:=N
 s₀:=s
 H₀:=H
 env:=envOfC qual scope s.heap.objs.size f cd
 outer:=outer
 stack:=envOfC qual scope s.heap.objs.size f cd::outer
 ex:=[]
 calm:=true
 fn:=λ_=>true
 pn:=[]
 xe:=λe s'=>Ul (model P w) (A.deeper (envOfC qual scope s.heap.objs.size f cd)) (leaving (envOfC qual scope s.heap.objs.size f cd) e) (λ_ s''=>CX outer H s E e s'') (λe' s''=>CX outer H s E e' s'') s'
theorem vK{sc:Uk}{n:Nat}{x:Str}(h:sc.names.lookup x=some .cell):∃c,(cellsFrom n sc.names []).lookup x=some c:=by
 have q:=S5 sc.names n [] (.inl h);exact Option.isSome_iff_exists.mp q
theorem Ad{CX:wC}{P:Ua}{w:T9}{K:SH}{mg:cB}{base:Uc}{N ps:ax}{qual:Str}{scope:Uk}{f:T5}{cd:T2}{A:Uj}{outer:List Env}{s s1:T8}{H:Hp}{E:XK}{us:aU}{vs:aJ}
  (S:dD N ps scope) (hd:A.handled=none) (e0:Ah P w K mg base A outer s H) (hl:vs.length=ps.length) (r:Vals vs us)
  (x:InCallC s s.heap.objs.size (bindL (envOfC qual scope s.heap.objs.size f cd).kindOf (ps.zip us) λ_=>none) (cellsFrom (s.heap.objs.size+1) scope.names []) (bindC (envOfC qual scope s.heap.objs.size f cd).kindOf (ps.zip us) λ_=>none) s1):
  Inv (ie CX P w K mg base N qual scope f cd A outer s H E) [] (start N vs) H s1:=by
 have hpl:ps.length<=N.length:=by have:=congrArg List.length S.pre;rw[Qd]at this;omega
 obtain⟨h1,tk,rfl,hk⟩:=x.done;have noA:∀b:T5,b∉(ie CX P w K mg base N qual scope f cd A outer s H E).ex:=λb z=>absurd (show b∈([]:az)from z) (by simp);refine⟨⟨e0.mod,S.kind,rfl,rfl,PX _,λy z c h1 h2=>?_,λy hy=>?_,λy c _ h=>?_,λ_=>hd,Around.frames_deeper e0.frames,.inr ⟨rfl,rfl⟩,λb z=>absurd z (noA b),e0.bs,e0.bsz,λb _ _=>noA b,λb z=>absurd z (noA b),e0.funs,e0.frf⟩,
  rfl,e0.bare,Un.kept hk,⟨_,x.toInCall.ns,λi y v h1 h2 h3=>?_⟩,λy c h=>⟨_,x.cell y c h⟩,e0.hok.fresh (PX _),λy c h=>?_,λp hp=>absurd (show p∈([]:bf)from hp) (by simp),e0.hok.kept hk,?_⟩
 ·exact name_of_addr x.apart (PySem.mem_of_lookup h1) (PySem.mem_of_lookup h2)
 ·have hy:scope.names.lookup y=some .cell\/scope.names.lookup y=some .free:=hy;rcases hy with hy|hy
  ·exact vK hy
  ·exact absurd rfl (S.nofree _ (PySem.mem_of_lookup hy))
 ·exact PF (x.above y c (PySem.mem_of_lookup h))
 ·have hi:i<vs.length:=by
   unfold start at h2;by_cases hi:i<vs.length
   ·exact hi
   ·rw[Qe (by simpa using hi)]at h2;rw[Qf]at h2;split at h2<;>cases h2
  have ha:vs[i]?=some v:=by
   unfold start at h2;rw[Qg (by simpa using hi),Qh]at h2;cases e:vs[i]? with
   |none=>rw[e]at h2;cases h2
   |some a=>rw[e]at h2;cases h2;rfl
  obtain⟨u,hu,rv⟩:=r.get ha;have hp:ps[i]?=some y:=by
   rw[<-S.pre,List.getElem?_take_of_lt ‹0›];exact h1
  have ndP:ps.Nodup:=by rw[<-S.pre];exact S.nd.sublist (List.take_sublist _ _)
  refine⟨u,rv,?_⟩;rcases S.par y (Qi hp)with k|k
  ·exact .inl ⟨k,sC ndP hp hu k⟩
  ·obtain⟨c,e⟩:=vK (n:=s.heap.objs.size+1) k;refine .inr ⟨.inl k,c,e,?_⟩;have q:=x.cell y c e;rw[sV ndP hp hu (by show scope.names.lookup y≠_;rw[k];decide)]at q;exact q
 ·exact e0.hok.fresh (PF (x.above y c (PySem.mem_of_lookup h)))
 ·unfold start;show _=N.length;rw[Qj,P7,List.length_replicate];omega
theorem De{CX:wC}{P:Ua}{w:T9}{K:SH}{mg:cB}{base:Uc}{k:Nat}{f:T5}{name qual:Str}{params:UU}{body:eJ}{scope:Uk}{dV kV doc pm cdv ct oc:T2}{an od:Option T5}
  {osl:Array (Option T2)} {N ps:ax} {sp:Sp} (lk:K.lookup f=some ⟨oc,od,.func (S6 name qual params body scope dV kV doc pm an cdv ct),osl⟩) (hcd:S7 K cdv qual=true) (S:dD N ps scope)
  (len:∀vs H Q E,sp vs H Q E->vs.length=ps.length)
  (hbody:∀ (A:Uj) (outer:List Env) (s:T8) (H:Hp) (vs:aJ) (Q:VK) (E:XK),eY k (A.deeper (envOfC qual scope s.heap.objs.size f cdv))->sp vs H Q E ->
   ∃t,wy (ie CX P w K mg base N qual scope f cdv A outer s H E) body t/\t {nx:=λ_ H'=>Q .non H',rt:=Q} (start N vs) H):
  ir P w K mg base CX (k+1) f (S6 name qual params body scope dV kV doc pm an cdv ct) ps sp:=by
 refine⟨len,λA outer s H args us vs Q E hr e0 hb r hsp=>?_⟩;have hl:=len _ _ _ _ hsp;have KX:K.In s.heap:=e0.mod.kin.keeps λb o e=>(e0.bs b o e).1;have lim:s.heap.NoLimit:=e0.mod.nolimit.keeps λb o e=>(e0.bs b o e).1;have hkind:∀y∈ps.zip us,scope.names.lookup y.1=some .local\/(scope.names.lookup y.1=some .cell/\((cellsFrom (s.heap.objs.size+1) scope.names []).lookup y.1).isSome=true):=λ⟨n,v⟩ hy=>by
  rcases S.par n (Qc hy).1 with q|q
  ·exact .inl q
  ·exact .inr ⟨q,S5 _ _ _ (.inl q)⟩
 refine codeAny_call_function hr.depth (KX _ _ lk) rfl S.co S.gen rfl (PySem.W.codeRec_of KX hcd) (hb _ _ _ _ ?_);refine wpAny_newFunctionEnv_cells S.kind hkind λenv he s1 x=>?_;subst he;refine⟨lim.keeps x.toInCall.keep,codeAny_func ?_⟩;obtain⟨t,ht,hq⟩:=hbody A outer s H vs Q E (hr.deeper _) hsp;have I:Inv (ie CX P w K mg base N qual scope f cdv A outer s H E) [] (start N vs) H s1:=Ad S hr.hd e0 hl r x;refine Uo (ht [] s1 (start N vs) H _ I hq) (λfl s' hs=>?_) λe s' hs=>hs;have fin:∀{σ':St}{H':Hp}{v:V}{u:T2},Inv (ie CX P w K mg base N qual scope f cdv A outer s H E) [] σ' H' s'->RelV v u->Q v H'->CE outer P w H s Q u s':=
  λ{σ' H' v u} J rv q=>⟨v,H',J.os,J.bare,J.base,J.hok,rv,q⟩
 cases fl with
 |ret u=>
  obtain⟨v,σ',H',J,rv,q⟩:=hs;exact fin J rv q
 |next=>
  obtain⟨σ',H',J,q⟩:=hs;exact fin (v:=V.non) (u:=Value.none) J rfl q
 |brk=>
  obtain⟨_,_,_,q⟩:=hs;exact False.elim q
 |cont=>
  obtain⟨_,_,_,q⟩:=hs;exact False.elim q
section
variable{X:Cx}{x:Str}{p pos:Pos}{e:T6}{es:bx}{t:TA}{id T:String}{r:aJ->Hp->VK->Prop}
noncomputable def Ng(r:aJ->Hp->VK->Prop)(t:TA):TE:=λσ H Q=>t σ H λvs H1=>r vs H1 Q
theorem vX(hc:dW X (.builtin id) r)(hg:Gl X x)(hm:X.mg x=none)(hv:Ui x=some (.builtin id))(ha:PA X (e::es) t)(hn:x≠"__name__":=by decide)(hdb:(x==("__debug__":Str))=false:=by decide)
  (he:Um (e::es) X.env=(false,eval e X.env)::Um es X.env:=by rfl) (hpl:(backTo pos (Um es X.env)).any (·.1)=false:=by rfl):PE X (.Call (.Name x p) (e::es) [] pos) (Ng r t):=by
 intro pins s σ H Q I h;refine UQ (jH I hg hm hv ?_ hn hdb);exact PyProof.Rows.callWith_builtin1 (cN (ha pos pins s σ H _ I h) λus s1 ⟨vs,H1,I1,r1,q1⟩=>hc pins s1 σ H1 vs us Q I1 r1 q1) he hpl
theorem tM(hc:dW X (.type T) r)(hg:Gl X x)(hm:X.mg x=none)(hv:Ui x=some (.type T))(ha:PA X (e::es) t)(hn:x≠"__name__":=by decide)(hdb:(x==("__debug__":Str))=false:=by decide)
  (he:Um (e::es) X.env=(false,eval e X.env)::Um es X.env:=by rfl) (hpl:(backTo pos (Um es X.env)).any (·.1)=false:=by rfl):PE X (.Call (.Name x p) (e::es) [] pos) (Ng r t):=by
 intro pins s σ H Q I h;refine UQ (jH I hg hm hv ?_ hn hdb);exact Tz (cN (ha pos pins s σ H _ I h) λus s1 ⟨vs,H1,I1,r1,q1⟩=>hc pins s1 σ H1 vs us Q I1 r1 q1) he hpl
end
end L2
namespace HT
open PySem PyProof.Rows
theorem Kp(A:Uj)(s:T8)(a:Int)(t:Tok)(c:Int)(u:Tok)(prog:Ua)(w:T9)(E:T2->T8->Prop)(Q:T2->T8->Prop)(h:Q (.bool (decide (a<c))) s):
  Ul (model prog w) A (richCompare .Lt (.int a t) (.int c u)) Q E s:=
 (PyProof.Rows.lt_int h:Ul (model prog w) A (UA .Lt (.int a t) (.int c u)) Q E s)
section
open PySem.SeqAt
open PySem.AutoSeq1 (wpAny_loadPart')
open PySem.MeetsSeq PySem.MeetsSeq2 PySem.MeetsSeq3
end
section
variable{prog:Ua}{w:T9}{A:Uj}{E:T2->T8->Prop}{s:T8}
theorem L6{t b:T5}{vs ws:List T2}{Q:T2->T8->Prop}(ht:Ue s.heap t vs.toArray)(hb:Ue s.heap b ws.toArray)(hv:vs≠[])
  (h1:ws=[]->Q (.ref t) s) (h2:ws≠[]->Q (.ref s.heap.objs.size) {s with heap:=s.heap.push {cls:=.type "tuple",data:=.seq (vs++ws).toArray}})
  (hsz:vs.length+ws.length<=Ud):Ul (model prog w) A (Uz .Add (.ref t) (.ref b)) Q E s:=by
 obtain⟨⟨cls,dd,data,sl⟩,ho,hc,n,hd⟩:=id ht;obtain⟨⟨cls2,dd2,data2,sl2⟩,ho2,hc2,n2,hd2⟩:=id hb;simp only at hc hd hc2 hd2;subst hc hd hc2 hd2;have e:vs.toArray++ws.toArray=(vs++ws).toArray:=by simp
 by_cases hw:ws=[]
 ·exact UV ⟨_,ho,rfl⟩ ⟨_,ho2,rfl⟩ UW UX TR TU (TV _ _)
   (tuple_addW1 t b vs.toArray ws.toArray n n2 dd dd2 sl sl2 (by simpa using hv) (by simp[hw])) ⟨ho,ho2,h1 hw⟩
 ·refine UV ⟨_,ho,rfl⟩ ⟨_,ho2,rfl⟩ UW UX TR TU (TV _ _)
   (tuple_addW2 t b vs.toArray ws.toArray n n2 dd dd2 sl sl2 (by simpa using hv) (by simpa using hw) (by rw[P0,P0];exact hsz)) ⟨ho,ho2,?_⟩
  rw[e];exact h2 hw
noncomputable def sIx(n d:Nat):Option Int->Nat
 |none=>d
 |some v=>if v<0 then(v+(n:Int)).toNat else min v.toNat n
theorem KC(n d:Nat):sIx n d none=d:=rfl
theorem Md(n d k:Nat):sIx n d (some (k:Int))=min k n:=by
 show(if(k:Int)<0 then((k:Int)+(n:Int)).toNat else min (k:Int).toNat n)=min k n;rw[if_neg ‹0›,Qk]
theorem JS(n d:Nat)(hd:d<=n)(o:Option Int):sIx n d o<=n:=by
 cases o with
 |none=>exact hd
 |some v=>
  show(if v<0 then(v+(n:Int)).toNat else min v.toNat n)<=n;by_cases hv:v<0
  ·rw[if_pos hv];omega
  ·rw[if_neg hv];exact Nat.min_le_right _ _
theorem yQ(v:Int)(n d:Nat):(if v<0 then max (v+(n:Int)) 0 else min v (n:Int))=((sIx n d (some v):Nat):Int):=by
 show(if v<0 then max (v+(n:Int)) 0 else min v (n:Int))=(((if v<0 then(v+(n:Int)).toNat else min v.toNat n):Nat):Int)
 by_cases hv:v<0
 ·simp only[if_pos hv];omega
 ·simp only[if_neg hv];omega
theorem xI(lo hi:Option Int)(n:Nat):Builtin.Slice.sliceAdjust lo hi 1 (n:Int)=(((sIx n 0 lo:Nat):Int),((sIx n n hi:Nat):Int)):=by
 have h1:¬((1:Int)<0):=by omega
 unfold Builtin.Slice.sliceAdjust;simp only[h1,if_false];refine Prod.ext ?_ ?_
 ·cases lo with
  |none=>rfl
  |some v=>exact yQ v n 0
 ·cases hi with
  |none=>rfl
  |some v=>exact yQ v n n
theorem wH(i j:Nat):Builtin.Slice.slicePlaces (i:Int) (j:Int) 1=j-i:=by
 unfold Builtin.Slice.slicePlaces;have h1:(1:Int)>0:=by omega
 simp only[h1,if_true,Int.ediv_one];split<;>omega
theorem p6{v:T2}{o:Option Int}{Q:Option Int->T8->Prop}(p:UY v o)(h:Q o s):Ul (model prog w) A (Builtin.Slice.slicePartIndex v) Q E s:=by
 cases p with
 |none=>exact slicePart_none h
 |int i t=>exact slicePart_int h
theorem nY{sl:T5}{vl vu:T2}{lo hi:Option Int}{n:Nat}{Q:Int×Int×Nat->T8->Prop}(hs:s.heap.IsSliceOf sl vl vu .none)(pl:UY vl lo)(pu:UY vu hi)
  (h:Q (((sIx n 0 lo:Nat):Int),1,sIx n n hi-sIx n 0 lo) s):Ul (model prog w) A (Builtin.Slice.sliceApplied (.ref sl) (pure (n:Int))) Q E s:=by
 obtain⟨os,hos,hcs,hds⟩:=id hs;unfold Builtin.Slice.sliceApplied Builtin.Slice.sliceFields;refine Uu (Uu (UZ hos hds (x:=vl) rfl (Uu (UZ hos hds (x:=vu) rfl (Uu (UZ hos hds (x:=.none) rfl (Ut ?_)))))));refine Uu (slicePart_none ?_);show Ul _ _ (if((1:Int)==0)=true then _ else _) _ _ s;rw[if_neg (by decide)];refine Uu (p6 pl (Uu (p6 pu (Uu (Ut ?_)))));show Ul _ _ (match Builtin.Slice.sliceAdjust lo hi 1 (n:Int)with|(lo,hi)=>pure (lo,(1:Int),Builtin.Slice.slicePlaces lo hi 1)) _ _ s;rw[xI lo hi n];show Ul _ _ (pure (((sIx n 0 lo:Nat):Int),(1:Int),Builtin.Slice.slicePlaces ((sIx n 0 lo:Nat):Int) ((sIx n n hi:Nat):Int) 1)) _ _ s;rw[wH];exact Ut h
theorem Ec(xs:Array T2)(i k:Nat):((List.range k).filterMap λ(m:Nat)=>xs[((i:Int)+(m:Int)*1).toNat]?).toArray=((xs.toList.drop i).take k).toArray:=by
 have e:(λ(m:Nat)=>xs[((i:Int)+(m:Int)*1).toNat]?)=λm=>xs[i+m]?:=by
  funext m
  have:((i:Int)+(m:Int)*1).toNat=i+m:=by omega
  rw[this]
 rw[e]
 have:=pick_run xs i k
 rw[List.filterMap_map]at this;have e2:((λx=>xs[x]?)∘λx=>i+x)=λm=>xs[i+m]?:=rfl;rw[e2]at this;rw[this]
theorem yP{t sl:T5}{items:Array T2}{vl vu:T2}{lo hi:Option Int}{Q:T2->T8->Prop}(ht:Ue s.heap t items)(hs:s.heap.IsSliceOf sl vl vu .none)(pl:UY vl lo)(pu:UY vu hi)
  (hw:¬(sIx items.size 0 lo=0/\sIx items.size items.size hi=items.size))
  (h:Q (.ref s.heap.objs.size) {s with heap:=s.heap.push {cls:=.type "tuple",data:=.seq ((items.toList.drop (sIx items.size 0 lo)).take (sIx items.size items.size hi-sIx items.size 0 lo)).toArray}})
  (hsz:items.size<=Ud):Ul (model prog w) A (getItem (.ref t) (.ref sl)) Q E s:=by
 have htake:sizeOk (.seq ((items.toList.drop (sIx items.size 0 lo)).take (sIx items.size items.size hi-sIx items.size 0 lo)).toArray):=by
  show((items.toList.drop (sIx items.size 0 lo)).take (sIx items.size items.size hi-sIx items.size 0 lo)).toArray.size<=Ud;rw[P0,Qd,Ql,Array.length_toList];omega
 have hj:sIx items.size items.size hi<=items.size:=JS _ _ (PX _) hi;obtain⟨os,hos,hcs,hds⟩:=id hs;have hTs:s.TypeIs (.ref sl) "slice":=⟨os,hos,hcs⟩
 unfold getItem
 try with_reducible refine U0 ?_
 first|refine Uu (Ut ?_)|skip
 refine Uu (wpAny_sequenceKey ht.typeIs (by decide) ?_);refine Uu (U1 (name:=Str.ofString "__getitem__") ht.typeIs TB
  (U2 TB ht.typeIs entry_tuple_getitem ?_ (args_tuple_getitem _ _)))
 show Ul _ _ (Builtin.Tuple.tupleItemsOf (.ref t) >>= _) _ _ s;refine Uu (tupleItemsOf_ ht ?_);refine Uu (U3 hTs ?_);rw[if_pos (by decide)];refine Uu (nY hs pl pu ?_);have hno:¬((((sIx items.size 0 lo:Nat):Int)==0&&(1:Int)==1&&(sIx items.size items.size hi-sIx items.size 0 lo)==items.size)=true):=by
  intro q;rw[Qm,Qm]at q;have q1:((sIx items.size 0 lo:Nat):Int)=0:=eq_of_beq q.1.1;have q2:sIx items.size items.size hi-sIx items.size 0 lo=items.size:=eq_of_beq q.2;exact hw ⟨by omega,by omega⟩
 show Ul _ _ (if(((sIx items.size 0 lo:Nat):Int)==0&&(1:Int)==1&&(sIx items.size items.size hi-sIx items.size 0 lo)==items.size)=true then _ else _) _ _ s;rw[if_neg hno,Ec]
 first
  |exact Uu (m:=Builtin.Tuple.tupleExact _) (U4 (Ut ⟨_,rfl,Ut h⟩) htake)
  |exact Uu (m:=Builtin.Tuple.tupleExact _) (U4 (Uu (Ut (Ut ⟨_,rfl,Ut h⟩))) htake)
  |exact Uu (Uu (m:=Builtin.Tuple.tupleExact _) (U4 (Ut (Ut ⟨_,rfl,Ut h⟩)) htake))
  |exact Uu (Uu (m:=Builtin.Tuple.tupleExact _) (U4 (Ut ⟨_,rfl,Ut h⟩) htake))
end
end HT
namespace L2
open PySem PySem.Spec PyProof.Rows
noncomputable abbrev TO:=St->Hp->(dQ->Hp->Prop)->Prop
noncomputable def PO(X:Cx)(e:Option T6)(t:TO):Prop:=
 ∀(pins:bf)(s:T8)(σ:St)(H:Hp)(Q:dQ->Hp->Prop),Inv X pins σ H s->t σ H Q->
  Ul (model X.prog X.w) X.A (evalPart e X.env) (λu s'=>∃o H',Inv X pins σ H' s'/\UY u o/\Q o H') X.xe s
noncomputable def ED:TO:=λ_ H Q=>Q none H
noncomputable def Kw(t:TE):TO:=λσ H Q=>t σ H λx H1=>∃i,x=.int i/\Q (some i) H1
section
variable{X:Cx}{e:T6}{te:TE}{lo hi:Option T6}{tl th:TO}{pos p2:Pos}
theorem Ge:PO X none ED:=by
 intro pins s σ H Q I h;rw[U5];exact Ut ⟨none,H,I,.none,h⟩
theorem GC(h:PE X e te):PO X (some e) (Kw te):=by
 intro pins s σ H Q I hw;rw[evalPart_some];refine cN (h pins s σ H _ I hw) λu s1 ⟨x,H1,I1,r1,q1⟩=>?_;obtain⟨i,rfl,q⟩:=q1;obtain⟨t,rfl⟩:=r1;exact⟨some i,H1,I1,.int i t,q⟩
noncomputable def L4(X:Cx)(r:V->dQ->dQ->Hp->VK->Prop):Prop:=
 ∀(pins:bf)(s:T8)(σ:St)(H:Hp)(x:V)(v vl vu:T2)(lo hi:dQ)(sl:T5)(Q:VK),Inv X pins σ H s->RelV x v->s.heap.IsSliceOf sl vl vu .none->UY vl lo->UY vu hi->r x lo hi H Q->
  ∃T id,typeLookup (.type T) "__getitem__"=pure (some (.builtin id))/\s.TypeIs v T/\Ul (model X.prog X.w) X.A (getItem v (.ref sl)) (EP X pins σ Q) X.xe s
noncomputable def OV(r:V->dQ->dQ->Hp->VK->Prop)(te:TE)(tl th:TO):TE:=λσ H Q=>te σ H λx H1=>tl σ H1 λl H2=>th σ H2 λu H3=>r x l u H3 Q
theorem CF{r:V->dQ->dQ->Hp->VK->Prop}(hr:L4 X r)(he:PE X e te)(hl:PO X lo tl)(hu:PO X hi th):PE X (.Subscript e (.Slice lo hi none p2) pos) (OV r te tl th):=by
 intro pins s σ H Q I h;refine U6 (cN (he pins s σ H _ I h) λv s1 ⟨x,H1,I1,r1,q1⟩=>?_);refine wpAny_Slice (cN (hl pins s1 σ H1 _ I1 q1) λvl s2 ⟨l,H2,I2,pl,q2⟩=>cN (hu pins s2 σ H2 _ I2 q2) λvu s3 ⟨u,H3,I3,pu,q3⟩=>?_);rw[U5];refine Ut ?_;have I4:Inv X pins σ H3 {s3 with heap:=s3.heap.push {cls:=.type "slice",data:=.fields #[vl,vu,.none]}}:=I3.kept (t':=s3.toks) λb ob q=>To _ q;obtain⟨T,id,hT,ht,hg⟩:=hr pins {s3 with heap:=s3.heap.push {cls:=.type "slice",data:=.fields #[vl,vu,.none]}} σ H3 x v vl vu l u s3.heap.objs.size Q I4 r1 (Heap.IsSliceOf.new ..) pl pu q3;show Ul (model X.prog X.w) X.A (subscriptTail e (.Slice lo hi none p2) v (.ref s3.heap.objs.size)) (EP X pins σ Q) X.xe {s3 with heap:=s3.heap.push {cls:=.type "slice",data:=.fields #[vl,vu,.none]}};exact tail_any (ops:=[.ref s3.heap.objs.size,v]) ht hT hg (by with_unfolding_all rfl)
noncomputable def vW(xs:aJ)(lo hi:dQ):aJ:=(xs.drop (HT.sIx xs.length 0 lo)).take (HT.sIx xs.length xs.length hi-HT.sIx xs.length 0 lo)
theorem oB(xs:aJ)(lo hi:dQ):(vW xs lo hi).length<=xs.length:=by
 unfold vW;rw[Qd,Ql];omega
noncomputable def ME(K:SH):V->dQ->dQ->Hp->VK->Prop:=λx lo hi H Q=>∃a xs,x=.ref a/\nA K H a xs/\
 ¬(HT.sIx xs.length 0 lo=0/\HT.sIx xs.length xs.length hi=xs.length)/\∀p,H p=none->Q (.ref p) (upd H p (.tup (vW xs lo hi)))
theorem JR:L4 X (ME X.K):=by
 intro pins s σ H x v vl vu lo hi sl Q I rx hs pl pu h;obtain⟨a,xs,rfl,hx,hw,q⟩:=h;cases rx;obtain⟨its,r,ht,hz⟩:=I.tuple hx;have hlen:its.toArray.size=xs.length:=by rw[P0];exact r.length.symm
 refine⟨"tuple",_,PyProof.Rows.slot_tuple_getitem.lookup,ht.typeIs,?_⟩;refine HT.yP ht hs pl pu (by rw[hlen];exact hw) ?_ (by rw[hlen];exact hz);rw[hlen];refine⟨.ref s.heap.objs.size,_,I.laid (t':=s.toks) (o:=.tup (vW xs lo hi)) (λb ob q=>To _ q) (PX _) ?_,rfl,q _ (I.hok.fresh (PX _))⟩;exact⟨PD (oB xs lo hi) hz,_,(r.drop (HT.sIx xs.length 0 lo)).take (HT.sIx xs.length xs.length hi-HT.sIx xs.length 0 lo),IsTup.new _ _⟩
noncomputable def Kc(K:SH):R2:=λx y H Q=>∃a b xs ys,x=.ref a/\y=.ref b/\nA K H a xs/\nA K H b ys/\xs≠[]/\xs.length+ys.length<=Ud/\
 (ys=[]->Q (.ref a) H)/\(ys≠[]->∀p,H p=none->Q (.ref p) (upd H p (.tup (xs++ys))))
theorem Vals.nil_iff{xs:aJ}{us:aU}(r:Vals xs us):us=[]↔xs=[]:=by
 cases r with
 |nil=>simp
 |cons _ _=>simp
theorem Ff:iL X (Uz .Add) (Kc X.K):=by
 intro pins s σ H x y v u Q I rx ry h;obtain⟨a,b,xs,ys,rfl,rfl,ha,hb,hx,hz,q1,q2⟩:=h;cases rx;cases ry;obtain⟨its,r1,p1,_⟩:=I.tuple ha;obtain⟨its2,r2,p2,_⟩:=I.tuple hb;refine HT.L6 p1 p2 (λz=>hx (r1.nil_iff.mp z)) (λz=>⟨.ref a,H,I,rfl,q1 (r2.nil_iff.mp z)⟩) (λz=>?_) (by rw[<-r1.length,<-r2.length];exact hz);refine⟨.ref s.heap.objs.size,_,I.laid (t':=s.toks) (o:=.tup (xs++ys)) (λb ob q=>To _ q) (PX _) ?_,rfl,q2 (λw=>z (r2.nil_iff.mpr w)) _ (I.hok.fresh (PX _))⟩;exact⟨by rw[Qj];exact hz,_,r1.append r2,IsTup.new _ _⟩
end
noncomputable def CP(n:Nat)(i:Int):Option Nat:=if 0<=i then(if i<n then some i.toNat else none)else if -(n:Int)<=i then some (i+n).toNat else none
noncomputable def lK{α:Type}(xs:List α)(i:Int):Option α:=(CP xs.length i).bind λj=>xs[j]?
theorem Ez{n:Nat}{i:Int}{j:Nat}(h:CP n i=some j):seqIndex? i n=some j/\j<n/\-(n:Int)<=i/\i<n:=by
 unfold CP at h;by_cases h0:0<=i
 ·rw[if_pos h0]at h;by_cases h1:i<n
  ·rw[if_pos h1]at h;have e:i.toNat=j:=Option.some.inj h;exact⟨by rw[seqIndex_of h0 h1,e],by omega,by omega,h1⟩
  ·rw[if_neg h1]at h;cases h
 ·rw[if_neg h0]at h;by_cases h1:-(n:Int)<=i
  ·rw[if_pos h1]at h;have e:(i+n).toNat=j:=Option.some.inj h;exact⟨by rw[seqIndex_neg ‹0› h1,e],by omega,h1,by omega⟩
  ·rw[if_neg h1]at h;cases h
theorem uL{α:Type}{xs:List α}{i:Int}{v:α}(h:lK xs i=some v):∃j,seqIndex? i xs.length=some j/\xs[j]?=some v/\j<xs.length/\-(xs.length:Int)<=i/\i<xs.length:=by
 unfold lK at h;cases e:CP xs.length i with
 |none=>rw[e]at h;cases h
 |some j=>
  rw[e]at h;obtain⟨h1,h2,h3,h4⟩:=Ez e;exact⟨j,h1,h,h2,h3,h4⟩
theorem GQ{α:Type}{xs:List α}{j:Nat}{v:α}(h:xs[j]?=some v):lK xs (j:Int)=some v:=by
 have hj:j<xs.length:=(List.getElem?_eq_some_iff.mp h).1;have e:CP xs.length (j:Int)=some j:=by
  unfold CP;rw[if_pos ‹0›,if_pos ‹0›];simp
 unfold lK;rw[e];exact h
theorem Bw{α:Type}(xs:List α)(v:α):lK (xs++[v]) (-1)=some v:=by
 have hl:(xs++[v]).length=xs.length+1:=by simp
 have e:CP (xs++[v]).length (-1)=some xs.length:=by
  unfold CP;rw[hl,if_neg (by decide),if_pos ‹0›];congr 1;omega
 unfold lK;rw[e];show(xs++[v])[xs.length]?=some v;simp
noncomputable def pE(b:T6):Prop:=∀o i,subscripted b false o i=operate [o,i] (getItem o i)
noncomputable def KN(X:Cx)(r:R2):Prop:=
 ∀(value slice:T6)(pins:bf)(s:T8)(σ:St)(H:Hp)(x y:V)(v u:T2)(Q:VK),Inv X pins σ H s->RelV x v->RelV y u->r x y H Q->
  subscripted slice false v u=operate [v,u] (getItem v u)->Ul (model X.prog X.w) X.A (subscriptTail value slice v u) (EP X pins σ Q) X.xe s
noncomputable def O2(X:Cx)(id:String)(r:V->aJ->Hp->VK->Prop):Prop:=
 ∀(pins:bf)(s:T8)(σ:St)(H:Hp)(x:V)(xs:aJ)(v:T2)(us:aU)(Q:VK),Inv X pins σ H s->RelV x v->Vals xs us->r x xs H Q->
  Ul (model X.prog X.w) X.A (call (.builtin id) (v::us)) (EP X pins σ Q) X.xe s
section
variable{X:Cx}{a b:T6}{ta tb:TE}{pos:Pos}
theorem G5{r:R2}(hr:KN X r)(ha:PE X a ta)(hb:PE X b tb)(hs:pE b):PE X (.Subscript a b pos) (J9 r ta tb):=by
 intro pins s σ H Q I h;exact U6 (J0 ha hb I h λv u s2 x y H2 I2 rx ry q=>hr a b pins s2 σ H2 x y v u Q I2 rx ry q (hs _ _))
noncomputable def NI(K:SH):R2:=λx y H Q=>∃p xs i v,x=.ref p/\y=.int i/\md K H p xs/\lK xs i=some v/\Q v H
noncomputable def Mu(K:SH):R2:=λx y H Q=>∃p xs i v,x=.ref p/\y=.int i/\nA K H p xs/\lK xs i=some v/\Q v H
noncomputable def Nz:R2:=λx y H Q=>∃z i c,x=.str z/\y=.int i/\z.length<=Ud/\lK z.cps.toList i=some c/\Q (.str ⟨#[c]⟩) H
theorem yw:KN X (NI X.K):=by
 intro value slice pins s σ H x y v u Q I rx ry h hs;obtain⟨p,xs,i,z,rfl,rfl,hq,he,q⟩:=h;cases rx;obtain⟨t,rfl⟩:=ry;obtain⟨its,r,pl,hz⟩:=I.list hq;obtain⟨j,h1,h2,h3,h4,h5⟩:=uL he;obtain⟨w,ew,rw'⟩:=r.get h2;have hl:=r.length;have hn:=nM;have fin:EP X pins σ Q w s:=⟨z,H,I,rw',q⟩
 by_cases h0:0<=i
 ·have hj:i.toNat=j:=by
   rw[seqIndex_of h0 h5]at h1;exact Option.some.inj h1
  exact item_listR pl.isList h0 ‹0› (by rw[hj];simpa using ew) fin hs
 ·have hj:(i+(its.toArray.size:Int)).toNat=j:=by
   rw[seqIndex_neg ‹0› h4]at h1;rw[P0,<-hl];exact Option.some.inj h1
  exact subscriptTail_builtinR (x:=w) pl.isList.typeIs slot_list_getitem.lookup
   (wpAny_getItem_list_neg (Q:=λr s'=>r=w/\EP X pins σ Q r s') pl.isList ‹0› (by rw[P0]<;>omega) ‹0› (by rw[hj];simpa using ew) ⟨rfl,fin⟩) hs
theorem JY:KN X (Mu X.K):=by
 intro value slice pins s σ H x y v u Q I rx ry h hs;obtain⟨p,xs,i,z,rfl,rfl,hq,he,q⟩:=h;cases rx;obtain⟨t,rfl⟩:=ry;obtain⟨its,r,pl,hz⟩:=I.tuple hq;obtain⟨j,h1,h2,h3,h4,h5⟩:=uL he;obtain⟨w,ew,rw'⟩:=r.get h2;have hl:=r.length;have hn:=nM;have fin:EP X pins σ Q w s:=⟨z,H,I,rw',q⟩
 exact subscriptTail_builtinR (x:=w) pl.typeIs slot_tuple_getitem.lookup
  (getItem_tuple (j:=j) (Q:=λr s'=>r=w/\EP X pins σ Q r s') pl ‹0› ‹0› (by rw[P0,<-hl];exact h1) (by simpa using ew) ⟨rfl,fin⟩) hs
theorem Ig:KN X Nz:=by
 intro value slice pins s σ H x y v u Q I rx ry h hs;obtain⟨z,i,c,rfl,rfl,hz,he,q⟩:=h;obtain⟨t,rfl⟩:=rx;obtain⟨t',rfl⟩:=ry;obtain⟨j,h1,h2,h3,h4,h5⟩:=uL he;have hl:z.cps.toList.length=z.length:=by simp[Str.length]
 rw[hl]at h1 h4 h5;have hn:=nM;exact tail_any (typeIs_str s z t) slot_str_getitem.lookup (getItem_str (c:=c) (by
  have e1:decide (i < -(2^63:Int))=false:=decide_eq_false ‹0›;have e2:decide (i>=2^63)=false:=decide_eq_false ‹0›;rw[e1,e2,Bool.or_false]) (by rw[h1];simpa using h2) ⟨.str ⟨#[c]⟩,H,I.tok _,⟨_,rfl⟩,q⟩) hs
theorem uF(lo hi:dQ)(n:Nat):(sliceBounds lo hi none n).1=((HT.sIx n 0 lo:Nat):Int)/\(sliceBounds lo hi none n).2.1=((HT.sIx n n hi:Nat):Int)/\(sliceBounds lo hi none n).2.2=1:=by
 refine⟨?_,?_,rfl⟩
 ·cases lo with
  |none=>simp[sliceBounds,HT.sIx]
  |some i=>
   simp only[sliceBounds,HT.sIx,Qn,show(1:Int)>0 by decide,if_true];by_cases h:i<0
   ·simp only[h,if_true]<;>omega
   ·simp only[h,if_false]<;>omega
 ·cases hi with
  |none=>simp[sliceBounds,HT.sIx]
  |some i=>
   simp only[sliceBounds,HT.sIx,Qn,show(1:Int)>0 by decide,if_true];by_cases h:i<0
   ·simp only[h,if_true]<;>omega
   ·simp only[h,if_false]<;>omega
theorem rh(its:aU)(lo hi:dQ):slicePick its.toArray lo hi none=((its.drop (HT.sIx its.length 0 lo)).take (HT.sIx its.length its.length hi-HT.sIx its.length 0 lo)).toArray:=by
 obtain⟨h1,h2,h3⟩:=uF lo hi its.toArray.size;unfold slicePick;rw[h1,h2,h3];simp only[sliceRange_one,pick_run,P0]<;>rfl
noncomputable def MI(K:SH):V->dQ->dQ->Hp->VK->Prop:=λx lo hi H Q=>∃a xs,x=.ref a/\md K H a xs/\∀p,H p=none->Q (.ref p) (upd H p (.lst (vW xs lo hi)))
theorem Gw:L4 X (MI X.K):=by
 intro pins s σ H x v vl vu lo hi sl Q I rx hs pl pu h;obtain⟨a,xs,rfl,hx,q⟩:=h;cases rx;obtain⟨its,r,ht,hz⟩:=I.list hx;have hlen:=r.length;refine⟨"list",_,slot_list_getitem.lookup,ht.isList.typeIs,?_⟩;refine wpAny_getItem_list_slice ht.isList hs pl pu .none (by simp) ?_ (by rw[P0]<;>omega);rw[rh,<-hlen];refine⟨.ref s.heap.objs.size,_,I.laid (t':=s.toks) (o:=.lst (vW xs lo hi)) (λb ob q=>To _ q) (PX _) ?_,rfl,q _ (I.hok.fresh (PX _))⟩;exact⟨PD (oB xs lo hi) hz,_,0,(r.drop (HT.sIx xs.length 0 lo)).take (HT.sIx xs.length xs.length hi-HT.sIx xs.length 0 lo),Tp _ rfl⟩
noncomputable def C0:V->Bool
 |.non=>true
 |.bl _=>true
 |.int _=>true
 |.str _=>true
 |_=>false
noncomputable def Nc:V->V->Bool
 |.non,.non=>true
 |.bl a,.bl b=>a==b
 |.bl a,.int b=>(if a then 1 else 0)==b
 |.int a,.bl b=>a==(if b then 1 else 0)
 |.int a,.int b=>a==b
 |.str a,.str b=>a==b
 |_,_=>false
theorem IZ{A:Uj}{s:T8}{y x:V}{u v:T2}(ry:RelV y u)(rx:RelV x v)(fy:C0 y=true)(fx:C0 x=true):SeqAt.EqAt A s u v (Nc y x):=by
 cases y with
 |non=>
  cases ry;cases x with
  |non=>cases rx;exact SeqAt.EqAt.same _
  |bl b=>cases rx;exact SeqAt.EqAt.none_bool b
  |int b=>obtain⟨t,rfl⟩:=rx;exact SeqAt.EqAt.none_int b t
  |str b=>obtain⟨t,rfl⟩:=rx;exact SeqAt.EqAt.none_str b t
  |_=>exact absurd (show false=true from fx) P4
 |bl a=>
  cases ry;cases x with
  |non=>cases rx;exact SeqAt.EqAt.bool_none a
  |bl b=>cases rx;exact SeqAt.EqAt.bool_bool a b
  |int b=>obtain⟨t,rfl⟩:=rx;exact SeqAt.EqAt.bool_int a b t
  |str b=>obtain⟨t,rfl⟩:=rx;exact SeqAt.EqAt.bool_str a b t
  |_=>exact absurd (show false=true from fx) P4
 |int a=>
  obtain⟨t',rfl⟩:=ry;cases x with
  |non=>cases rx;exact SeqAt.EqAt.int_none a t'
  |bl b=>cases rx;exact SeqAt.EqAt.int_bool a t' b
  |int b=>obtain⟨t,rfl⟩:=rx;exact SeqAt.EqAt.int_int a t' b t
  |str b=>obtain⟨t,rfl⟩:=rx;exact SeqAt.EqAt.int_str a t' b t
  |_=>exact absurd (show false=true from fx) P4
 |str a=>
  obtain⟨t',rfl⟩:=ry;cases x with
  |non=>cases rx;exact SeqAt.EqAt.str_none a t'
  |bl b=>cases rx;exact SeqAt.EqAt.str_bool a t' b
  |int b=>obtain⟨t,rfl⟩:=rx;exact SeqAt.EqAt.str_int a t' b t
  |str b=>obtain⟨t,rfl⟩:=rx;exact SeqAt.EqAt.str_str a t' b t
  |_=>exact absurd (show false=true from fx) P4
 |_=>exact absurd (show false=true from fy) P4
theorem mq:dW X (.builtin "len") (λxs H Q=>∃p ys,xs=[.ref p]/\(md X.K H p ys\/nA X.K H p ys)/\Q (.int ys.length) H):=by
 intro pins s σ H xs us Q I r h;obtain⟨p,ys,rfl,hq,q⟩:=h;obtain⟨u,rfl,rx⟩:=vals1 r;cases rx;have hn:=nM;rcases hq with hq|hq
 ·obtain⟨its,r',pl,hz⟩:=I.list hq;have hlen:=r'.length;exact Calls.call_len_list pl.isList (by simp only[P0]<;>omega) ⟨.int ys.length,H,I.tok _,⟨s.toks+1,by rw[P0,hlen]⟩,q⟩
 ·obtain⟨its,r',pl,hz⟩:=I.tuple hq;have hlen:=r'.length;exact len_tuple pl (by simp only[P0]<;>omega) ⟨.int ys.length,H,I.tok _,⟨s.toks+1,by rw[P0,hlen]⟩,q⟩
theorem ur:dW X (.builtin "len") (λxs H Q=>∃z,xs=[.str z]/\z.length<=Ud/\Q (.int z.length) H):=by
 intro pins s σ H xs us Q I r h;obtain⟨z,rfl,hz,q⟩:=h;obtain⟨u,rfl,t,rfl⟩:=vals1 r;have hn:=nM;exact len_str ‹0› ⟨.int z.length,H,I.tok _,⟨_,rfl⟩,q⟩
theorem jD:dW X (.type "list") (λxs H Q=>∃p ys,xs=[.ref p]/\(md X.K H p ys\/nA X.K H p ys)/\∀l,H l=none->Q (.ref l) (upd H l (.lst ys))):=by
 intro pins s σ H xs us Q I r h;obtain⟨p,ys,rfl,hq,q⟩:=h;obtain⟨u,rfl,rx⟩:=vals1 r;cases rx;have fin:∀(its:aU),Vals ys its->ys.length<=Ud->∀(h':Uc)(c':Nat),(∀b o',s.heap.get? b=some o'->h'.get? b=some o')->
   h'.get? s.heap.objs.size=some {cls:=.type "list",dict:=none,data:=.seq its.toArray c',slots:=#[]}->EP X pins σ Q (.ref s.heap.objs.size) {s with heap:=h'}:=λits r' hz h' c' kp e=>
  ⟨.ref s.heap.objs.size,_,I.laid (t':=s.toks) kp (PX _) (show b9 X.prog X.w _ h' _ (.lst ys)from⟨hz,its,c',r',e⟩),rfl,q _ (I.hok.fresh (PX _))⟩
 rcases hq with hq|hq
 ·obtain⟨its,r',pl,hz⟩:=I.list hq;have hlen:=r'.length;obtain⟨o,ho,hc,n,hd⟩:=pl.isList;exact call_list_seq p (.inl rfl) ho hc hd (λh' c' kp e=>fin its r' hz h' c' kp e) (by simp only[P0]<;>omega)
 ·obtain⟨its,r',pl,hz⟩:=I.tuple hq;have hlen:=r'.length;obtain⟨o,ho,hc,n,hd⟩:=pl;exact call_list_seq p (.inr rfl) ho hc hd (λh' c' kp e=>fin its r' hz h' c' kp e) (by simp only[P0]<;>omega)
theorem lM:dW X (.type "tuple") (λxs H Q=>∃p ys,xs=[.ref p]/\((md X.K H p ys/\∀l,H l=none->Q (.ref l) (upd H l (.tup ys)))\/(nA X.K H p ys/\Q (.ref p) H))):=by
 intro pins s σ H xs us Q I r h;obtain⟨p,ys,rfl,h⟩:=h;obtain⟨u,rfl,rx⟩:=vals1 r;cases rx;rcases h with⟨hq,q⟩|⟨hq,q⟩
 ·obtain⟨its,r',pl,hz⟩:=I.list hq;have hlen:=r'.length;refine call_tuple_list pl.isList (λh' kp=>?_) (by simp only[P0]<;>omega);have I1:Inv X pins σ H {s with heap:=h'}:=I.kept (t':=s.toks) kp;have I2:Inv X pins σ (upd H h'.objs.size (.tup ys)) {s with heap:=h'.push {cls:=.type "tuple",data:=.seq its.toArray}}:=
   I1.laid (t':=s.toks) (λb o e=>To _ e) (PX _) (show b9 X.prog X.w _ _ _ (.tup ys)from⟨hz,its,r',IsTup.new _ _⟩)
  exact⟨.ref h'.objs.size,_,I2,rfl,q _ (I1.hok.fresh (PX _))⟩
 ·obtain⟨its,r',pl,hz⟩:=I.tuple hq;exact call_tuple_same pl ⟨.ref p,H,I,rfl,q⟩
noncomputable def NX(K:SH)(T:String)(x:V)(H:Hp):Prop:=match x with
 |.str _=>T="str"
 |.int _=>T="int"
 |.ref p=>(T="list"/\∃xs,md K H p xs)\/(T="tuple"/\∃o,K.lookup p=some o/\o.cls=.type "tuple"/\o.dict=none) \/
   (T="dict"/\((∃kvs,H p=some (.dK kvs))\/∃kvs,H p=some (.dT kvs)))\/(T="set"/\∃S n,H p=some (.set S n))
 |_=>False
theorem HL{pins:bf}{σ:St}{H:Hp}{s:T8}{T:String}{x:V}{v:T2}(I:Inv X pins σ H s)(r:RelV x v)(ty:NX X.K T x H):
  s.TypeIs v T/\∀a,v=.ref a->∃ob,s.heap.get? a=some ob/\ob.dict=none:=by
 cases x with
 |str z=>
  obtain⟨t,rfl⟩:=r;cases(show T="str"from ty);exact⟨typeIs_str s z t,λ_ e=>nomatch e⟩
 |int i=>
  obtain⟨t,rfl⟩:=r;cases(show T="int"from ty);exact⟨typeIs_int s i t,λ_ e=>nomatch e⟩
 |ref p=>
  cases r;rcases ty with⟨rfl,xs,hq⟩|⟨rfl,o,hk,hc,hd⟩|⟨rfl,hk⟩|⟨rfl,S,n,hk⟩
  ·obtain⟨its,_,pl,_⟩:=I.list hq;refine⟨pl.isList.typeIs,λa e=>?_⟩;cases e;obtain⟨o,n,e,c,hd,_⟩:=pl;exact⟨o,e,hd⟩
  ·refine⟨⟨o,I.kIn p o hk,hc⟩,λa e=>?_⟩;cases e;exact⟨o,I.kIn _ o hk,hd⟩
  ·have z:∃o,s.heap.get? p=some o/\o.ExactDict:=by
    rcases hk with⟨kvs,hk⟩|⟨kvs,hk⟩
    ·obtain⟨_,_,_,_,o,_,_,e,ex,_⟩:=I.hok p _ hk;exact⟨o,e,ex⟩
    ·obtain⟨_,_,_,_,o,_,_,e,ex,_⟩:=I.hok p _ hk;exact⟨o,e,ex⟩
   obtain⟨o,e,ex⟩:=z;refine⟨⟨o,e,ex.1⟩,λa e2=>?_⟩;cases e2;exact⟨o,e,ex.2.1⟩
  ·obtain⟨o,_,_,_,e,ex,_⟩:=I.hok p _ hk;refine⟨⟨o,e,ex.1⟩,λa e2=>?_⟩;cases e2;exact⟨o,e,ex.2.1⟩
 |_=>exact False.elim ty
noncomputable def Oj(K:SH)(T:String)(r:V->aJ->Hp->VK->Prop)(to:TE)(t:TA):TE:=λσ H Q=>to σ H λx H1=>NX K T x H1/\t σ H1 λxs H2=>r x xs H2 Q
variable{o e:T6}{es:bx}{to:TE}{t:TA}{name:Str}{apos cpos:Pos}{T id:String}{r:V->aJ->Hp->VK->Prop}
theorem vg(pa:PlainAttrs T)(slot:Slot T name id)(hty:typeOf (.builtin id)=pure (.type "method_descriptor"))(hm:O2 X id r)(ho:PE X o to)(ha:PA X (e::es) t)
  (hbase:UH o name X.env (eval o X.env)=eval o X.env:=by rfl)
  (hfew:((backTo cpos (Um (e::es) X.env)).all (fun x=>!x.1) && (backToKw cpos (UJ [] X.env)).all (fun x=>x.1.isSome)
   && decide ((e::es).length+([]:List UR).length+(if([]:List UR).isEmpty then 0 else 1)<30))=true:=by rfl)
  (hline:(apos.endLine==cpos.line)=true:=by rfl) (hs:Um (e::es) X.env=(false,eval e X.env)::Um es X.env:=by rfl) (hplain:(backTo cpos (Um es X.env)).any (·.1)=false:=by rfl):
  PE X (.Call (.Attribute o name apos) (e::es) [] cpos) (Oj X.K T r to t):=by
 intro pins s σ H Q I h;refine wpAny_Call_method_late hbase hfew hline rfl (cN (ho pins s σ H _ I h) λv s1 ⟨x,H1,I1,r1,ty,q1⟩=>?_);obtain⟨h1,h2⟩:=HL I1 r1 ty;refine⟨T,id,pa,slot,hty,h1,h2,?_⟩;have hA:=ha cpos pins s1 σ H1 _ I1 q1;rw[hs]at hA ⊢;refine Calls.callWith_builtin (by show(false||(backTo cpos (Um es X.env)).any (·.1))=false;rw[hplain]<;>rfl) (Calls.evalArgs_plain ?_);exact cN hA λus s2 ⟨vs,H2,I2,r2,q2⟩=>hm pins s2 σ H2 x vs v us Q I2 r1 r2 q2
end
noncomputable def LV(X:Cx)(id:String)(r:V->aJ->Hp->VK->Prop):Prop:=
 ∀(pins:bf)(s:T8)(σ:St)(H:Hp)(x:V)(xs:aJ)(v:T2)(us:aU)(Q:VK),Inv X pins σ H s->RelV x v->Vals xs us->r x xs H Q->
  Ul (model X.prog X.w) X.A (call (.builtin id) (v::us)) (EP X pins σ Q) X.xe s
theorem Vals.one:∀{x:V}{us:aU},Vals [x] us->∃u,us=[u]/\RelV x u
 |_,_,.cons r .nil=>⟨_,rfl,r⟩
theorem Vals.two{x y:V}{us:aU}(h:Vals [x,y] us):∃u v,us=[u,v]/\RelV x u/\RelV y v:=by
 cases h with|cons r t=>
 obtain⟨v,rfl,q⟩:=Vals.one t;exact⟨_,_,rfl,r,q⟩
section
variable{X:Cx}{pins:bf}{σ:St}{H:Hp}{s:T8}{l b:T5}{xs ys zs:aJ}
theorem Inv.lset{its its':aU}{n:Nat}{f:dX->dX}{t':Nat}(I:Inv X pins σ H s)(hH:H l=some (.lst xs))
  (e:s.heap.get? l=some {cls:=.type "list",data:=.seq its.toArray n}) (hf:f its.toArray=its'.toArray) (hv:Vals ys its') (hz:ys.length<=Ud):
  Inv X pins σ (upd H l (.lst ys)) {s with heap:=s.heap.update l (Obj.mapSeq f),toks:=t'}:=by
 have q:=PySem.IsL.update e f;rw[hf]at q;refine I.write (x:=l) (e:=l) (by rw[hH];exact trivial) (.inl rfl) (λb' u hb hu=>(Tr s.heap (Obj.mapSeq f) (Ne.symm hb)).trans hu) ⟨_,q⟩ ?_;exact⟨hz,its',_,hv,q⟩
theorem Inv.lnew{its:aU}{t':Nat}(I:Inv X pins σ H s)(hv:Vals ys its)(hz:ys.length<=Ud):
  Inv X pins σ (upd H s.heap.objs.size (.lst ys)) {s with heap:=s.heap.push {cls:=.type "list",data:=.seq its.toArray},toks:=t'}:=
 I.laid (λ_ _ q=>To _ q) (PX _) ⟨hz,its,0,hv,Tp _ rfl⟩
theorem Inv.fresh(I:Inv X pins σ H s):H s.heap.objs.size=none:=I.hok.fresh (PX _)
theorem Inv.lstM(I:Inv X pins σ H s)(hH:H l=some (.lst xs)):xs.length<=Ud/\∃(its:aU)(n:Nat),Vals xs its/\xs.length=its.length/\s.heap.get? l=some {cls:=.type "list",data:=.seq its.toArray n}:=by
 obtain⟨z,its,n,r,e⟩:=I.hok l _ hH;exact⟨z,its,n,r,r.length,e⟩
theorem CD{n:Nat}(h:n<=Ud):Builtin.List.listTooLong n=false:=by
 unfold Builtin.List.listTooLong;exact decide_eq_false ‹0›
end
section
variable{X:Cx}
noncomputable def uI:V->aJ->Hp->VK->Prop:=λx vs H Q=>∃l xs y,x=.ref l/\vs=[y]/\H l=some (.lst xs)/\xs.length<Ud/\Q .non (upd H l (.lst (xs++[y])))
theorem kR:LV X "list.append" uI:=by
 intro pins s σ H x vs v us Q I rx rv h;obtain⟨l,xs,y,rfl,rfl,hH,hz,q⟩:=h;cases rx;obtain⟨u,rfl,ru⟩:=rv.one;obtain⟨z,its,n,r,hl,e⟩:=I.lstM hH;refine call_meets F.slot_list_append ⟨_,e,rfl⟩ F.entry_list_append (F.args_list_append_2 _ _) (PySem.list_append l its.toArray n u (by rw[P0];omega)) ⟨e,?_⟩;refine⟨.non,_,I.lset (its':=its++[u]) hH e (by simp) (r.append (.cons ru .nil)) ?_,rfl,q⟩;rw[Qj,Qo];omega
noncomputable def Fi:V->aJ->Hp->VK->Prop:=λx vs H Q=>∃l b xs zs,x=.ref l/\vs=[.ref b]/\H l=some (.lst xs)/\H b=some (.lst zs)/\xs.length+zs.length<=Ud/\Q .non (upd H l (.lst (xs++zs)))
theorem zM:LV X "list.extend" Fi:=by
 intro pins s σ H x vs v us Q I rx rv h;obtain⟨l,b,xs,zs,rfl,rfl,hH,hB,hz,q⟩:=h;cases rx;obtain⟨u,rfl,ru⟩:=rv.one;cases ru;obtain⟨z,its,n,r,hl,e⟩:=I.lstM hH;obtain⟨z2,its2,n2,r2,hl2,e2⟩:=I.lstM hB;have hsz:its.toArray.size+its2.toArray.size<=Ud:=by rw[P0,P0];omega
 have hlong:¬(!its.toArray.isEmpty&&Builtin.List.listTooLong (its.toArray.size+its2.toArray.size))=true:=by
  rw[CD hsz,Qp];exact P4
 refine call_meets F.slot_list_extend ⟨_,e,rfl⟩ F.entry_list_extend (F.args_list_extend_2 _ _)
  (AutoSeq1.list_extend_list_list_0 l its.toArray n b its2.toArray n2 hlong (by rw[P0];omega) ‹0›) ⟨e,e2,?_⟩
 refine⟨.non,_,I.lset (its':=its++its2) hH e (by simp) (r.append r2) ?_,rfl,q⟩;rw[Qj];omega
end
end L2
namespace Att
open PySem PySem.W PySem.Calls PyProof.Rows
theorem oS{P:Params}{h:Uc}:∀(ns:List Int)(vs:List T2),WellAll P h vs (ns.map WData.int)->IntsAre vs ns:=by
 intro ns
 induction ns with
 |nil=>
  intro vs w;rw[Qq]at w;cases w;exact .nil
 |cons n ns ih=>
  intro vs w;rw[P6]at w;cases w with
  |cons a b=>
   cases a;exact .cons _ _ (ih _ b)
theorem A5{l:OpenLaw}{n:Nat}(hn:l.most=some n){P:Params}{h:Uc}{args:List WData}{vals:List T2}
  (hpre:l.row.toRowW.claim.pre args=true) (hwl:WellAll P h vals args):
  ∃a vs ns,vals=[Value.ref a]/\args=[WData.list (ns.map WData.int)]/\h.get? a=some {cls:=.type "list",data:=.seq vs.toArray}/\IntsAre vs ns/\ns.length<=n:=by
 have hsh:WShape.hasAll [] args [.list .int]=true:=(pre_splitW hpre).1;have hc:l.pre.holds [] {args:=args}=true:=(pre_splitW hpre).2;obtain⟨d,r,rfl,h1,h2⟩:=hasAllW_cons hsh;obtain rfl:=hasAllW_nil h2;obtain⟨xs,rfl,h3⟩:=hasW_list h1;obtain⟨ns,rfl⟩:=items_int h3;have hlen:ns.length<=n:=by
  unfold OpenLaw.pre at hc;have h4:(WTm.not (.lt (.lit (.int (n:Int))) (.len (.arg 0)))).holds [] {args:=[.list (ns.map .int)]}=true:=by
   have h4:=(holds_andW hc).1;rw[hn]at h4;exact h4
  have h5:=condW_of h4 (w_not (w_lt w_lit (w_len_list (w_arg rfl))));rw[P7]at h5;refine Nat.le_of_not_lt λq=>?_;have q':(n:Int)<((ns.length:Nat):Int):=by omega
  first
   |(rw[decide_eq_true q']at h5;exact absurd h5 (by decide))
   |(simp at h5;omega)
 cases hwl with
 |cons w1 w2=>
  cases w2;cases w1 with
  |list ho hall=>exact⟨_,_,ns,rfl,rfl,ho,oS ns _ hall,hlen⟩
theorem zt(l:OpenLaw)(args:List WData):l.row.toRowW.claim.post args (.bool true) args=true:=
 postW_of (r:=l.row.toRowW) (X:=(true==true))
  (show WShape.has [] (.bool true) .bool=true by first|rfl|decide|simp[WShape.has,WShape.arms,WShape.armsAll])
  (show(WTm.eq .res (.lit (.bool true))).value [] {args:=args,res:=some (.bool true),after:=args}=some (.bool (true==true))from w_eq_bool (w_res rfl) w_lit) rfl
theorem Hy{l:OpenLaw}{n:Nat}{q:Ua}{loose:List Str}{XP:(Str->Option T2)->Uc->Prop}{YP:T9->Uc->Prop}{d:DefRec}
  (hn:l.most=some n) (hdf:d.params.defaults=[])
  (call:∀ (w:T9) (s₀ s₁:T8) (mg mb:Str->Option T2) (fa:T5) (o:Obj) (pm cd doc:T2) (a:T5) (vs:List T2) (ns:List Int),
   Ground q loose [] XP w s₀ mg mb s₁.heap->YP w s₁.heap->
   s₁.heap.get? fa=some o->o.data=.func (docDef d.name d.params d.body d.scope pm cd doc)->s₁.heap.CodeRec cd d.name->mg d.name=some (.ref fa)->
   s₁.heap.get? a=some {cls:=.type "list",data:=.seq vs.toArray}->IntsAre vs ns->ns.length<=n->s₁.gens=#[]->
   UG (model l.prog w) callerA (.call (.ref fa) ⟨[.ref a],[]⟩) (λr s'=>r=.ok (.ret (.bool true))/\OldK s₁.heap s'.heap/\s'.os=s₁.os/\AllBare s'.gens) s₁):
  WalkO q loose XP YP l.row.toRowW d [] (λf vs=>PySem.call f vs):=by
 intro w s₀ s₁ mg mb G Y fa o pm cd doc dV kV ho hd hcd hD hmg hg args vals as hpre hlay hrd hwl hlo;obtain rfl:dV=.none:=Dflts.none hD hdf;obtain rfl:kV=.none:=Dflts.noKw hD;obtain⟨a,vs,ns,rfl,rfl,hobj,hints,hlen⟩:=A5 hn hpre hwl;refine enter_call (UP (call w s₀ s₁ mg mb fa o pm cd doc a vs ns G Y ho (fd_plain hd) hcd hmg hobj hints hlen hg) λr s' hq=>?_);obtain⟨rfl,h2,h3,h4⟩:=hq;exact⟨.inl ⟨.bool true,.bool true,[],rfl,λ_=>rfl,.bool true,zt l _,λ_=>⟨List.Pairwise.nil,λ_ hm=>(nomatch hm)⟩⟩,h2,h3,h4⟩
section
variable{prog:Ua}{w:T9}{A:Uj}{E:T2->T8->Prop}{s:T8}{K:Frag}
end
end Att
namespace L2
open PySem PySem.Spec PyProof.Rows
theorem rK:∀{vs:aU}{ns:List Int},IntsAre vs ns->Vals (ns.map V.int) vs
 |_,_,.nil=>.nil
 |_,_,.cons n t h=>.cons ⟨t,rfl⟩ (rK h)
noncomputable def inClass(s:T7)(j:Nat):T7:=match s with
 |.ClassDef _ _ _ body _ _ _ _ _ _ _=>body.getD j (.Pass ⟨0,0,0,0⟩)
 |_=>.Pass ⟨0,0,0,0⟩
noncomputable def jx(s:T7):UU:=match s with
 |.FunctionDef _ a _ _ _ _ _ _ _ _=>a
 |_=>{posonlyargs:=[],args:=[],vararg:=none,kwonlyargs:=[],kw_defaults:=[],kwarg:=none,defaults:=[]}
noncomputable def dF(s:T7):eJ:=match s with
 |.FunctionDef _ _ b _ _ _ _ _ _ _=>b
 |_=>[]
noncomputable def aw(s:T7):Uk:=match s with
 |.FunctionDef _ _ _ _ _ _ sc _ _ _=>sc
 |_=>{kind:=.function,names:=[],isGenerator:=false,isCoroutine:=false}
noncomputable abbrev L7:wC:=λ_ _ _ _ _ _=>False
noncomputable abbrev E0:XK:=λ_ _ _=>False
structure uQ(K:SH)(x qual:Str)(st:T7)(f:T5)(fd:UM):Prop where
 ex:∃(oc:T2)(od:Option T5)(kV doc pm:T2)(an:Option T5)(cdv ct:T2)(osl:Array (Option T2)),
  fd=S6 x qual (jx st) (dF st) (aw st) .none kV doc pm an cdv ct/\K.lookup f=some ⟨oc,od,.func fd,osl⟩/\S7 K cdv qual=true
 kp:S0 K (.ref f)=true
section
variable{P:Ua}{w:T9}{K:SH}{mg:cB}{base:Uc}
theorem uQ.ok{x qual:Str}{st:T7}{f:T5}{fd:UM}{N ps:ax}{k:Nat}{sp:Sp}(F:uQ K x qual st f fd)(S:dD N ps (aw st))(len:∀vs H Q E,sp vs H Q E->vs.length=ps.length)
  (hbody:∀ (cdv:T2) (A:Uj) (outer:List Env) (s:T8) (H:Hp) (vs:aJ) (Q:VK) (E:XK),eY k (A.deeper (envOfC qual (aw st) s.heap.objs.size f cdv))->sp vs H Q E ->
   ∃t,wy (ie L7 P w K mg base N qual (aw st) f cdv A outer s H E).nox (dF st) t/\t {nx:=λ_ H'=>Q .non H',rt:=Q} (start N vs) H):ir P w K mg base L7 (k+1) f fd ps sp:=by
 obtain⟨oc,od,kV,doc,pm,an,cdv,ct,osl,rfl,lk,hcd⟩:=F.ex;refine De lk hcd S len λA outer s H vs Q E hr hsp=>?_;obtain⟨t,h,q⟩:=hbody cdv A outer s H vs Q E hr hsp;exact⟨t,h.nox,q⟩
theorem uQ.binds{x qual:Str}{st:T7}{f:T5}{fd:UM}{ps:ax}(F:uQ K x qual st f fd)
  (h:∀(kV doc pm:T2)(an:Option T5)(cdv ct:T2)(us:aU),us.length=ps.length->bindArgs (S6 x qual (jx st) (dF st) (aw st) .none kV doc pm an cdv ct) ⟨us,[]⟩=pure (ps.zip us)):Binds K fd ps []:=by
 obtain⟨oc,od,kV,doc,pm,an,cdv,ct,osl,rfl,lk,hcd⟩:=F.ex;exact .all (h kV doc pm an cdv ct)
theorem gO{x qual:Str}{st:T7}{f:T5}{oc:T2}{od an:Option T5}{osl:Array (Option T2)}{kV doc pm cdv ct:T2}(l:K.lookup f=some ⟨oc,od,.func (S6 x qual (jx st) (dF st) (aw st) .none kV doc pm an cdv ct),osl⟩)
  (c:S7 K cdv qual=true) (k:S0 K (.ref f)=true):uQ K x qual st f (S6 x qual (jx st) (dF st) (aw st) .none kV doc pm an cdv ct):=⟨⟨oc,od,kV,doc,pm,an,cdv,ct,osl,rfl,l,c⟩,k⟩
end
section
variable{X:Cx}
theorem pv(i:Nat){x:Str}{pos:Pos}(hN:X.N[i]?=some x:=by rfl)(hv:Ij X.env.scope x:=by first|exact Or.inl rfl|exact Or.inr (Or.inl rfl)|exact Or.inr (Or.inr rfl))(hd:(x==("__debug__":Str))=false:=by decide)
  (hcd:(x==("__classdict__":Str))=false:=by decide):PE X (.Name x pos) (C3 i):=Ir hN hv hd hcd
end
theorem uT{A B:Prop}(h:B):if false=true then A else B:=by
 rw[if_neg P4];exact h
theorem wf{A B:Prop}(h:A):if true=true then A else B:=by
 rw[if_pos rfl];exact h
noncomputable def aR(H H':Hp):Prop:=∀b o,H b=some o->H' b=some o
theorem aR.refl(H:Hp):aR H H:=λ_ _ h=>h
theorem aR.trans{H H1 H2:Hp}(a:aR H H1)(b:aR H1 H2):aR H H2:=λc o h=>b c o (a c o h)
theorem aR.free{H H':Hp}(e:aR H H'){l:T5}(h:H' l=Option.none):H l=Option.none:=by
 cases q:H l with
 |none=>rfl
 |some o=>
  rw[e l o q]at h;cases h
theorem aR.seq{K:SH}{H H':Hp}{a:T5}{xs:aJ}(e:aR H H')(h:md K H a xs):md K H' a xs:=by
 rcases h with(h|⟨o,h⟩)|h
 ·exact .inl (.inl (e _ _ h))
 ·exact .inl (.inr ⟨o,e _ _ h⟩)
 ·exact .inr h
section
variable{κ:Type}[DecidableEq κ]
noncomputable def gF(kvs:List (κ×V))(k:κ):Option V:=(kvs.find? λkv=>decide (kv.1=k)).map (·.2)
noncomputable def putK(kvs:List (κ×V))(k:κ)(v:V):List (κ×V):=
 if(kvs.any λkv=>decide (kv.1=k))=true then kvs.map (λkv=>if kv.1=k then(kv.1,v)else kv)else kvs++[(k,v)]
theorem iV{p:κ×V}{r:List (κ×V)}{k:κ}(e:p.1=k):gF (p::r) k=some p.2:=by simp[gF,Qr,e]
theorem ig{p:κ×V}{r:List (κ×V)}{k:κ}(e:¬p.1=k):gF (p::r) k=gF r k:=by simp[gF,Qr,e]
theorem pT(k:κ):∀kvs:List (κ×V),(kvs.any λkv=>decide (kv.1=k))=(gF kvs k).isSome
 |[]=>rfl
 |p::r=>by
  rw[Qs];by_cases e:p.1=k
  ·simp only[iV e,decide_eq_true e,Qt,Option.isSome_some]
  ·rw[ig e,decide_eq_false e,Qu];exact pT k r
theorem iD(kvs:List (κ×V))(k:κ)(v:V):(putK kvs k v).length<=kvs.length+1:=by
 unfold putK;split
 ·rw[P7];omega
 ·rw[Qj,P5,Qv];omega
theorem oR.isSome_eq{o:Option V}{u:Option T2}(r:oR o u):o.isSome=u.isSome:=by
 cases o with
 |none=>cases u with
  |none=>rfl
  |some _=>exact(show False from r).elim
 |some _=>cases u with
  |none=>exact(show False from r).elim
  |some _=>rfl
theorem oR.getD{o:Option V}{u:Option T2}{d:V}{d':T2}(r:oR o u)(rd:RelV d d'):RelV (o.getD d) (u.getD d'):=by
 cases o with
 |none=>cases u with
  |none=>exact rd
  |some _=>exact(show False from r).elim
 |some _=>cases u with
  |none=>exact(show False from r).elim
  |some _=>exact r
theorem KV.val{kvs:List (κ×V)}{vs:List (κ×T2)}(r:KV kvs vs)(k:κ):oR (gF kvs k) (valueAt vs k):=by
 unfold KV at r
 induction r with
 |nil=>exact True.intro
 |@cons p q ps qs h t ih=>
  obtain⟨h1,h2⟩:=h;by_cases e:p.1=k
  ·have e':q.1=k:=h1.symm.trans e;have b:valueAt (q::qs) k=some q.2:=(by simp[valueAt,Qr,e']);rw[iV e,b];exact h2
  ·have e':¬q.1=k:=λz=>e (h1.trans z);have b:valueAt (q::qs) k=valueAt qs k:=(by simp[valueAt,Qr,e']);rw[ig e,b];exact ih
theorem KV.any{kvs:List (κ×V)}{vs:List (κ×T2)}(r:KV kvs vs)(k:κ):(kvs.any λkv=>decide (kv.1=k))=vs.any λkv=>decide (kv.1=k):=by
 unfold KV at r
 induction r with
 |nil=>rfl
 |cons h t ih=>rw[Qs,Qs,ih,h.1]
theorem KV.repl{kvs:List (κ×V)}{vs:List (κ×T2)}(r:KV kvs vs)(k:κ){y:V}{u:T2}(ry:RelV y u):
  KV (kvs.map λkv=>if kv.1=k then(kv.1,y)else kv) (vs.map λkv=>if kv.1=k then(kv.1,u)else kv):=by
 unfold KV at r ⊢
 induction r with
 |nil=>exact .nil
 |@cons p q ps qs h t ih=>
  rw[P6,P6];refine .cons ?_ ih;obtain⟨h1,h2⟩:=h;by_cases e:p.1=k
  ·rw[if_pos e,if_pos (h1.symm.trans e)];exact⟨h1,ry⟩
  ·rw[if_neg e,if_neg (λz=>e (h1.trans z))];exact⟨h1,h2⟩
theorem KV.put{kvs:List (κ×V)}{vs:List (κ×T2)}(r:KV kvs vs)(k:κ){y:V}{u:T2}(ry:RelV y u):KV (putK kvs k y) (stored vs k u):=by
 unfold putK stored;rw[r.any k];by_cases e:(vs.any λkv=>decide (kv.1=k))=true
 ·rw[if_pos e,if_pos e];exact r.repl k ry
 ·rw[if_neg e,if_neg e];exact Paired.snoc r ⟨rfl,ry⟩
theorem KV.keys{kvs:List (κ×V)}{vs:List (κ×T2)}(r:KV kvs vs):kvs.map (·.1)=vs.map (·.1):=by
 unfold KV at r
 induction r with
 |nil=>rfl
 |cons h t ih=>rw[P6,P6,ih,h.1]
theorem KV.length{kvs:List (κ×V)}{vs:List (κ×T2)}(r:KV kvs vs):kvs.length=vs.length:=Paired.length r
end
theorem vQ{P:Ua}{w:T9}{k:Key}{u:T2}(r:RelV (kV k) u):(bN P w).is k u=true:=by
 cases k with
 |inl i=>obtain⟨t,e⟩:=(show∃t,u=Value.int i t from r);subst e;exact uY P w i t
 |inr x=>obtain⟨t,e⟩:=(show∃t,u=Value.str x t from r);subst e;exact vp P w x t
theorem tS{P:Ua}{w:T9}:∀{ks:cX}{us:aU},Vals (ks.map kV) us->ItemsAre (bN P w) ks us
 |[],_,r=>by rw[Qq]at r;cases r;exact .nil
 |k::ks,_,r=>by
  rw[P6]at r;cases r with
  |cons h t=>exact .cons (vQ h) (tS t)
noncomputable abbrev KT(H:Hp):List (List Key×V)->List (List Key×T5×T2)->Prop:=Ub λp q=>p.1=q.1/\H q.2.1=some (.tup (p.1.map kV))/\RelV p.2 q.2.2
theorem KT.val{H:Hp}{kvs:List (List Key×V)}{xs:List (List Key×T5×T2)}(r:KT H kvs xs)(k:cX):oR (gF kvs k) ((atKey xs k).map (·.2)):=by
 induction r with
 |nil=>exact True.intro
 |@cons p q ps qs h t ih=>
  obtain⟨h1,_,h2⟩:=h;by_cases e:p.1=k
  ·have e':q.1=k:=h1.symm.trans e;have b:atKey (q::qs) k=some q.2:=(by simp[atKey,Qr,e']);rw[iV e,b];exact h2
  ·have e':¬q.1=k:=λz=>e (h1.trans z);have b:atKey (q::qs) k=atKey qs k:=(by simp[atKey,Qr,e']);rw[ig e,b];exact ih
theorem KT.repl{H:Hp}{kvs:List (List Key×V)}{xs:List (List Key×T5×T2)}(r:KT H kvs xs)(k:cX){y:V}{u:T2}(ry:RelV y u):
  KT H (kvs.map λkv=>if kv.1=k then(kv.1,y)else kv) (xs.map (putAt k u)):=by
 induction r with
 |nil=>exact .nil
 |@cons p q ps qs h t ih=>
  rw[P6,P6];refine .cons ?_ ih;obtain⟨h1,h2,h3⟩:=h;unfold putAt;by_cases e:p.1=k
  ·rw[if_pos e,if_pos (h1.symm.trans e)];exact⟨h1,h2,ry⟩
  ·rw[if_neg e,if_neg (λz=>e (h1.trans z))];exact⟨h1,h2,h3⟩
theorem KT.put{H:Hp}{kvs:List (List Key×V)}{xs:List (List Key×T5×T2)}(r:KT H kvs xs)(k:cX){b:T5}{y:V}{u:T2}(hb:H b=some (.tup (k.map kV)))(ry:RelV y u):
  KT H (putK kvs k y) (storedH xs k b u):=by
 have e:(kvs.any λkv=>decide (kv.1=k))=(atKey xs k).isSome:=by
  rw[pT,(r.val k).isSome_eq,Qw]
 unfold putK storedH;rw[e];by_cases q:(atKey xs k).isSome=true
 ·rw[if_pos q,if_pos q];exact r.repl k ry
 ·rw[if_neg q,if_neg q];exact Paired.snoc r ⟨rfl,hb,ry⟩
theorem KT.keeps{H H':Hp}{kvs:List (List Key×V)}{xs:List (List Key×T5×T2)}(r:KT H kvs xs)(ht:∀b ys,H b=some (.tup ys)->H' b=some (.tup ys)):KT H' kvs xs:=
 Paired.mapP r λ_ _ z=>⟨z.1,ht _ _ z.2.1,z.2.2⟩
section
variable{P:Ua}{w:T9}{H:Hp}{h:Uc}{a:T5}
theorem Ht{u:HO}(ok:mz P w H h)(e:Rd H a u):b9 P w H h a u:=e.ok ok
theorem sO{kvs:List (Key×V)}(ok:mz P w H h)(e:Rd H a (.dK kvs)):kvs.length<=Ud/\(a==sysModules)=false/\∃vs,KV kvs vs/\h.DictOf (bN P w) a vs:=
 show b9 P w H h a (.dK kvs)from Ht ok e
theorem Hv{kvs:List (Key×V)}(ok:mz P w H h)(e:H a=some (.dK kvs)):kvs.length<=Ud/\(a==sysModules)=false/\∃vs,KV kvs vs/\h.DictOf (bN P w) a vs:=sO ok (.inl e)
theorem lW{ks:cX}(ok:mz P w H h)(e:H a=some (.tup (ks.map kV))):(tupleKind (bN P w)).is h ks a:=by
 obtain⟨_,its,r,o,h1,h2,n,h3⟩:=(show b9 P w H h a (.tup (ks.map kV))from ok a _ e)
 exact⟨o,its.toArray,n,h1,h2,h3,by simpa using tS r⟩
theorem qz{kvs:List (List Key×V)}(ok:mz P w H h)(e:Rd H a (.dT kvs)):kvs.length<=Ud/\(a==sysModules)=false/\
  ∃xs,KT H kvs xs/\h.DictOfH (tupleKind (bN P w)) a xs:=by
 obtain⟨z,y,xs,r,o,es,ep,h1,h2,h3,h4,h5⟩:=(show b9 P w H h a (.dT kvs)from Ht ok e)
 refine⟨z,y,xs,r,o,es,ep,h1,h2,h3,h4,λx hx=>?_,h5⟩;have all:∀{l:List (List Key×V)}{m:List (List Key×T5×T2)},KT H l m->∀x∈m,(tupleKind (bN P w)).is h x.1 x.2.1:=by
  intro l m q
  induction q with
  |nil=>intro x hx;exact nomatch hx
  |@cons p q ps qs hq t ih=>
   intro x hx;rcases List.mem_cons.mp hx with e|hx
   ·subst e;exact lW ok (by rw[<-hq.1];exact hq.2.1)
   ·exact ih x hx
 exact all r x hx
theorem G2{kvs:List (List Key×V)}(ok:mz P w H h)(e:H a=some (.dT kvs)):kvs.length<=Ud/\(a==sysModules)=false/\
  ∃xs,KT H kvs xs/\h.DictOfH (tupleKind (bN P w)) a xs:=qz ok (.inl e)
end
noncomputable def wL(H:Hp)(a:T5)(y:V)(r:Option V):Prop:=
 (∃kvs k,Rd H a (.dK kvs)/\y=kV k/\r=gF kvs k)\/∃kvs k b,Rd H a (.dT kvs)/\y=.ref b/\H b=some (.tup (k.map kV))/\r=gF kvs k
noncomputable def JN(H:Hp)(a:T5)(y v:V)(H':Hp):Prop:=
 (∃kvs k,H a=some (.dK kvs)/\y=kV k/\kvs.length<Ud/\H'=upd H a (.dK (putK kvs k v))) \/
 ∃kvs k b,H a=some (.dT kvs)/\y=.ref b/\H b=some (.tup (k.map kV))/\kvs.length<Ud/\H'=upd H a (.dT (putK kvs k v))
theorem wL.t{H:Hp}{a b:T5}{kvs:List (List Key×V)}{k:cX}(e:H a=some (.dT kvs))(eb:H b=some (.tup (k.map kV))):wL H a (.ref b) (gF kvs k):=.inr ⟨kvs,k,b,.inl e,rfl,eb,rfl⟩
theorem JN.k{H:Hp}{a:T5}{kvs:List (Key×V)}{k:Key}{v:V}(e:H a=some (.dK kvs))(hl:kvs.length<Ud):JN H a (kV k) v (upd H a (.dK (putK kvs k v))):=.inl ⟨kvs,k,e,rfl,hl,rfl⟩
theorem JN.t{H:Hp}{a b:T5}{kvs:List (List Key×V)}{k:cX}{v:V}(e:H a=some (.dT kvs))(eb:H b=some (.tup (k.map kV)))(hl:kvs.length<Ud):
  JN H a (.ref b) v (upd H a (.dT (putK kvs k v))):=.inr ⟨kvs,k,b,e,rfl,eb,hl,rfl⟩
section
variable{X:Cx}{pins:bf}{σ:St}{H:Hp}{s:T8}{a:T5}{y v:V}{u r:T2}{o:Option V}{A:Uj}{E:bh}
theorem Inv.big(I:Inv X pins σ H s):sysModules<s.heap.objs.size:=by
 have h:Ug<s.heap.objs.size:=(I.mod.glob.keeps I.bk).lt;exact Qx (by decide) h
theorem zF{Q:bh}(hu:A.units+1<UL)(I:Inv X pins σ H s)(g:wL H a y (some v))(ry:RelV y u)(h:∀w' s',Inv X pins σ H s'->RelV v w'->Q w' s'):
  Ul (model X.prog X.w) A (getItem (.ref a) u) Q E s:=by
 rcases g with⟨kvs,k,e,ey,l⟩|⟨kvs,k,b,e,ey,eb,l⟩
 ·subst ey;obtain⟨z,hd,vs,rel,dd⟩:=sO I.hok e;obtain⟨w',hw,rw'⟩:=oR.some_of (v:=v) (o:=valueAt vs k) (by rw[l];exact rel.val k);exact wpAny_getItem_of (vQ ry) dd.mapOf hw (h w' _ (I.tok _) rw')
 ·subst ey;cases(show u=Value.ref b from ry);obtain⟨z,hd,xs,rel,dd⟩:=qz I.hok e;obtain⟨w',hw,rw'⟩:=oR.some_of (v:=v) (o:=(atKey xs k).map (·.2)) (by rw[l];exact rel.val k);obtain⟨p,hp,hp2⟩:=Option.map_eq_some_iff.mp hw;refine wpAny_getItem_heap (U7 hu) (lW I.hok eb) dd hp ?_;rw[hp2];exact h w' _ (I.tok _) rw'
theorem yL{Q:bh}(hu:A.units+1<UL)(I:Inv X pins σ H s)(g:wL H a y o)(ry:RelV y u)(h:∀s',Inv X pins σ H s'->Q (.bool (!o.isSome)) s'):
  Ul (model X.prog X.w) A (UA .NotIn u (.ref a)) Q E s:=by
 rcases g with⟨kvs,k,e,ey,l⟩|⟨kvs,k,b,e,ey,eb,l⟩
 ·subst ey;obtain⟨z,hd,vs,rel,dd⟩:=sO I.hok e;refine wpAny_notIn_of (vQ ry) hd dd.mapOf ?_;rw[<-(rel.val k).isSome_eq,<-l];exact h _ (I.tok _)
 ·subst ey;cases(show u=Value.ref b from ry);obtain⟨z,hd,xs,rel,dd⟩:=qz I.hok e;refine wpAny_notIn_heap (U7 hu) (lW I.hok eb) hd dd ?_;have q:=(rel.val k).isSome_eq;rw[Qw]at q;rw[<-q,<-l];exact h _ (I.tok _)
theorem kC{h':Uc}{t':Nat}{ob:HO}(I:Inv X pins σ H s)(mu:Ly (H a))(hs:Tn a s.heap h')(he:∃q,h'.get? a=some q)(new:b9 X.prog X.w (upd H a ob) h' a ob):
  Inv X pins σ (upd H a ob) {s with heap:=h',toks:=t'}:=
 I.write (x:=a) (e:=a) mu (.inl rfl) (λb q hb z=>(hs.2 b hb).trans z) he new
theorem Jv{P:Ua}{w:T9}{H':Hp}{h':Uc}{kvs:List (Key×V)}{vs:List (Key×T2)}(z:kvs.length<=Ud)(hd:(a==sysModules)=false)(rel:KV kvs vs)(dd:h'.DictOf (bN P w) a vs):
  b9 P w H' h' a (.dK kvs):=⟨z,hd,vs,rel,dd⟩
theorem kB{H':Hp}{Q:Unit->cP}(hu:A.units+1<UL)(I:Inv X pins σ H s)(g:JN H a y v H')(ry:RelV y u)(rv:RelV v r)(h:∀s',Inv X pins σ H' s'->Q () s'):
  Ul (model X.prog X.w) A (setItem (.ref a) u r) Q E s:=by
 rcases g with⟨kvs,k,e,ey,l,eH⟩|⟨kvs,k,b,e,ey,eb,l,eH⟩
 ·subst ey eH;obtain⟨z,hd,vs,rel,dd⟩:=Hv I.hok e;have hz:vs.length<=Ud:=by rw[<-rel.length];exact z
  have hl:(putK kvs k v).length<=Ud:=by have:=iD kvs k v;omega
  refine wpAny_setItem_pairs (hsz:=hz) (vQ ry) dd λh' dd' hs=>h _ ?_;have he:∃q,h'.get? a=some q:=let ⟨q,_,_,hq,_⟩:=dd';⟨q,hq⟩
  exact kC I (by rw[e];exact True.intro) hs he (Jv hl hd (rel.put k rv) dd')
 ·subst ey eH;cases(show u=Value.ref b from ry);obtain⟨z,hd,xs,rel,dd⟩:=G2 I.hok e;have hz:xs.length<=Ud:=by rw[<-Paired.length rel];exact z
  have hl:(putK kvs k v).length<=Ud:=by have:=iD kvs k v;omega
  refine wpAny_setItem_heap (hsz:=hz) (U7 hu) (lW I.hok eb) dd λh' dd' hs=>h _ ?_;obtain⟨q,es,ep,hq,h2,h3,h4,_,h5⟩:=dd';refine kC I (by rw[e];exact True.intro) hs ⟨q,hq⟩ ⟨hl,hd,_,(rel.put k eb rv).keeps λc ys ec=>?_,q,es,ep,hq,h2,h3,h4,h5⟩;rw[ao (CO ec e (λz=>nomatch z))];exact ec
end
noncomputable def Jl(i:T6):Prop:=∀ov iv,subscripted i false ov iv=operate [ov,iv] (getItem ov iv)
theorem Fv{prog:Ua}{w:T9}{A:Uj}{E:bh}{s:T8}{env:Env}{value slice:T6}{pos:Pos}{T id:String}{Q:bh}
  (hl:typeLookup (.type T) "__getitem__"=pure (some (.builtin id))) (hs:Jl slice)
  (h:Ul (model prog w) A (eval value env) (λo s₁=>Ul (model prog w) A (eval slice env) (λi s₂=>s₂.TypeIs o T/\Ul (model prog w) A (getItem o i) Q E s₂) E s₁) E s):
  Ul (model prog w) A (eval (.Subscript value slice pos) env) Q E s:=by
 refine U6 (Uo h (λo s₁ h₁=>Uo h₁ (λi s₂ h₂=>?_) λ_ _ x=>x) λ_ _ x=>x);obtain⟨hT,h₂⟩:=h₂;unfold subscriptTail;refine Uu ?_;rw[getitemInPython_of_ne hT.not_modules];refine Uu (wpAny_specialOf hT hl ?_);have fin:Ul (model prog w) A (subscripted slice false o i) (λr s₃=>Ul (model prog w) A (letTemporaryGo value o r >>= λ_=>pure r) Q E s₃) E s₂:=by
  rw[hs o i];exact wpAny_operating (Uo h₂ (λr s₃ h₃=>Uu (wpAny_letTemporaryGo (Ut h₃))) λ_ _ x=>x)
 first
  |exact Ut (Uu fin)
  |exact Uu (Ut (Uu fin))
  |exact Uu fin
theorem v6{X:Cx}{pins:bf}{σ:St}{H:Hp}{s:T8}{a:T5}{y:V}{o:Option V}(I:Inv X pins σ H s)(g:wL H a y o):s.TypeIs (.ref a) "dict":=by
 rcases g with⟨kvs,k,e,_,_⟩|⟨kvs,k,b,e,_,_,_⟩
 ·obtain⟨_,_,vs,_,dd⟩:=sO I.hok e;exact dd.typeIs
 ·obtain⟨_,_,xs,_,dd⟩:=qz I.hok e;exact dd.typeIs
noncomputable def LJ(td ty:TE):TE:=λσ H Q=>td σ H λx H1=>ty σ H1 λy H2=>∃a v,x=.ref a/\wL H2 a y (some v)/\Q v H2
section
variable{X:Cx}{o i e value:T6}{pos pos' tpos:Pos}{td ty tv:TE}
theorem Ga(hu:X.A.units+1<UL)(ho:PE X o td)(hi:PE X i ty)(hs:Jl i):PE X (.Subscript o i pos) (LJ td ty):=by
 intro pins s σ H Q I h;refine Fv PySem.F.slot_dict_getitem.lookup hs (cN (ho pins s σ H _ I h) λu s1 ⟨x,H1,I1,rx,q1⟩=>cN (hi pins s1 σ H1 _ I1 q1) λiv s2 ⟨y,H2,I2,ry,a,v,ex,g,q2⟩=>?_);subst ex;obtain rfl:u=Value.ref a:=rx;exact⟨v6 I2 g,zF hu I2 g ry λw' s3 I3 rw'=>⟨v,H2,I3,rw',q2⟩⟩
end
theorem Bz{P:Ua}{w:T9}{H:Hp}(h:Uc)(hb:sysModules<h.objs.size):b9 P w H (h.push {cls:=.type "dict",data:=.dict #[]}) h.objs.size (.dT []):=
 ⟨P9 _,beq_eq_false_iff_ne.mpr (Ne.symm (PC hb)),[],.nil,_,#[],0,Tp _ rfl,⟨rfl,rfl,rfl⟩,rfl,rfl,Qy⟩
noncomputable def HX:TE:=λ_ H Q=>∀p,H p=none->Q (.ref p) (upd H p (.dT []))
section
variable{X:Cx}{pos:Pos}
theorem BR:PE X (.Dict [] [] pos) HX:=λpins s σ H Q I h=>
 wpAny_Dict_empty ⟨.ref s.heap.objs.size,_,I.laid (a:=s.heap.objs.size) (o:=.dT []) (t':=s.toks) (λ_ _ q=>To _ q) (PX _) (Bz s.heap I.big),rfl,h _ (I.hok.fresh (PX _))⟩
end
structure M2(X:Cx)(o:T6)(m:Str)(apos:Pos)(e f:T6)(cpos:Pos):Prop where
 base:UH o m X.env (eval o X.env)=eval o X.env
 few:((backTo cpos (Um [e,f] X.env)).all (λx=>!x.1)&&(backToKw cpos (UJ [] X.env)).all (λx=>x.1.isSome)
  && decide (([e,f]:bx).length+([]:List UR).length+(if([]:List UR).isEmpty then 0 else 1)<30))=true
 line:(apos.endLine==cpos.line)=true
 trees:backTo cpos (Um [e,f] X.env)=[(false,eval e X.env),(false,eval f X.env)]
noncomputable def N7(H:Hp)(a:T5):Prop:=(∃kvs,Rd H a (.dK kvs))\/∃kvs,Rd H a (.dT kvs)
theorem JX{X:Cx}{pins:bf}{σ:St}{H:Hp}{s:T8}{a:T5}(I:Inv X pins σ H s)(d:N7 H a):
  s.TypeIs (.ref a) "dict"/\(∀b,Value.ref a=.ref b->∃ob,s.heap.get? b=some ob/\ob.dict=none)/\(a==sysModules)=false:=by
 rcases d with⟨kvs,e⟩|⟨kvs,e⟩
 ·obtain⟨_,hd,vs,_,dd⟩:=sO I.hok e;refine⟨dd.typeIs,λb q=>?_,hd⟩;cases q;obtain⟨ob,_,_,h1,h2,_⟩:=dd;exact⟨ob,h1,h2.2.1⟩
 ·obtain⟨_,hd,xs,_,dd⟩:=qz I.hok e;refine⟨dd.typeIs,λb q=>?_,hd⟩;cases q;obtain⟨ob,_,_,h1,h2,_⟩:=dd;exact⟨ob,h1,h2.2.1⟩
section
variable{X:Cx}{pins:bf}{σ:St}{H:Hp}{s:T8}{a:T5}{y d:V}{u r:T2}{o:Option V}{A:Uj}{E:bh}
theorem DY{Q:bh}(hu:A.units+1<UL)(I:Inv X pins σ H s)(g:wL H a y o)(ry:RelV y u)(rd:RelV d r)(h:∀w' s',Inv X pins σ H s'->RelV (o.getD d) w'->Q w' s'):
  Ul (model X.prog X.w) A (call (.builtin "dict.get") [.ref a,u,r]) Q E s:=by
 rcases g with⟨kvs,k,e,ey,l⟩|⟨kvs,k,b,e,ey,eb,l⟩
 ·subst ey;obtain⟨z,hd,vs,rel,dd⟩:=sO I.hok e;refine call_meetsIn TY dd.typeIs TZ (T1 _ _ _) (meets_dict_get_default (bN X.prog X.w) a (vQ ry) hd r) ⟨_,dd.mapOf,h _ _ (I.tok _) ?_⟩;rw[l];exact(rel.val k).getD rd
 ·subst ey;cases(show u=Value.ref b from ry);obtain⟨z,hd,xs,rel,dd⟩:=qz I.hok e;refine call_meetsIn TY dd.typeIs TZ (T1 _ _ _) (meetsH_dict_get_default (tupleKind (bN X.prog X.w)) a b hd r) ⟨U7 hu,k,xs,lW I.hok eb,dd,h _ _ (I.tok _) ?_⟩;rw[l];exact(rel.val k).getD rd
end
noncomputable def dj(cells:mj):pN->mj->mj
 |[],acc=>acc
 |(n,k)::r,acc=>if k=.free then(match cells.lookup n with|some c=>dj cells r ((n,c)::acc)|none=>dj cells r acc)else dj cells r acc
theorem lm{cells:mj}:∀(names:pN)(acc:mj),(∀x c,acc.lookup x=some c->cells.lookup x=some c)->
  ∀x c,(dj cells names acc).lookup x=some c->cells.lookup x=some c
 |[],acc,h=>h
 |(n,k)::r,acc,h=>by
  unfold dj;by_cases hk:k=.free
  ·rw[if_pos hk];cases e:cells.lookup n with
   |none=>exact lm r acc h
   |some c0=>
    refine lm r _ λx c q=>?_;rw[Qz]at q;cases hx:x==n with
    |true=>
     rw[hx]at q;have e1:x=n:=(by simpa using hx);cases q;rw[e1];exact e
    |false=>rw[hx]at q;exact h x c q
  ·rw[if_neg hk];exact lm r acc h
theorem jM{cells:mj}:∀(names:pN)(acc:mj)(x:Str),(acc.lookup x).isSome=true->((dj cells names acc).lookup x).isSome=true
 |[],acc,x,h=>h
 |(n,k)::r,acc,x,h=>by
  unfold dj;by_cases hk:k=.free
  ·rw[if_pos hk];cases e:cells.lookup n with
   |none=>exact jM r acc x h
   |some c0=>
    refine jM r _ x ?_;rw[Qz];cases hx:x==n with
    |true=>rfl
    |false=>exact h
  ·rw[if_neg hk];exact jM r acc x h
theorem jq{cells:mj}:∀(names:pN)(acc:mj)(x:Str),(x,NameKind.free)∈names->(∃c,cells.lookup x=some c)->((dj cells names acc).lookup x).isSome=true
 |[],acc,x,h,_=>absurd h (by simp)
 |(n,k)::r,acc,x,h,hc=>by
  unfold dj;rcases List.mem_cons.mp h with e|h
  ·cases e;rw[if_pos rfl];obtain⟨c,e⟩:=hc;rw[e];refine jM r _ _ ?_;rw[Qz];simp
  ·by_cases hk:k=.free
   ·rw[if_pos hk];cases e:cells.lookup n with
    |none=>exact jq r acc x h hc
    |some c0=>exact jq r _ x h hc
   ·rw[if_neg hk];exact jq r acc x h hc
theorem mN{scope:Uk}{env:Env}(h:∀p∈scope.names,p.2=.free->∃c,env.cells.lookup p.1=some c):closureFor scope env=pure (dj env.cells scope.names []):=by
 have go:∀(names:pN)(acc:mj),(∀p∈names,p.2=.free->∃c,env.cells.lookup p.1=some c)->
   (forIn names acc λx cs=>(match x with|(name,kind)=>if(kind==NameKind.free)=true then do let a<-cellOf env name;pure (ForInStep.yield ((name,a)::cs))else pure (ForInStep.yield cs):Sem (ForInStep mj)))=pure (dj env.cells names acc):=by
  intro names
  induction names with
  |nil=>intro acc _;rfl
  |cons p r ih=>
   intro acc hp;obtain⟨n,k⟩:=p;rw[QA];by_cases hk:k=.free
   ·obtain⟨c,e⟩:=hp (n,k) PJ hk;subst hk;have e2:cellOf env n=pure c:=(by unfold cellOf;rw[e]);simp only[beq_self_eq_true,if_true,e2,pure_bind];rw[ih _ λq hq=>hp q (PL _ hq)]
    conv=>rhs;rw[dj]
    simp[e]
   ·have hb:(k==NameKind.free)=false:=(by simpa using hk);simp only[hb,QB,if_false,pure_bind];rw[ih _ λq hq=>hp q (PL _ hq)]
    conv=>rhs;rw[dj,if_neg hk]
 have:=go scope.names [] h
 unfold closureFor;simp only[];rw[this];rfl
noncomputable def cq(X:Cx)(scope:Uk)(N:ax)(cl:mj)(C:T5)(fp:az)(s:T8)(H:Hp)(E:bh):Cx where
 prog:=X.prog
 w:=X.w
 K:=X.K
 mg:=X.mg
 base:=X.base
 A:=X.A
 N:=N
 s₀:=s
 H₀:=H
 env:=compEnvC scope cl C X.env
 outer:=X.stack
 stack:=X.stack
 ex:=fp
 fn:=λ_=>false
 calm:=X.calm
 pn:=[]
 xe:=E
noncomputable def uy(XN N:ax)(names:pN)(ix:gH):Bool:=
 decide (ix.length=N.length)&&(N.zip ix).all λp=>match p.2 with
  |some i=>decide (XN[i]?=some p.1)&&decide (names.lookup p.1=some .free)
  |none=>true
noncomputable def inBlock(ix:gH)(σ:St):St:=ix.map λo=>match o with
 |some i=>(σ[i]?).getD none
 |none=>none
theorem uy.len{XN N:ax}{names:pN}{ix:gH}(h:uy XN N names ix=true):ix.length=N.length:=by
 unfold uy at h;rw[Qm]at h;exact of_decide_eq_true h.1
theorem uy.at_{XN N:ax}{names:pN}{ix:gH}(h:uy XN N names ix=true){j i:Nat}{x:Str}(h1:N[j]?=some x)(h2:ix[j]?=some (some i)):XN[i]?=some x/\names.lookup x=some .free:=by
 unfold uy at h;rw[Qm]at h;have hm:(x,some i)∈N.zip ix:=by
  have e:(N.zip ix)[j]?=some (x,some i):=by rw[List.getElem?_zip_eq_some];exact⟨h1,h2⟩
  exact Qi e
 have q:=List.all_eq_true.mp h.2 _ hm;simp only[Qm]at q;exact⟨of_decide_eq_true q.1,of_decide_eq_true q.2⟩
theorem kz{env:Env}:∀{names:pN}{x:Str}{k:T3},
  (names.map λ(n,k)=>if(k==NameKind.free&&env.scope.kind==.function&&env.kindOf n==some .cell)then(n,NameKind.cell)else(n,k)).lookup x=some k->
  names.lookup x=some k\/(names.lookup x=some .free/\k=.cell)
 |[],_,_,h=>by simp at h
 |(n,k0)::r,x,k,h=>by
  have ih:=@kz env r x k
  replace h:List.lookup x ((if(k0==NameKind.free&&env.scope.kind==.function&&env.kindOf n==some .cell)=true then(n,NameKind.cell)else(n,k0))::(r.map λ(n,k)=>if(k==NameKind.free&&env.scope.kind==.function&&env.kindOf n==some .cell)then(n,NameKind.cell)else(n,k)))=some k:=h
  by_cases hc:(k0==NameKind.free&&env.scope.kind==.function&&env.kindOf n==some .cell)=true
  ·rw[if_pos hc]at h;have hk0:k0=.free:=by
    simp only[Qm]at hc
    simpa using hc.1.1
   cases hx:x==n with
   |true=>
    simp only[Qz,hx]at h;simp only[Qz,hx];cases h;exact .inr ⟨by rw[hk0],rfl⟩
   |false=>
    simp only[Qz,hx]at h ⊢;exact ih h
  ·rw[if_neg hc]at h;cases hx:x==n with
   |true=>
    simp only[Qz,hx]at h ⊢;exact .inl h
   |false=>
    simp only[Qz,hx]at h ⊢;exact ih h
noncomputable def JC(X:Cx)(ifs:bx)(t:TT):Prop:=
 ∀(pins:bf)(s:T8)(σ:St)(H:Hp)(Q:Bool->Hp->Prop),Inv X pins σ H s->t σ H Q->
  Ul (model X.prog X.w) X.A (forIn ifs true λc r=>if r=true then do let ok<-isTrue c X.env (eval c X.env);pure (ForInStep.yield ok)else pure (ForInStep.yield r)) (TP X pins σ Q) X.xe s
noncomputable def Lr:TT:=λ_ H Q=>Q true H
theorem FU{X:Cx}:JC X [] Lr:=λ_ _ _ H _ I h=>wpAny_tests_nil ⟨H,I,h⟩
theorem GH{X:Cx}{c:T6}{t:TT}(h:PT X c t):JC X [c] t:=λpins s σ H Q I q=>wpAny_tests_one (h pins s σ H Q I q)
theorem kc{prog:Ua}{w:T9}{A:Uj}{R:UE->cP}{s:T8}{elt target iter:T6}{ifs:bx}{scope:Uk}{pos:Pos}{it acc:T2}{env:Env}(I:Nat->cP)
  (turn:∀ n s,I n s->Ul (model prog w) A (pyNext it) (fun r s₁=>match r with
   |none=>R (.ok .next) s₁
   |some v=>Ul (model prog w) A (letOwnedTupleGo target it v) (λ_ s₁'=>Ul (model prog w) A (assign target env v) (λ_ s₂=>
     Ul (model prog w) A (forIn ifs true λc r=>if r=true then do let ok<-isTrue c env (eval c env);pure (ForInStep.yield ok)else pure (ForInStep.yield r)) (λok s₃=>
      if ok=true then Ul (model prog w) A (eval elt env) (λx s₄=>
       Ul (model prog w) A (call (.builtin "list.append") [acc,x]) (λ_ s₅=>∃m,m<n/\I m s₅) (notedBy (model prog w) A env λe s'=>R (.error e) s') s₄) (notedBy (model prog w) A env λe s'=>R (.error e) s') s₃
      else∃m,m<n/\I m s₃) (notedBy (model prog w) A env λe s'=>R (.error e) s') s₂) (notedBy (model prog w) A env λe s'=>R (.error e) s') s₁') (notedBy (model prog w) A env λe s'=>R (.error e) s') s₁) (notedBy (model prog w) A env λe s'=>R (.error e) s') s)
  (n:Nat) (h:I n s):
  UG (model prog w) A (.compLoop (.ListComp elt [⟨target,iter,ifs,0⟩] scope pos) 0 it acc env) R s:=by
 refine codeAny_loop rfl I (λn s hI=>?_) n h;show Ul _ A ((compTurn (.ListComp elt [⟨target,iter,ifs,0⟩] scope pos) 0 it acc env).onRaise (λx=>do noteFrame x env;theTreesLotGoes x)) _ _ s;refine wpAny_noted ?_;rw[compTurn_list];refine Uu (UT (Uu (Uo (turn n s hI) (λr s₁ h₁=>?_) λ_ _ h'=>h')));cases r with
 |none=>exact Ut h₁
 |some v=>
  refine Uu (Uo h₁ (λ_ s₁' h₁'=>?_) λ_ _ h'=>h');refine Uu (Uo h₁' (λ_ s₂ h₂=>Uu (Uo h₂ (λok s₃ h₃=>?_) λ_ _ h'=>h')) λ_ _ h'=>h');cases ok with
  |false=>exact Ut ⟨rfl,h₃⟩
  |true=>
   exact Uu (Uu (Uo h₃ (λx s₄ h₄=>Uu (Uo h₄ (λ_ s₅ h₅=>Ut (Ut ⟨rfl,h₅⟩)) λ_ _ h'=>h')) λ_ _ h'=>h'))
noncomputable def LW(wi:TI)(g:TG)(tc:TT)(te:TE)(ix:gH):TE:=λσ H Q=>
 wi σ H λJ H1=>∀D,H1 D=none->∃W:Nat->Nat->St->Hp->Prop,(∃m,W 0 m (inBlock ix σ) (upd H1 D (.lst [])))/\
  ∀i m σ' H',W i m σ' H'->(J.stop i H'/\Q (.ref D) H') \/
   (J.go i H'/\∀ x H2,J.yld i H' x H2->g x σ' H2 fun σ3 H3=>tc σ3 H3 fun b H4 =>
    if b=true then te σ3 H4 λv H5=>∃acc,H5 D=some (.lst acc)/\acc.length<Ud/\∃m',m'<m/\W (i+1) m' σ3 (upd H5 D (.lst (acc++[v])))
    else∃m',m'<m/\W (i+1) m' σ3 H4)
section
variable{X:Cx}{elt tg iter:T6}{ifs:bx}{scope:Uk}{pos:Pos}{N:ax}{ix:gH}{wi:TI}{g:TG}{tc:TT}{te:TE}
theorem qS{pins:bf}{σ:St}{s2:T8}{H2:Hp}{it:T5}{fp:az}{tn:Nat->Uc->Prop}{J:It}{Q:V->Hp->Prop}{E:bh}{RR:T2->T5->UE->cP}
    (hc:X.calm=true) (hcell:∀y∈scope.names,y.2≠.cell) (hkind:scope.kind=.function)
    (hfr:∀y∈scope.names,y.2=.free->X.env.scope.names.lookup y.1=some .cell\/X.env.scope.names.lookup y.1=some .free)
    (hix:uy X.N N scope.names ix=true)
    (hb:∀cl C fp s H E,PG (cq X scope N cl C fp s H E) tg g/\JC (cq X scope N cl C fp s H E) ifs tc/\PE (cq X scope N cl C fp s H E) elt te)
    (I2:Inv X pins σ H2 s2) (T:Turn X.prog X.w X.K tg J fp it tn) (st2:tn 0 s2.heap) (f2:∀b∈fp,rp X pins H2 b)
    (q:∀ D,H2 D=none->∃ W:Nat->Nat->St->Hp->Prop,(∃ m,W 0 m (inBlock ix σ) (upd H2 D (.lst []))) /\
      ∀i m σ' H',W i m σ' H'->(J.stop i H'/\Q (.ref D) H') \/
        (J.go i H'/\∀ x H3,J.yld i H' x H3->g x σ' H3 fun σ3 H3=>tc σ3 H3 fun b H4 =>
          if b=true then te σ3 H4 λv H5=>∃acc,H5 D=some (.lst acc)/\acc.length<Ud/\∃m',m'<m/\W (i+1) m' σ3 (upd H5 D (.lst (acc++[v])))
          else∃m',m'<m/\W (i+1) m' σ3 H4))
    (hRR:∀D C H' s' m,H2 D=none->s2.heap.objs.size<=C->H' C=none->s'.heap.Ns C m->(∀h',Tn C s'.heap h'->Inv X pins σ H' {s' with heap:=h'})->Q (.ref D) H'->RR (.ref D) C (.ok .next) s'):
    Ul (model X.prog X.w) X.A (newList []) (λacc s₃=>Ul (model X.prog X.w) X.A (newFunctionEnv scope X.env.globals (dj X.env.cells scope.names []) [] X.env.qual none .none (some X.env)) (λcenv s₄=>
      UG (model X.prog X.w) X.A (.compStart (.ListComp elt [⟨tg,iter,ifs,0⟩] scope pos) 0 (.ref it) acc {cenv with scope:=relabel scope X.env}) (RR acc cenv.locals) s₄) E s₃) E s2:=by
  refine U4 (wpAny_newFunctionEnv hcell (by intro y hy;simp at hy) (λh₁ hns₁ hsb₁=>?_) hkind);dsimp only at hns₁ hsb₁ ⊢;have I3:Inv X pins σ (upd H2 s2.heap.objs.size (.lst [])) {s2 with heap:=s2.heap.push {cls:=.type "list",dict:=none,data:=.seq ([]:aU).toArray},toks:=s2.toks}:=I2.lnew (its:=[]) (t':=s2.toks) .nil (P9 _);generalize hs3:({s2 with heap:=s2.heap.push {cls:=.type "list",dict:=none,data:=.seq ([]:aU).toArray},toks:=s2.toks}:T8)=s3 at I3;have eh3:s2.heap.push {cls:=.type "list",dict:=none,data:=.seq ([]:aU).toArray}=s3.heap:=by rw[<-hs3]
  rw[eh3]at hns₁ hsb₁ ⊢;have hC3:s3.heap.objs.size=s2.heap.objs.size+1:=by rw[<-eh3,Tq]
  have hD:H2 s2.heap.objs.size=none:=I2.fresh;obtain⟨W,⟨m0,w0⟩,turn⟩:=q s2.heap.objs.size hD;generalize hH3:upd H2 s2.heap.objs.size (.lst [])=H3 at I3 w0;have old:∀b o,s3.heap.get? b=some o->h₁.get? b=some o:=λb o e=>hsb₁.extBut b o (PC (Tj e)) (To _ e);have fpH3:∀b∈fp,H3 b=none:=λb hb'=>by
    rw[<-hH3,ao]
    ·exact(f2 b hb').1
    · obtain⟨o,e,_⟩:=T.obj _ _ st2 b hb'
      exact PC (Tj e)
  have fpLt:∀b∈fp,b<s3.heap.objs.size:=λb hb'=>by
    obtain⟨o,e,_⟩:=T.obj _ _ st2 b hb';rw[hC3];exact QC (Tj e)
  have hfree:∀p∈scope.names,p.2=.free->∃c,X.env.cells.lookup p.1=some c:=λp hp hk=>I2.ok.has p.1 (hfr p hp hk);have csub:∀x c,(dj X.env.cells scope.names []).lookup x=some c->X.env.cells.lookup x=some c:=lm scope.names [] (λx c e=>by simp at e);have names':∀x k,(relabel scope X.env).names.lookup x=some k->scope.names.lookup x=some k\/(scope.names.lookup x=some .free/\k=.cell):=λx k h=>kz h;have ok:(cq X scope N (dj X.env.cells scope.names []) s3.heap.objs.size fp s3 H3 (notedBy (model X.prog X.w) X.A (compEnvC scope (dj X.env.cells scope.names []) s3.heap.objs.size X.env) λe s'=>RR (.ref s2.heap.objs.size) s3.heap.objs.size (.error e) s')).Ok:=
    { mod:=I3.ok.mod
      kind:=hkind
      glob:=I3.ok.glob
      blt:=I3.ok.blt
      above:=PX _
      inj:=λx y c h1 h2=>I3.ok.inj x y c (csub x c h1) (csub y c h2)
      has:=λx hx=>by
        have fr:scope.names.lookup x=some .free:=by
          rcases hx with hx|hx
          · rcases names' x .cell hx with h|⟨h,_⟩
            ·exact absurd rfl (hcell _ (PySem.mem_of_lookup h))
            ·exact h
          · rcases names' x .free hx with h|⟨_,h⟩
            ·exact h
            ·cases h
        have hm:=PySem.mem_of_lookup fr;exact Option.isSome_iff_exists.mp (jq scope.names [] x hm (hfree _ hm rfl))
      cab:=λx c h _=>by cases h
      hd:=I3.ok.hd
      frames:=I3.ok.frames
      stk:=.inl rfl
      exf:=λb hb'=>⟨PC (fpLt b hb'),λx c e=>(f2 b hb').2.2.2.2.1 x c (csub x c e)⟩
      bs:=λb o e=>I3.bs b o e
      bsz:=PD I3.ok.bsz I3.sz
      noex:=λb o e hb'=>by
        obtain⟨_,_,_,h4,_⟩:=f2 b hb';rcases h4 with h4|h4
        ·exact I3.ok.noex b o e h4
        ·exact absurd (Pz (Tj (I3.ok.bs b o e).1) h4) (PB _)
      exfs:=λb hb' hs=>by
        obtain⟨_,h2,h3,_⟩:=f2 b hb';rcases List.mem_cons.mp (I3.stkSub b hs)with e|e
        ·exact h2 e
        ·exact h3 e
      funs:=I3.stack
      frf:=λb hb'=>I3.stkFree b hb'}
  generalize hE:(notedBy (model X.prog X.w) X.A (compEnvC scope (dj X.env.cells scope.names []) s3.heap.objs.size X.env) λe s'=>RR (.ref s2.heap.objs.size) s3.heap.objs.size (.error e) s')=E' at ok;obtain⟨hg,htc,hel⟩:=hb (dj X.env.cells scope.names []) s3.heap.objs.size fp s3 H3 E';have Istart:∀tk,Inv (cq X scope N (dj X.env.cells scope.names []) s3.heap.objs.size fp s3 H3 E') [] (inBlock ix σ) H3 {s3 with heap:=h₁,toks:=tk}:=λtk=>by
    refine⟨ok,rfl,I3.bare,Un.kept old,⟨_,hns₁,λj x v e1 e2 _=>?_⟩,λx c e=>?_,I3.fresh,λx c e=>I3.freeC x c (csub x c e),λp hp=>absurd (show p∈([]:bf)from hp) (by simp),I3.hok.kept old,?_⟩
    ·
      unfold inBlock at e2;rw[Qh]at e2;cases q1:ix[j]? with
      |none=>rw[q1]at e2;simp at e2
      |some o=>
        rw[q1]at e2;cases o with
        |none=>simp at e2
        |some i=>
          obtain⟨n1,n2⟩:=uy.at_ hix e1 q1;have e2':(σ[i]?).getD none=some v:=Option.some.inj e2;have e3:σ[i]?=some (some v):=by
            cases q2:σ[i]? with
            |none=>rw[q2]at e2';simp at e2'
            |some o2=>rw[q2]at e2';simpa using e2'
          obtain⟨m,hn,hl⟩:=I3.loc;have hm:=PySem.mem_of_lookup n2;have hk:=hfr _ hm rfl;have hv:Ij X.env.scope x:=by
            rcases hk with hk|hk
            ·exact .inr (.inl hk)
            ·exact .inr (.inr hk)
          obtain⟨u,r,l⟩:=hl i x v n1 e3 hv;refine⟨u,r,.inr ?_⟩;rcases l with⟨kl,_⟩|⟨_,c,hcx,hcell'⟩
          · have kl':X.env.scope.names.lookup x=some .local:=kl
            rcases hk with hk|hk
            ·rw[kl']at hk;cases hk
            ·rw[kl']at hk;cases hk
          · obtain⟨c',hc'⟩:=Option.isSome_iff_exists.mp (jq (cells:=X.env.cells) scope.names [] x hm ⟨c,hcx⟩)
            have ec:c'=c:=Option.some.inj ((csub x c' hc').symm.trans hcx);subst ec;refine⟨?_,c',hc',?_⟩
            ·
              show(relabel scope X.env).names.lookup x=some .cell\/(relabel scope X.env).names.lookup x=some .free;have gen:∀names:pN,names.lookup x=some .free->((names.map λ(n,k)=>if(k==NameKind.free&&X.env.scope.kind==.function&&X.env.kindOf n==some .cell)then(n,NameKind.cell)else(n,k)).lookup x=some .cell\/(names.map λ(n,k)=>if(k==NameKind.free&&X.env.scope.kind==.function&&X.env.kindOf n==some .cell)then(n,NameKind.cell)else(n,k)).lookup x=some .free):=by
                intro names
                induction names with
                |nil=>intro h;simp at h
                |cons p r ih=>
                  obtain⟨n,k⟩:=p;intro h;show List.lookup x ((if(k==NameKind.free&&X.env.scope.kind==.function&&X.env.kindOf n==some .cell)=true then(n,NameKind.cell)else(n,k))::_)=_\/List.lookup x ((if(k==NameKind.free&&X.env.scope.kind==.function&&X.env.kindOf n==some .cell)=true then(n,NameKind.cell)else(n,k))::_)=_;cases hx:x==n with
                  |true=>
                    simp only[Qz,hx]at h;by_cases hcc:(k==NameKind.free&&X.env.scope.kind==.function&&X.env.kindOf n==some .cell)=true
                    ·rw[if_pos hcc];left;simp only[Qz,hx]
                    ·rw[if_neg hcc];right;simp only[Qz,hx];exact h
                  |false=>
                    simp only[Qz,hx]at h;by_cases hcc:(k==NameKind.free&&X.env.scope.kind==.function&&X.env.kindOf n==some .cell)=true
                    ·rw[if_pos hcc];simp only[Qz,hx];exact ih h
                    ·rw[if_neg hcc];simp only[Qz,hx];exact ih h
              exact gen scope.names n2
            ·exact hcell'.keeps old
    · obtain⟨v,z⟩:=I3.cell x c (csub x c e)
      exact⟨v,z.keeps old⟩
    · show(inBlock ix σ).length=N.length
      unfold inBlock;rw[P7];exact uy.len hix
  have stat:∀{H':Hp},(∀b∈fp,H' b=none)->∀b∈fp,rp (cq X scope N (dj X.env.cells scope.names []) s3.heap.objs.size fp s3 H3 E') [] H' b:=λhn b hb'=>
    ⟨hn b hb',(ok.exf b hb').1,ok.exfs b hb',.inl hb',(ok.exf b hb').2,λp hp=>absurd (show p∈([]:bf)from hp) (by simp)⟩
  have tn1:tn 0 h₁:=T.keep _ _ _ st2 λb hb' o e=>old b o (by rw[<-eh3];exact To _ e);have loop:∀tk,UG (model X.prog X.w) X.A (.compLoop (.ListComp elt [⟨tg,iter,ifs,0⟩] scope pos) 0 (.ref it) (.ref s2.heap.objs.size) (compEnvC scope (dj X.env.cells scope.names []) s3.heap.objs.size X.env))
      (RR (.ref s2.heap.objs.size) s3.heap.objs.size) {s3 with heap:=h₁,toks:=tk}:=by
    intro tk;refine kc (λn s'=>∃i σ' H',Inv (cq X scope N (dj X.env.cells scope.names []) s3.heap.objs.size fp s3 H3 E') [] σ' H' s'/\tn i s'.heap/\(∀b∈fp,H' b=none)/\W i n σ' H') ?_ m0 ⟨0,_,_,Istart tk,tn1,fpH3,w0⟩;rintro n s5 ⟨i,σ5,H5,I5,st5,fr5,w5⟩;rw[hE];rcases turn i n σ5 H5 w5 with⟨stop,qn⟩|⟨go,step⟩
    · refine cN (T.done (cq X scope N (dj X.env.cells scope.names []) s3.heap.objs.size fp s3 H3 E') rfl rfl rfl hc i [] s5 σ5 H5 _ I5 (stat fr5) st5 stop) λr s6 ⟨hr,I6⟩=>?_
      subst hr;obtain⟨m6,hn6,_⟩:=I6.loc;refine hRR s2.heap.objs.size s3.heap.objs.size H5 s6 m6 hD (by rw[hC3];exact Qb _) I6.free hn6 (λh' sb=>?_) qn;have ne:∀b o,s3.heap.get? b=some o->b≠s3.heap.objs.size:=λb o e=>PC (Tj e);refine I3.call' (s':={s6 with heap:=h'}) (H':=H5) (ch:=fp) I6.os ⟨λb o e n hb' hx=>?_,λb o e n hb' hx=>?_,λb o e n hx=>?_,λb o e hx=>?_,I6.base.tups,I6.base.frzs,I6.base.tbls⟩ ?_ I6.bare λb hb'=>?_
      ·exact(sb.2 b (ne b o e)).trans (I6.base.keep b o e n hb' hx)
      · obtain⟨sl,e1⟩:=I6.base.slot b o e n hb' hx
        exact⟨sl,(sb.2 b (ne b o e)).trans e1⟩
      ·exact I6.base.free b o e n hx
      · obtain⟨o',e1⟩:=I6.base.there b o e hx
        exact⟨o',(sb.2 b (ne b o e)).trans e1⟩
      · intro b ob e
        have hfreeC:H5 s3.heap.objs.size=none:=I6.free;refine(I6.hok b ob e).stay (λc v hcc q=>(sb.2 c ?_).trans q) (λ_ q=>q) λ_ _ q=>q;rintro rfl;rcases hcc with rfl|hcc
        ·rw[hfreeC]at e;cases e
        ·rw[hfreeC]at hcc;cases hcc
      · obtain⟨_,h2',_,h4',h5',h6'⟩:=f2 b hb'
        exact⟨h4',h2',h5',h6'⟩
    · refine cN (T.item (cq X scope N (dj X.env.cells scope.names []) s3.heap.objs.size fp s3 H3 E') rfl rfl rfl hc i [] s5 σ5 H5 _ I5 (stat fr5) st5 go) λr s6 ⟨u,hr,h6⟩=>?_
      subst hr;refine cN h6 λ_ s7 ⟨x,H7,I7,r7,y7,st7,fr7⟩=>?_;have I7':=I7.pinned (stat fr7) (T.obj _ _ st7);refine cN (hg _ s7 σ5 H7 x u _ I7' r7 (step x H7 y7)) λ_ s8 ⟨σ8,H8,I8,q8⟩=>?_;refine cN (htc _ s8 σ8 H8 _ I8 q8) λb s9 ⟨H9,I9,q9⟩=>?_;have again:∀{σ':St}{H':Hp}{s':T8}{m':Nat},Inv (cq X scope N (dj X.env.cells scope.names []) s3.heap.objs.size fp s3 H3 E') ([]++qE fp s7.heap) σ' H' s'->m'<n->W (i+1) m' σ' H'->
          ∃m,m<n/\∃i σ' H',Inv (cq X scope N (dj X.env.cells scope.names []) s3.heap.objs.size fp s3 H3 E') [] σ' H' s'/\tn i s'.heap/\(∀b∈fp,H' b=none)/\W i m σ' H':=λ{σ' H' s' m'} I' hm w'=>by
        refine⟨m',hm,i+1,σ',H',I'.unpinned,T.keep _ _ _ st7 λb hb' o e=>(I'.pin (b,o) (PY _ (PY _ (jA hb' e)))).1,λb hb'=>?_,w'⟩;obtain⟨o,e,d⟩:=T.obj _ _ st7 b hb';exact(I'.pin (b,o) (PY _ (PY _ (jA hb' e)))).2.1
      cases b with
      |false=>
        rw[if_neg P4]at q9 ⊢;obtain⟨m',hm,w9⟩:=q9;exact again I9 hm w9
      |true=>
        rw[if_pos rfl]at q9 ⊢;refine cN (hel _ s9 σ8 H9 _ I9 q9) λy s10 ⟨v,H10,I10,r10,q10⟩=>?_;obtain⟨acc,ha,hz,m',hm,w10⟩:=q10;refine cN (kR _ s10 σ8 H10 (.ref s2.heap.objs.size) [v] (.ref s2.heap.objs.size) [y] (λ_ H'=>H'=upd H10 s2.heap.objs.size (.lst (acc++[v]))) I10 rfl (.cons r10 .nil) ⟨_,acc,v,rfl,rfl,ha,hz,rfl⟩) λ_ s11 ⟨_,H11,I11,_,NK⟩=>?_;subst NK;exact again I11 hm w10
  subst hs3;exact codeAny_compStart_list (loop _) (T.self _ 0 _ _ _ tn1 (loop _))
theorem Hc(hc:X.calm=true)(hcell:∀y∈scope.names,y.2≠.cell)(hkind:scope.kind=.function)(hnames:∀y∈scope.names,y.2=.local->scope.names.lookup y.1=some .local)
  (hfr:∀y∈scope.names,y.2=.free->X.env.scope.names.lookup y.1=some .cell\/X.env.scope.names.lookup y.1=some .free)
  (hix:uy X.N N scope.names ix=true) (hi:PI X tg iter wi)
  (hb:∀cl C fp s H E,PG (cq X scope N cl C fp s H E) tg g/\JC (cq X scope N cl C fp s H E) ifs tc/\PE (cq X scope N cl C fp s H E) elt te)
  (hs:∀x,Ux iter X.env x=pure x:=by intro _;rfl):PE X (.ListComp elt [⟨tg,iter,ifs,0⟩] scope pos) (LW wi g tc te ix):=by
 intro pins s σ H Q I h;rw[eval_ListComp];refine U8 (use:=none) rfl hs (mN λp hp hk=>I.ok.has p.1 (hfr p hp hk)) hkind hnames (cN (hi pins s σ H _ I h) λv s1 h1=>cN h1 λitv s2 h2=>?_);obtain⟨it,fp,tn,J,H2,e,I2,T,st2,f2,q⟩:=h2;subst e;refine qS (Q:=Q) (RR:=λacc C=>compPost (model X.prog X.w) X.A X.xe none (EP X pins σ Q) acc C) hc hcell hkind hfr hix hb I2 T st2 f2 q ?_;intro D C H' s' m _ _ _ hn hI hq;exact⟨m,hn,λh' sb=>⟨.ref D,H',hI h' sb,rfl,hq⟩⟩
theorem Hu{i:Nat}{y:Str}{py spos:Pos}(hN:X.N.Nodup)(hi':X.N[i]?=some y)(hx:Loc X.env.scope y)
  (hc:X.calm=true) (hcell:∀y∈scope.names,y.2≠.cell) (hkind:scope.kind=.function) (hnames:∀y∈scope.names,y.2=.local->scope.names.lookup y.1=some .local)
  (hfr:∀y∈scope.names,y.2=.free->X.env.scope.names.lookup y.1=some .cell\/X.env.scope.names.lookup y.1=some .free)
  (hix:uy X.N N scope.names ix=true) (hi:PI X tg iter wi)
  (hb:∀cl C fp s H E,PG (cq X scope N cl C fp s H E) tg g/\JC (cq X scope N cl C fp s H E) ifs tc/\PE (cq X scope N cl C fp s H E) elt te)
  (hsw:swapsWith (.ListComp elt [⟨tg,iter,ifs,0⟩] scope pos) (some (.Name y py)) spos.line X.env=pure true:=by rfl)
  (hs:∀x,Ux iter X.env x=pure x:=by intro _;rfl)
  (hf:X.fn y=true\/X.env.scope.names.lookup y=some .local:=by first|exact .inl rfl|exact .inr rfl|assumption):
  PS X (.Assign [.Name y py] (.ListComp elt [⟨tg,iter,ifs,0⟩] scope pos) spos) (Bq (LW wi g tc te ix) (tR i)):=by
 intro pins s σ H D0 I h;rw[exec_Assign_Name_used _ _ _ _ hsw];refine Uu (UT (Uu ?_));show Ul _ X.A (do let _<-comprehension (.ListComp elt [⟨tg,iter,ifs,0⟩] scope pos) scope X.env _ (newList []) false (eval iter X.env) (some (assign (.Name y py) X.env))) _ _ s;refine Uu (cN (U8 (use:=some (assign (.Name y py) X.env)) (Q:=λ_ s'=>SP X pins D0 .next s') rfl hs (mN λp hp hk=>I.ok.has p.1 (hfr p hp hk)) hkind hnames
  (cN (hi pins s σ H _ I h) λv s1 h1=>cN h1 λitv s2 h2=>?_)) λ_ s' hq=>Ut (Ut hq))
 obtain⟨it,fp,tn,J,H2,e,I2,T,st2,f2,q⟩:=h2;subst e;refine qS (Q:=λv H'=>tR i v σ H' D0.nx) (RR:=λacc C=>compPost (model X.prog X.w) X.A X.xe (some (assign (.Name y py) X.env)) (λ_ s'=>SP X pins D0 .next s') acc C) hc hcell hkind hfr hix hb I2 T st2 f2 q ?_;intro D C H' s' m _ hC hfree hn hI hq;have I':Inv X pins σ H' s':=hI s'.heap (.refl ..);have nL:C≠X.env.locals:=PR (Pz I2.lt hC);have nC:∀x c,X.env.cells.lookup x=some c->c≠C:=λx c e z=>by
  obtain⟨v,q⟩:=I2.cell x c e;exact absurd (Pz q.lt (by rw[z];exact hC)) (PB _)
 have nP:∀p∈X.pn++pins,p.1≠C:=λp hp z=>absurd (Pz (Tj (I2.pin p hp).1) (by rw[z];exact hC)) (PB _);show Ul _ X.A (assign (.Name y py) X.env (.ref D)) _ _ _;refine wpAny_assign_Name (sy I' hN hi' hx (v:=.ref D) rfl (λs'' I'' ch=>?_) hf);obtain⟨a,sb,ha⟩:=ch;have hCa:C≠a:=by
  rcases ha with ha|ha
  ·rw[ha];exact nL
  ·exact Ne.symm (nC y a ha)
 refine⟨m,hn.sameBut sb hCa,λh' sb'=>⟨_,H',?_,hq⟩⟩;exact I''.turned (t':=s''.toks) (λb o hb' e=>(sb'.2 b hb').trans e) hfree nL (.inr (PD I2.sz hC)) nC nP
end
end L2
namespace TG
open PySem PySem.Spec L2
inductive D where
 |non|bl (b:Bool)|int (i:Int)|str (x:Str)|tup (xs:List D)|lst (xs:List D)
 |dct (ks vs:List D)|obj (c:Str) (fs:ax) (vs:List D)|exc (c:Str) (fs:ax) (vs:List D)
noncomputable abbrev bB:=List (List D)
noncomputable abbrev dZ:=List (Str×D)
noncomputable abbrev cx:=List (List Key×D)
noncomputable abbrev bG:=Option D
noncomputable def bg:Key->D
 |.inl i=>.int i
 |.inr x=>.str x
noncomputable def clsAt(K:SH)(c:Str)(C:T5):Prop:=S8 K Ug c=some (some (.ref C))
noncomputable def Nm(C a:T5)(dx:Option T5):(T5->Prop)->Uc->Prop:=λ_ h=>∃o,h.get? a=some o/\o.cls=.ref C/\o.dict=dx
mutual
noncomputable def cu(K:SH)(H:Hp):D->V->Prop
 |.non,v=>v=.non
 |.bl b,v=>v=.bl b
 |.int i,v=>v=.int i
 |.str x,v=>v=.str x
 |.tup xs,v=>∃a vs,v=.ref a/\H a=some (.tup vs)/\aK K H xs vs
 |.lst xs,v=>∃a vs,v=.ref a/\md K H a vs/\aK K H xs vs
 |.dct ks ds,v=>∃a vs,v=.ref a/\aK K H ds vs/\((∃kvs:List (Key×V),H a=some (.dK kvs)/\ks=kvs.map (λp=>bg p.1)/\vs=kvs.map (·.2)) \/
   (∃kvs:List (List Key×V),H a=some (.dT kvs)/\ks=kvs.map (λp=>.tup (p.1.map bg))/\vs=kvs.map (·.2)) \/
   ∃(kvs:List (List Key×V))(o:Obj),H a=some (.frz o (.dT kvs))/\ks=.non::kvs.map (λp=>.tup (p.1.map bg))/\vs=kvs.map (·.2))
 |.obj c fs ds,v=>∃a vs,v=.ref a/\aK K H ds vs/\fs.length=vs.length/\∃C dx,clsAt K c C/\H a=some (.ins C dx (fs.zip vs))
 |.exc c fs ds,v=>∃a vs,v=.ref a/\aK K H ds vs/\fs.length=vs.length/\∃C dx,clsAt K c C/\H a=some (.ext (Nm C a dx))/\(fs=[]\/∃d,dx=some d/\H d=some (.xd (fs.zip vs)))
noncomputable def aK(K:SH)(H:Hp):List D->aJ->Prop
 |[],vs=>vs=[]
 |x::xs,vs=>∃v r,vs=v::r/\cu K H x v/\aK K H xs r
end
theorem Bh{K:SH}{H H':Hp}{a:T5}{xs:aJ}(e:aR H H')(h:nA K H a xs):nA K H' a xs:=by
 rcases h with(h|⟨o,h⟩)|h
 ·exact .inl (.inl (e _ _ h))
 ·exact .inl (.inr ⟨o,e _ _ h⟩)
 ·exact .inr h
theorem bJ{K:SH}{H H':Hp}{a:T5}{xs:aJ}(e:aR H H')(h:H a=some (.tup xs)):nA K H' a xs:=nA.of (e _ _ h)
mutual
theorem cu.mono{K:SH}{H H':Hp}(e:aR H H'):∀{d:D}{v:V},cu K H d v->cu K H' d v
 |.non,_,h=>by unfold cu at h ⊢;exact h
 |.bl _,_,h=>by unfold cu at h ⊢;exact h
 |.int _,_,h=>by unfold cu at h ⊢;exact h
 |.str _,_,h=>by unfold cu at h ⊢;exact h
 |.tup xs,_,h=>by
  unfold cu at h ⊢;obtain⟨a,vs,e1,h1,h2⟩:=h;exact⟨a,vs,e1,e _ _ h1,aK.mono e h2⟩
 |.lst xs,_,h=>by
  unfold cu at h ⊢;obtain⟨a,vs,e1,h1,h2⟩:=h;exact⟨a,vs,e1,e.seq h1,aK.mono e h2⟩
 |.dct _ ds,_,h=>by
  unfold cu at h ⊢;obtain⟨a,vs,e1,h1,h2⟩:=h;refine⟨a,vs,e1,aK.mono e h1,?_⟩;rcases h2 with⟨kvs,h2,h3⟩|⟨kvs,h2,h3⟩|⟨kvs,o,h2,h3⟩
  ·exact .inl ⟨kvs,e _ _ h2,h3⟩
  ·exact .inr (.inl ⟨kvs,e _ _ h2,h3⟩)
  ·exact .inr (.inr ⟨kvs,o,e _ _ h2,h3⟩)
 |.obj _ _ ds,_,h=>by
  unfold cu at h ⊢;obtain⟨a,vs,e1,h1,h2,C,dx,h3,h4⟩:=h;exact⟨a,vs,e1,aK.mono e h1,h2,C,dx,h3,e _ _ h4⟩
 |.exc _ _ ds,_,h=>by
  unfold cu at h ⊢;obtain⟨a,vs,e1,h1,h2,C,dx,h3,h4,h5⟩:=h;exact⟨a,vs,e1,aK.mono e h1,h2,C,dx,h3,e _ _ h4,h5.imp id λ⟨d,q1,q2⟩=>⟨d,q1,e _ _ q2⟩⟩
theorem aK.mono{K:SH}{H H':Hp}(e:aR H H'):∀{ds:List D}{vs:aJ},aK K H ds vs->aK K H' ds vs
 |[],_,h=>by unfold aK at h ⊢;exact h
 |x::xs,_,h=>by
  unfold aK at h ⊢;obtain⟨v,r,e1,h1,h2⟩:=h;exact⟨v,r,e1,cu.mono e h1,aK.mono e h2⟩
end
section
variable{K:SH}{H:Hp}
theorem jB{v:V}:cu K H .non v↔v=.non:=by unfold cu;rfl
theorem ju{b:Bool}{v:V}:cu K H (.bl b) v↔v=.bl b:=by unfold cu;rfl
theorem eF{i:Int}{v:V}:cu K H (.int i) v↔v=.int i:=by unfold cu;rfl
theorem eN{x:Str}{v:V}:cu K H (.str x) v↔v=.str x:=by unfold cu;rfl
theorem bY{xs:List D}{v:V}:cu K H (.tup xs) v↔∃a vs,v=.ref a/\H a=some (.tup vs)/\aK K H xs vs:=by unfold cu;rfl
theorem bX{xs:List D}{v:V}:cu K H (.lst xs) v↔∃a vs,v=.ref a/\md K H a vs/\aK K H xs vs:=by unfold cu;rfl
theorem L3{ks ds : List D}{v : V}: cu K H (.dct ks ds) v ↔ ∃ a vs, v = .ref a /\ aK K H ds vs /\ ((∃ kvs : List (Key × V), H a = some (.dK kvs) /\ ks = kvs.map (fun p => bg p.1) /\ vs = kvs.map (·.2)) \/
      (∃kvs:List (List Key×V),H a=some (.dT kvs)/\ks=kvs.map (λp=>.tup (p.1.map bg))/\vs=kvs.map (·.2)) \/
      ∃(kvs:List (List Key×V))(o:Obj),H a=some (.frz o (.dT kvs))/\ks=.non::kvs.map (λp=>.tup (p.1.map bg))/\vs=kvs.map (·.2)):=by unfold cu;rfl
theorem LN{c:Str}{fs:ax}{ds:List D}{v:V}:cu K H (.obj c fs ds) v↔∃a vs,v=.ref a/\aK K H ds vs/\fs.length=vs.length/\∃C dx,clsAt K c C/\H a=some (.ins C dx (fs.zip vs)):=by unfold cu;rfl
theorem cn{vs:aJ}:aK K H [] vs↔vs=[]:=by unfold aK;rfl
theorem aX{x:D}{xs:List D}{vs:aJ}:aK K H (x::xs) vs↔∃v r,vs=v::r/\cu K H x v/\aK K H xs r:=by conv=>lhs;unfold aK
theorem aK.length:∀{ds:List D}{vs:aJ},aK K H ds vs->ds.length=vs.length
 |[],_,h=>by rw[cn]at h;rw[h];rfl
 |_::xs,_,h=>by
  rw[aX]at h;obtain⟨v,r,e,_,h⟩:=h;rw[e,P5,P5,aK.length h]
theorem aK.get:∀{ds:List D}{vs:aJ}{i:Nat}{d:D},aK K H ds vs->ds[i]?=some d->∃v,vs[i]?=some v/\cu K H d v
 |[],_,_,_,_,e=>by simp at e
 |x::xs,_,0,d,h,e=>by
  rw[aX]at h;obtain⟨v,r,rfl,h1,_⟩:=h;simp at e;subst e;exact⟨v,rfl,h1⟩
 |x::xs,_,i+1,d,h,e=>by
  rw[aX]at h;obtain⟨v,r,rfl,_,h2⟩:=h;obtain⟨w,e1,e2⟩:=aK.get (i:=i) h2 (by simpa using e);exact⟨w,by simpa using e1,e2⟩
theorem aK.append:∀{ds es:List D}{vs ws:aJ},aK K H ds vs->aK K H es ws->aK K H (ds++es) (vs++ws)
 |[],_,_,_,h,h'=>by rw[cn]at h;subst h;exact h'
 |x::xs,_,_,_,h,h'=>by
  rw[aX]at h;obtain⟨v,r,rfl,h1,h2⟩:=h;rw[QE,aX];exact⟨v,_,rfl,h1,aK.append h2 h'⟩
theorem aK.take:∀{ds:List D}{vs:aJ}(n:Nat),aK K H ds vs->aK K H (ds.take n) (vs.take n)
 |_,_,0,_=>by rw[QG,QG,cn]
 |[],_,_+1,h=>by rw[cn]at h;subst h;rw[QH,QH,cn]
 |x::xs,_,n+1,h=>by
  rw[aX]at h;obtain⟨v,r,rfl,h1,h2⟩:=h;rw[QI,QI,aX];exact⟨v,_,rfl,h1,aK.take n h2⟩
theorem aK.drop:∀{ds:List D}{vs:aJ}(n:Nat),aK K H ds vs->aK K H (ds.drop n) (vs.drop n)
 |_,_,0,h=>by rw[QJ,QJ];exact h
 |[],_,_+1,h=>by rw[cn]at h;subst h;rw[List.drop_nil,List.drop_nil,cn]
 |x::xs,_,n+1,h=>by
  rw[aX]at h;obtain⟨v,r,rfl,h1,h2⟩:=h;rw[QK,QK];exact aK.drop n h2
theorem aK.snoc{ds:List D}{vs:aJ}{d:D}{v:V}(h:aK K H ds vs)(h':cu K H d v):aK K H (ds++[d]) (vs++[v]):=
 h.append (aX.mpr ⟨v,[],rfl,h',cn.mpr rfl⟩)
theorem aK.one{d:D}{vs:aJ}(h:aK K H [d] vs):∃v,vs=[v]/\cu K H d v:=by
 rw[aX]at h;obtain⟨v,r,rfl,h1,h2⟩:=h;rw[cn]at h2;subst h2;exact⟨v,rfl,h1⟩
theorem aK.two{d e:D}{vs:aJ}(h:aK K H [d,e] vs):∃v w,vs=[v,w]/\cu K H d v/\cu K H e w:=by
 rw[aX]at h;obtain⟨v,r,rfl,h1,h2⟩:=h;obtain⟨w,rfl,h3⟩:=h2.one;exact⟨v,w,rfl,h1,h3⟩
theorem sq:∀ns:List Int,aK K H (ns.map D.int) (ns.map V.int)
 |[]=>cn.mpr rfl
 |n::ns=>aX.mpr ⟨_,_,rfl,eF.mpr rfl,sq ns⟩
end
noncomputable def hid(H:Hp)(O:az):Hp:=λb=>if b∈O then none else H b
theorem aj(H:Hp)(O:az):aR (hid H O) H:=λb o h=>by
 unfold hid at h;split at h
 ·cases h
 ·exact h
theorem bq{H H':Hp}{O:az}(e:aR H H'):aR (hid H O) (hid H' O):=λb o h=>by
 unfold hid at h ⊢;by_cases hb:b∈O
 ·rw[if_pos hb]at h;cases h
 ·rw[if_neg hb]at h ⊢;exact e b o h
theorem fw{H:Hp}{O O':az}(s:∀a∈O,a∈O'):aR (hid H O') (hid H O):=λb o h=>by
 unfold hid at h ⊢;by_cases hb:b∈O'
 ·rw[if_pos hb]at h;cases h
 ·rw[if_neg hb]at h;rw[if_neg λz=>hb (s b z)];exact h
theorem Fu(H:Hp):hid H []=H:=by funext b;unfold hid;simp
theorem ug{H:Hp}{O:az}{p:T5}{o:HO}(h:H p=none):aR (hid H O) (hid (upd H p o) O):=λb u q=>by
 unfold hid at q ⊢;by_cases hb:b∈O
 ·rw[if_pos hb]at q;cases q
 ·rw[if_neg hb]at q ⊢;rw[ao (aE q h)];exact q
theorem bj{H:Hp}{p:T5}(h:H p=none)(o:HO):aR H (upd H p o):=λb u q=>by rw[ao (aE q h)];exact q
theorem gJ{H:Hp}{O:az}{p:T5}(h:p∉O):hid H O p=H p:=by unfold hid;rw[if_neg h]
theorem eM{H:Hp}{O:az}{p:T5}{o:HO}(h:p∈O):aR (hid H O) (hid (upd H p o) O):=λb u q=>by
 unfold hid at q ⊢;by_cases hb:b∈O
 ·rw[if_pos hb]at q;cases q
 ·rw[if_neg hb]at q ⊢;rw[ao (λz=>hb (by rw[z];exact h))];exact q
inductive S where
 |val (d:D)|own (d:D)|nest (d:D)
noncomputable abbrev aq:=List (Option S)
noncomputable def oV:HO->Prop
 |.lst _=>True
 |.dK _=>True
 |.dT _=>True
 |_=>False
class aB where
 tab:Hp->Prop
 same:∀{H H':Hp},tab H->aR H H'->tab H'
 own:∀{H:Hp}{p:T5}{o o':HO},tab H->H p=some o->oV o->tab (upd H p o')
variable[aB]
noncomputable def dN(H:Hp)(O:az):Prop:=aB.tab H/\∀a∈O,∃o,H a=some o/\oV o
theorem dN.not{H:Hp}{O:az}(h:dN H O){p:T5}(n:H p=none):p∉O:=λz=>by
 obtain⟨vs,e,_⟩:=h.2 p z;rw[n]at e;cases e
theorem dN.same{H H':Hp}{O:az}(h:dN H O)(e:aR H H'):dN H' O:=⟨aB.same h.1 e,λa ha=>let ⟨vs,q,m⟩:=h.2 a ha;⟨vs,e _ _ q,m⟩⟩
theorem dN.upd{H:Hp}{O:az}{p:T5}{o:HO}(h:dN H O)(hp:p∈O)(m:oV o):dN (L2.upd H p o) O:=⟨let ⟨_,q,r⟩:=h.2 p hp;aB.own h.1 q r,λa ha=>by
 by_cases z:a=p
 ·rw[z];exact⟨o,ay,m⟩
 ·obtain⟨u,q,r⟩:=h.2 a ha;exact⟨u,by rw[ao z];exact q,r⟩⟩
theorem dN.cons{H:Hp}{O:az}{p:T5}{o:HO}(h:dN H O)(hp:H p=some o)(m:oV o):dN H (p::O):=⟨h.1,λa ha=>by
 rcases List.mem_cons.mp ha with z|z
 ·rw[z];exact⟨o,hp,m⟩
 ·exact h.2 a z⟩
noncomputable def cD(K:SH)(H:Hp)(O:az)(a:T5)(d:D):Prop:=∃o vs,H a=some o/\match d with
 |.lst xs=>o=.lst vs/\aK K (hid H O) xs vs
 |.dct ks ds=>aK K (hid H O) ds vs/\((∃kvs:List (Key×V),o=.dK kvs/\ks=kvs.map (λp=>bg p.1)/\vs=kvs.map (·.2)) \/
   ∃kvs:List (List Key×V),o=.dT kvs/\ks=kvs.map (λp=>.tup (p.1.map bg))/\vs=kvs.map (·.2))
 |_=>False
theorem cD.mono{K:SH}{H H':Hp}{O O':az}{a:T5}{d:D}(h:cD K H O a d)(e:H a=H' a)(s:aR (hid H O) (hid H' O')):cD K H' O' a d:=by
 obtain⟨o,vs,h1,h2⟩:=h;refine⟨o,vs,by rw[<-e];exact h1,?_⟩;cases d with
 |lst xs=>exact⟨h2.1,h2.2.mono s⟩
 |dct ks ds=>exact⟨h2.1.mono s,h2.2⟩
 |_=>exact h2
theorem cD.some{K:SH}{H:Hp}{O:az}{a:T5}{d:D}(h:cD K H O a d):∃o,H a=some o:=let ⟨o,_,e,_⟩:=h;⟨o,e⟩
theorem cD.den{K:SH}{H:Hp}{O O':az}{a:T5}{d:D}(h:cD K H O a d)(s:aR (hid H O) (hid H O'))(ha:a∉O'):cu K (hid H O') d (.ref a):=by
 obtain⟨o,vs,h1,h2⟩:=h;have h1':hid H O' a=Option.some o:=by rw[gJ ha];exact h1
 cases d with
 |lst xs=>
  obtain⟨e,g⟩:=h2;subst e;exact bX.mpr ⟨a,vs,rfl,md.of h1',g.mono s⟩
 |dct ks ds=>
  obtain⟨g,q⟩:=h2;refine L3.mpr ⟨a,vs,rfl,g.mono s,?_⟩;rcases q with⟨kvs,e,q⟩|⟨kvs,e,q⟩
  ·subst e;exact .inl ⟨kvs,h1',q⟩
  ·subst e;exact .inr (.inl ⟨kvs,h1',q⟩)
 |_=>exact h2.elim
structure dE(K:SH)(O:az)(H:Hp)(ρ:aq)(σ:St):Prop where
 val:∀(i:Nat) d,ρ[i]?=some (some (.val d))->∃v,σ[i]?=some (some v)/\cu K (hid H O) d v
 own:∀(i:Nat) d,ρ[i]?=some (some (.own d))->∃a,σ[i]?=some (some (.ref a))/\a∈O/\cD K H O a d
 one:∀(i j:Nat) xs ys a,ρ[i]?=some (some (.own xs))->ρ[j]?=some (some (.own ys))->σ[i]?=some (some (.ref a))->σ[j]?=some (some (.ref a))->i=j
 all:dN H O
theorem o5{H H':Hp}(e:aR H H'){a:T5}{o:HO}(h:H a=some o):H a=H' a:=by rw[h,e _ _ h]
theorem dE.same{K:SH}{O:az}{H H':Hp}{ρ:aq}{σ:St}(h:dE K O H ρ σ)(e:aR H H'):dE K O H' ρ σ:=
  ⟨fun i d q=>let ⟨v,a,b⟩:=h.val i d q; ⟨v,a,b.mono (bq e)⟩,
   λi xs q=>let ⟨a,q1,q2,q3⟩:=h.own i xs q;⟨a,q1,q2,q3.mono (let ⟨_,z⟩:=q3.some;o5 e z) (bq e)⟩,h.one,h.all.same e⟩
structure Ex where
 c:Str
 fs:ax
 vs:List D
noncomputable abbrev R(α:Type):=Except (Option Ex) α
noncomputable abbrev bE:=aq->R (List D)
noncomputable abbrev bT:=aq->R Bool
noncomputable abbrev cO:=List D->R D
noncomputable abbrev un{α:Type}:R α:=.error none
noncomputable def rO{α:Type}:Option α->R α
 |some a=>.ok a
 |none=>.error none
noncomputable def KJ(K:SH)(Hd:Hp)(x:Ex)(C:T5)(dx:Option T5):Prop:=clsAt K x.c C/\∃ws,aK K Hd x.vs ws/\x.fs.length=ws.length/\(x.fs=[]\/∃d,dx=some d/\Hd d=some (.xd (x.fs.zip ws)))
theorem KJ.mono{K:SH}{H H':Hp}{x:Ex}{C:T5}{dx:Option T5}(h:KJ K H x C dx)(e:aR H H'):KJ K H' x C dx:=by
 obtain⟨h1,ws,h2,h3,h4⟩:=h;exact⟨h1,ws,h2.mono e,h3,h4.imp id λ⟨d,q1,q2⟩=>⟨d,q1,e _ _ q2⟩⟩
end TG
namespace TG
open PySem PySem.Spec L2
variable[aB]
open PyProof.Rows (AllBare)
theorem JH{P:Ua}{w:T9}{H:Hp}{h:Uc}{a:T5}{o:HO}(x:b9 P w H h a o):∃u,h.get? a=some u:=by
 cases o with
 |lst xs=>obtain⟨_,_,_,_,e⟩:=x;exact⟨_,e⟩
 |tup xs=>obtain⟨_,_,_,o,e,_⟩:=x;exact⟨_,e⟩
 |dK kvs=>obtain⟨_,_,_,_,o,_,_,e,_⟩:=x;exact⟨_,e⟩
 |dT kvs=>obtain⟨_,_,_,_,o,_,_,e,_⟩:=x;exact⟨_,e⟩
 |set S n=>obtain⟨o,_,_,_,e,_⟩:=x;exact⟨_,e⟩
 |ins C dx fs=>obtain⟨_,_,_,e,_⟩:=x;exact⟨_,e⟩
 |own y=>exact x
 |xd fs=>obtain⟨_,⟨_,_,_,e,_⟩,_⟩:=x;exact⟨_,e⟩
 |rng lo hi=>obtain⟨_,_,_,e⟩:=x;exact⟨_,e⟩
 |frz ob u=>obtain⟨e,_⟩:=x;exact⟨_,e⟩
 |tbl ps=>exact⟨_,(show h.get? a=some _ from x)⟩
 |met f y=>exact⟨_,(show h.get? a=some _ from x)⟩
 |ext φ=>obtain⟨_,e,_⟩:=x;exact e
noncomputable def pK(X:Cx)(H:Hp)(b:T5):Prop:=((∃o,X.s₀.heap.get? b=some o)/\b∉X.ex)\/H b≠none\/(∃o,(b,o)∈X.pn)\/∃x,X.env.cells.lookup x=some b
noncomputable def Pu(B:Uc)(e:T5)(cls a0:T2)(h:Uc):Prop:=h.TracedW B e cls a0\/∃oe vs,h.get? e=some oe/\oe.cls=cls/\oe.data=.fields vs/\vs[1]?=some .none/\vs[0]?=some a0
noncomputable def Lj(X:Cx)(H:Hp)(s:T8)(e C:T5):Prop:=∃B a0,B.StaysIn s.heap/\B.get? e=none/\s.heap.FunFrames B X.stack/\Pu B e (.ref C) a0 s.heap/\∀b o,s.heap.get? b=some o->pK X H b->b∉frs X.stack->B.get? b=some o
noncomputable def Pq(X:Cx)(H:Hp)(O:az)(s:T8)(u:T2)(x:Ex):Prop:=∃e C dx,u=.ref e/\KJ X.K (hid H O) x C dx/\Lj X H s e C
noncomputable def j3(P:Ua)(w:T9):wC:=λouter H s E u s'=>∃e C dx H' B a0,u=.ref e/\s'.os=s.os/\AllBare s'.gens/\Un (frs outer) [] H H' s.heap s'.heap/\mz P w H' s'.heap/\Heap.FlyingW B outer e (.ref C) a0 s'.heap/\
 (∀b o,s'.heap.get? b=some o->((∃o',s.heap.get? b=some o')\/H' b≠none)->b∉frs outer->B.get? b=some o)/\E (.ref C) dx H'
noncomputable def NR(K:SH)(H:Hp)(O:az)(x:Ex)(E:XK):Prop:=∀C dx H',aR H H'->KJ K (hid H' O) x C dx->E (.ref C) dx H'
noncomputable def J3(X:Cx)(σ:St)(O:az)(H:Hp)(x:Ex):Prop:=∀pins s u H',Inv X pins σ H' s->aR H H'->Pq X H' O s u x->X.xe u s
theorem J3.mono{X:Cx}{σ:St}{O:az}{H H':Hp}{x:Ex}(h:J3 X σ O H x)(s:aR H H'):J3 X σ O H' x:=λpins st u H2 I s2 f=>h pins st u H2 I (s.trans s2) f
noncomputable def yO(X:Cx)(O:az)(H:Hp)(x:Ex):XK:=λu dx H'=>∃C,u=.ref C/\aR H H'/\KJ X.K (hid H' O) x C dx
noncomputable def j7(CX:wC)(X:Cx)(σ:St)(E:XK):Prop:=∀(pins:bf)(H:Hp)(s:T8)(e:T2)(s':T8),Inv X pins σ H s->CX X.stack H s E e s'->X.xe e s'
theorem zb{X:Cx}{σ:St}{O:az}{H:Hp}{x:Ex}(h:J3 X σ O H x):j7 (j3 X.prog X.w) X σ (yO X O H x):=by
 rintro pins H1 s u s' I ⟨e,C,dx,H',B,a0,rfl,os,bare,un,hok,⟨f1,f2,f3,f4⟩,kp,C',eC,sm,hd⟩;cases eC;have I':Inv X pins σ H' s':=I.call' os un hok bare (ch:=[]) λb z=>absurd z (by simp);refine h pins s' _ H' I' sm ⟨e,C,dx,rfl,hd,B,a0,f1,f2,f3,.inl f4,λb o eb hb nf=>kp b o eb ?_ nf⟩;rcases hb with⟨⟨o',hb⟩,nx⟩|hb|⟨o',hb⟩|⟨y,hb⟩
 ·exact .inl (I.base.there b o' hb nx)
 ·exact .inr hb
 ·exact .inl ⟨_,(I.pin _ (PN _ hb)).1⟩
 ·obtain⟨v,o,q,_⟩:=I.cell y b hb;exact .inl ⟨o,q⟩
theorem y9{X:Cx}{σ:St}:j7 (j3 X.prog X.w) X σ E0:=λ_ _ _ _ _ _ h=>by
 obtain⟨_,_,_,_,_,_,_,_,_,_,_,_,_,z⟩:=h;exact z.elim
theorem v8{X:Cx}{O:az}{H:Hp}{x:Ex}:NR X.K H O x (yO X O H x):=λC dx H' s e=>⟨C,rfl,s,e⟩
section
variable{X:Cx}{pins:bf}{σ:St}{H:Hp}{s:T8}{h':Uc}
theorem Gi(I:Inv X pins σ H s)(k:∀b o,s.heap.get? b=some o->pK X H b->b∉frs X.stack->h'.get? b=some o):mz X.prog X.w H h':=λa ob ea=>
 (I.hok a ob ea).stay (λb u hb q=>by
  have hn:H b≠none:=by
   rcases hb with e|e
   ·rw[e,ea];intro z;cases z
   ·rw[e];intro z;cases z
  exact k b u q (.inr (.inl hn)) λhf=>hn (I.stkFree b hf)) (λ_ q=>q) λ_ _ q=>q
theorem sN(I:Inv X pins σ H s)(us:s.heap.UpToSlots h'){b:T5}{o:Obj}(hb:b∈frs X.stack)(e:s.heap.get? b=some o):∃sl,h'.get? b=some {o with slots:=sl}:=by
 obtain⟨_,o',e',nf⟩:=I.stack.mem hb;rw[e]at e';cases e';exact us b o e nf
theorem Js(I:Inv X pins σ H s)(hx:X.ex=[])(hst:X.stack=X.env::X.outer)(hf:X.env.frame=some X.env.locals)(us:s.heap.UpToSlots h')(k:∀b o,s.heap.get? b=some o->pK X H b->b∉frs X.stack->h'.get? b=some o):
  Un (frs X.outer) [] X.H₀ H X.s₀.heap h':=by
 have U:=I.base;rw[hx]at U;have fr:frs X.stack=X.env.locals::frs X.outer:=by rw[hst];show List.filterMap _ (_::_)=_;rw[PH,hf];rfl
 have nl:∀b o,X.s₀.heap.get? b=some o->b≠X.env.locals:=λb o q z=>by
  have h1:=Tj q;have h2:=I.ok.above;rw[z]at h1;exact PB _ (Pz h1 h2)
 have nfr:∀b o,X.s₀.heap.get? b=some o->b∉frs X.outer->b∉frs X.stack:=λb o q nb z=>by
  rw[fr]at z;rcases List.mem_cons.mp z with z|z
  ·exact nl b o q z
  ·exact nb z
 refine⟨λb o q n nb _=>k b o (U.keep b o q n nb (by simp)) (.inl ⟨⟨o,q⟩,by rw[hx];simp⟩) (nfr b o q nb),λb o q n hb _=>?_,λb o q n _=>U.free b o q n (by simp),λb o q _=>?_,U.tups,U.frzs,U.tbls⟩
 ·obtain⟨sl,e⟩:=U.slot b o q n hb (by simp);obtain⟨sl',e'⟩:=sN I us (by rw[fr];exact PL _ hb) e;exact⟨sl',e'⟩
 ·obtain⟨o1,e1⟩:=U.there b o q (by simp);by_cases hb:b∈frs X.stack
  ·obtain⟨sl,e⟩:=sN I us hb e1;exact⟨_,e⟩
  ·exact⟨o1,k b o1 e1 (.inl ⟨⟨o,q⟩,by rw[hx];simp⟩) hb⟩
end
theorem Br{P:Ua}{w:T9}{K:SH}{mg:cB}{base:Uc}{N:ax}{qual:Str}{scope:Uk}{f:T5}{cd:T2}{A:Uj}{outer:List Env}{s:T8}{H:Hp}{E:XK}{σ:St}{O O':az}{H':Hp}{x:Ex}
  (hx:NR K H O x E) (sm:aR H H') (hs:∀a∈O,a∈O'):J3 (ie (j3 P w) P w K mg base N qual scope f cd A outer s H E) σ O' H' x:=by
 rintro pins s1 u H1 I s2 ⟨e,C,dx,rfl,hd,B,a0,b1,b2,b3,b4,b5⟩;have fin:∀h',Heap.FlyingW B outer e (.ref C) a0 h'->s1.heap.UpToSlots h'->j3 P w outer H s E (.ref e) {s1 with heap:=h'}:=λh' fl us=>by
  have k:∀b o,s1.heap.get? b=some o->pK (ie (j3 P w) P w K mg base N qual scope f cd A outer s H E) H1 b->b∉frs (ie (j3 P w) P w K mg base N qual scope f cd A outer s H E).stack->h'.get? b=some o:=λb o q kb nf=>fl.1 b o (b5 b o q kb nf);have un:=Js I rfl rfl rfl us k;have hok:=Gi I k;refine⟨e,C,dx,H1,B,a0,rfl,I.os,I.bare,un,hok,fl,λb o q hb nf=>?_,hx C dx H1 (sm.trans s2) (hd.mono (fw hs))⟩;have nf2:b∉frs (ie (j3 P w) P w K mg base N qual scope f cd A outer s H E).stack:=λz=>by
   rcases List.mem_cons.mp (show b∈s.heap.objs.size::frs outer from z)with z|z
   ·rcases hb with hb|hb
    ·obtain⟨o',hb⟩:=hb
     have:=Tj hb
     rw[z]at this;exact PB _ this
    ·rw[z]at hb;exact hb I.free
   ·exact nf z
  have kb:pK (ie (j3 P w) P w K mg base N qual scope f cd A outer s H E) H1 b:=hb.elim (λz=>.inl ⟨z,λy=>nomatch y⟩) λz=>.inr (.inl z);obtain⟨o1,e1⟩:∃o1,s1.heap.get? b=some o1:=by
   rcases hb with⟨o',hb⟩|hb
   ·exact I.base.there b o' hb (λz=>nomatch z)
   ·cases q0:H1 b with
    |none=>exact absurd q0 hb
    |some ob=>exact JH (I.hok b ob q0)
  have:=k b o1 e1 kb nf2
  rw[q]at this;cases this;exact b5 b _ e1 kb nf2
 show Ul _ _ (leaving (TC qual scope s.heap.objs.size f cd) (.ref e)) _ _ s1;rcases b4 with b4|⟨oe,vs,c1,c2,c3,c4,c5⟩
 ·exact wpAny_leaves_onW I.ok.frames rfl ⟨b1,b2,b3,b4⟩ fin
 ·refine wpAny_leaving_firstW I.ok.frames b3 rfl c1 b1 b2 c3 c4 c5 λh' hL=>?_;obtain⟨k1,⟨_,_,k2⟩,k3,k4⟩:=hL;exact fin h' ⟨k1,b2,k2,c2 ▸ k3⟩ k4
end TG
namespace TG
open PySem PySem.Spec L2
variable[aB]
noncomputable def gW(X:Cx)(σ:St)(O:az)(H:Hp){α:Type}(r:R α)(Q:α->Prop):Prop:=match r with
 |.ok a=>Q a
 |.error (some x)=>J3 X σ O H x
 |.error none=>False
section
variable{X:Cx}{σ:St}{O:az}{H H':Hp}{α β:Type}
theorem gW.bind{r:R α}{G:α->R β}{Q:β->Prop}(h:gW X σ O H (r.bind G) Q):gW X σ O H r λa=>gW X σ O H (G a) Q:=by
 match r,h with
 |.ok a,h=>exact h
 |.error (some x),h=>exact h
 |.error none,h=>exact h
theorem gW.imp{r:R α}{Q Q':α->Prop}(h:gW X σ O H r Q)(f:∀a,Q a->Q' a):gW X σ O H r Q':=by
 match r,h with
 |.ok a,h=>exact f a h
 |.error (some x),h=>exact h
 |.error none,h=>exact h
theorem gW.mono{r:R α}{Q:α->Prop}(h:gW X σ O H r Q)(s:aR H H'):gW X σ O H' r Q:=by
 match r,h with
 |.ok a,h=>exact h
 |.error (some x),h=>exact J3.mono h s
 |.error none,h=>exact h
theorem gW.rO{o:Option α}{Q:α->Prop}(h:gW X σ O H (rO o) Q):∃a,o=some a/\Q a:=by
 match o,h with
 |some a,h=>exact⟨a,rfl,h⟩
 |none,h=>exact h.elim
end
noncomputable abbrev FX:=aq->R D
noncomputable def tF(X:Cx)(F:FX):TE:=λσ H Q=>∃O ρ,dE X.K O H ρ σ/\gW X σ O H (F ρ) λd=>∀v H',aR H H'->cu X.K (hid H' O) d v->Q v H'
noncomputable def Mb(X:Cx)(F:bT):TT:=λσ H Q=>∃O ρ,dE X.K O H ρ σ/\gW X σ O H (F ρ) λb=>∀H',aR H H'->Q b H'
noncomputable def L5(X:Cx)(F:bE):TA:=λσ H Q=>∃O ρ,dE X.K O H ρ σ/\gW X σ O H (F ρ) λds=>∀vs H',aR H H'->aK X.K (hid H' O) ds vs->Q vs H'
noncomputable def FE(X:Cx)(e:T6)(F:FX):Prop:=PE X e (tF X F)
noncomputable def FT(X:Cx)(e:T6)(F:bT):Prop:=PT X e (Mb X F)
noncomputable def FW(X:Cx)(e:T6)(F:bT):Prop:=PW X e (Mb X F)
noncomputable def FA(X:Cx)(es:bx)(F:bE):Prop:=PA X es (L5 X F)
theorem PE.weak{X:Cx}{e:T6}{t t':TE}(h:PE X e t)(w:∀σ H Q,t' σ H Q->t σ H Q):PE X e t':=λpins s σ H Q I q=>h pins s σ H Q I (w σ H Q q)
theorem PT.weak{X:Cx}{e:T6}{t t':TT}(h:PT X e t)(w:∀σ H Q,t' σ H Q->t σ H Q):PT X e t':=λpins s σ H Q I q=>h pins s σ H Q I (w σ H Q q)
theorem PW.weak{X:Cx}{e:T6}{t t':TT}(h:PW X e t)(w:∀σ H Q,t' σ H Q->t σ H Q):PW X e t':=λwhole pins s σ H Q I q=>h whole pins s σ H Q I (w σ H Q q)
theorem PA.weak{X:Cx}{es:bx}{t t':TA}(h:PA X es t)(w:∀σ H Q,t' σ H Q->t σ H Q):PA X es t':=λpos pins s σ H Q I q=>h pos pins s σ H Q I (w σ H Q q)
theorem PS.weak{X:Cx}{st:T7}{t t':TS}(h:PS X st t)(w:∀D σ H,t' D σ H->t D σ H):PS X st t':=λpins s σ H Q I q=>h pins s σ H Q I (w Q σ H q)
theorem wy.weak{X:Cx}{st:eJ}{t t':TS}(h:wy X st t)(w:∀D σ H,t' D σ H->t D σ H):wy X st t':=λpins s σ H Q I q=>h pins s σ H Q I (w Q σ H q)
noncomputable def qU(ρ:aq)(i:Nat):R D:=match ρ[i]? with
 |some (some (.val d))=>.ok d
 |_=>un
theorem Gb{ρ:aq}{i:Nat}{d:D}(h:qU ρ i=.ok d):ρ[i]?=some (some (.val d)):=by
 unfold qU at h;split at h
 ·rename_i e;cases h;exact e
 ·cases h
noncomputable def ae(i:Nat):FX:=λρ=>qU ρ i
noncomputable def fC(d:D):FX:=λ_=>.ok d
section
variable{X:Cx}
theorem tW{σ:St}{O:az}{H:Hp}{ρ:aq}{i:Nat}{Q:D->Prop}(h:gW X σ O H (qU ρ i) Q):∃d,ρ[i]?=some (some (.val d))/\Q d:=by
 cases e:qU ρ i with
 |ok d=>rw[e]at h;exact⟨d,Gb e,h⟩
 |error z=>
  rw[e]at h;cases z with
  |none=>exact h.elim
  |some x=>
   exfalso;unfold qU at e;split at e
   ·cases e
   ·have:=Except.error.inj e;cases this
theorem j9{e:T6}{d:D}{v:V}(h:PE X e (tC v))(hd:∀K H,cu K H d v):FE X e (fC d):=
 PE.weak h λσ H Q ⟨O,ρ,E,q⟩=>q v H (aR.refl H) (hd _ _)
noncomputable def noStar:T6->Bool
 |.Starred _ _=>false
 |_=>true
theorem cm{e:T6}{es:bx}{env:Env}(h:noStar e=true):Um (e::es) env=(false,eval e env)::Um es env:=by
 cases e<;>first|rfl|cases h
theorem eL{pos:Pos}{env:Env}:∀{es:bx},es.all noStar=true->(backTo pos (Um es env)).any (·.1)=false
 |[],_=>rfl
 |e::es,h=>by
  rw[QL,Qm]at h;rw[cm h.1];exact eL h.2
noncomputable def af:bE:=λ_=>.ok []
noncomputable def aa(f:FX)(g:bE):bE:=λρ=>(f ρ).bind λx=>(g ρ).bind λxs=>.ok (x::xs)
theorem CT:FA X [] af:=PA.weak iI λσ H Q ⟨O,ρ,E,q⟩=>q [] H (aR.refl H) (cn.mpr rfl)
theorem bind_some{α β:Type}{o:Option α}{f:α->Option β}{b:β}(h:o.bind f=some b):∃a,o=some a/\f a=some b:=by
 cases o with
 |none=>cases h
 |some a=>exact⟨a,rfl,h⟩
theorem o4{ε α β:Type}{o:Except ε α}{f:α->Except ε β}{b:β}(h:o.bind f=.ok b):∃a,o=.ok a/\f a=.ok b:=by
 cases o with
 |error _=>cases h
 |ok a=>exact⟨a,rfl,h⟩
theorem yS{e:T6}{es:bx}{f:FX}{g:bE}(he:FE X e f)(hs:FA X es g)(hns:noStar e=true:=by rfl):FA X (e::es) (aa f g):=
 PA.weak (gq he hs (cm hns)) λσ H Q ⟨O,ρ,E,h⟩=>
  ⟨O,ρ,E,(gW.bind h).imp λx h v H1 s1 d1=>⟨O,ρ,E.same s1,((gW.bind h).mono s1).imp λxs q vs H2 s2 d2=>q (v::vs) H2 (s1.trans s2) (aX.mpr ⟨v,vs,rfl,d1.mono (bq s2),d2⟩)⟩⟩
noncomputable def small(n:Nat):Bool:=decide (n<=100000)
theorem dJ{n:Nat}(h:small n=true):n<=Ud:=PD (of_decide_eq_true h) (by decide)
theorem cK{n:Nat}(h:n<=100000):small n=true:=decide_eq_true h
noncomputable def qb(xs:List D):bG:=if small xs.length then some (.tup xs)else none
noncomputable def jP(xs:List D):bG:=if small xs.length then some (.lst xs)else none
noncomputable def aL(g:bE):FX:=λρ=>(g ρ).bind λxs=>rO (qb xs)
noncomputable def eV(g:bE):FX:=λρ=>(g ρ).bind λxs=>rO (jP xs)
theorem bD{α:Type}{c:Bool}{a b:α}(h:(if c then some a else none)=some b):c=true/\a=b:=by
 cases c with
 |true=>exact⟨rfl,Option.some.inj h⟩
 |false=>cases h
theorem dY{K:SH}{H:Hp}{O:az}{p:T5}{ds:List D}{vs:aJ}(hO:dN H O)(hp:H p=none)(d:aK K (hid H O) ds vs):cu K (hid (upd H p (.tup vs)) O) (.tup ds) (.ref p):=
 bY.mpr ⟨p,vs,rfl,by rw[gJ (hO.not hp),ay],d.mono (ug hp)⟩
theorem cS{K:SH}{H:Hp}{O:az}{p:T5}{ds:List D}{vs:aJ}(hO:dN H O)(hp:H p=none)(d:aK K (hid H O) ds vs):cu K (hid (upd H p (.lst vs)) O) (.lst ds) (.ref p):=
 bX.mpr ⟨p,vs,rfl,md.of (by rw[gJ (hO.not hp),ay]),d.mono (ug hp)⟩
noncomputable def EA(K:SH)(r:V->Hp->VK->Prop)(g:D->bG):Prop:=
 ∀(a d:D)(x:V)(O:az)(H:Hp)(Q:VK),dN H O->g a=some d->cu K (hid H O) a x->(∀v H',aR H H'->cu K (hid H' O) d v->Q v H')->r x H Q
noncomputable def f1(g:D->bG)(f:FX):FX:=λρ=>(f ρ).bind λa=>rO (g a)
noncomputable def cW(K:SH)(r:R2)(g:D->D->bG):Prop:=
 ∀(a b d:D)(x y:V)(O:az)(H:Hp)(Q:VK),dN H O->g a b=some d->cu K (hid H O) a x->cu K (hid H O) b y->(∀v H',aR H H'->cu K (hid H' O) d v->Q v H')->r x y H Q
noncomputable def f2(g:D->D->bG)(f1 f2:FX):FX:=λρ=>(f1 ρ).bind λa=>(f2 ρ).bind λb=>rO (g a b)
theorem uw{r:R2}{g:D->D->bG}{fa fb:FX}(s:cW X.K r g):∀σ H Q,tF X (f2 g fa fb) σ H Q->J9 r (tF X fa) (tF X fb) σ H Q:=λσ H Q ⟨O,ρ,E,hF⟩=>
 ⟨O,ρ,E,(gW.bind hF).imp fun a hF x H1 s1 d1=>⟨O,ρ,E.same s1,((gW.bind hF).mono s1).imp fun b hF y H2 s2 d2=>by
  obtain⟨d,e,q⟩:=gW.rO hF;exact s a b d x y O H2 Q (E.all.same (s1.trans s2)) e (d1.mono (bq s2)) d2 λv H3 s3 d3=>q v H3 ((s1.trans s2).trans s3) d3⟩⟩
noncomputable def N1:D->Option Bool
 |.bl b=>some b
 |_=>none
noncomputable def fB(f:FX):bT:=λρ=>(f ρ).bind λd=>rO (N1 d)
theorem uX{t:TE}{f:FX}(h:∀σ H Q,tF X f σ H Q->t σ H Q):∀σ H Q,Mb X (fB f) σ H Q->Cr t σ H Q:=λσ H Q ⟨O,ρ,E,hF⟩=>
 h σ H _ ⟨O,ρ,E,(gW.bind hF).imp λd hF v H1 s1 d1=>by
  obtain⟨b,e,q⟩:=gW.rO hF;cases d with
  |bl b'=>
   cases e;exact⟨b,ju.mp d1,q H1 s1⟩
  |_=>cases e⟩
noncomputable def zi(K:SH)(r:aJ->Hp->VK->Prop)(g:List D->bG):Prop:=
 ∀(ds:List D)(d:D)(xs:aJ)(O:az)(H:Hp)(Q:VK),dN H O->g ds=some d->aK K (hid H O) ds xs->(∀v H',aR H H'->cu K (hid H' O) d v->Q v H')->r xs H Q
noncomputable def fL(g:List D->bG)(f:bE):FX:=λρ=>(f ρ).bind λds=>rO (g ds)
noncomputable def fR(g:cO)(f:bE):FX:=λρ=>(f ρ).bind g
theorem C6{r:aJ->Hp->VK->Prop}{g:List D->bG}{f:bE}(s:zi X.K r g):∀σ H Q,tF X (fL g f) σ H Q->Ng r (L5 X f) σ H Q:=λσ H Q ⟨O,ρ,E,hF⟩=>
 ⟨O,ρ,E,(gW.bind hF).imp fun ds hF vs H1 s1 d1=>by
  obtain⟨d,e,q⟩:=gW.rO hF;exact s ds d vs O H1 Q (E.all.same s1) e d1 λv H2 s2 d2=>q v H2 (s1.trans s2) d2⟩
noncomputable def lT(f:bT):bT:=λρ=>(f ρ).bind λb=>.ok (!b)
noncomputable def vN(f g:bT):bT:=λρ=>(f ρ).bind λb=>if b then g ρ else .ok false
noncomputable def xx(f g:bT):bT:=λρ=>(f ρ).bind λb=>if b then .ok true else g ρ
variable{a b c:T6}{rest:bx}{pos:Pos}{f g:bT}
theorem FW.ft{e:T6}(h:FW X e f):FT X e f:=PW.pt h
noncomputable def truth:D->Option Bool
 |.non=>some false
 |.bl b=>some b
 |.int i=>some (i !=0)
 |.str x=>if small x.length then some (x.length !=0)else none
 |.tup xs=>some (!xs.isEmpty)
 |.lst xs=>some (!xs.isEmpty)
 |_=>none
noncomputable def cQ(f:FX):bT:=λρ=>(f ρ).bind λd=>rO (truth d)
noncomputable def xg(d:D)(k:R D):R D:=match d with
 |.bl true=>k
 |.bl false=>.ok (.bl false)
 |_=>un
noncomputable def LD(d:D)(k:R D):R D:=match d with
 |.bl false=>k
 |.bl true=>.ok (.bl true)
 |_=>un
noncomputable def yh:D->bG
 |.bl b=>some (.bl (!b))
 |_=>none
noncomputable def jr(f g:FX):FX:=λρ=>(f ρ).bind λd=>xg d (g ρ)
noncomputable def Gr(f g:FX):FX:=λρ=>(f ρ).bind λd=>LD d (g ρ)
noncomputable def vx(f:FX):FX:=f1 yh f
variable{fa fb:FX}
noncomputable def La(t:bT)(f g:FX):FX:=λρ=>(t ρ).bind λc=>if c then f ρ else g ρ
end
end TG
namespace TG
open PySem PySem.Spec L2
variable[aB]
open PySem.SeqAt (EqAt RcAt RcNeAt)
mutual
noncomputable def pyEq:D->D->Bool
 |.non,.non=>true
 |.bl a,.bl b=>a==b
 |.bl a,.int b=>(if a then 1 else 0)==b
 |.int a,.bl b=>a==(if b then 1 else 0)
 |.int a,.int b=>a==b
 |.str a,.str b=>a==b
 |.tup xs,.tup ys=>eI xs ys
 |.lst xs,.lst ys=>eI xs ys
 |.dct _ _,.dct _ _=>true
 |.obj _ _ _,.obj _ _ _=>true
 |.exc _ _ _,.exc _ _ _=>true
 |_,_=>false
noncomputable def eI:List D->List D->Bool
 |[],[]=>true
 |x::xs,y::ys=>pyEq x y&&eI xs ys
 |_,_=>false
end
mutual
theorem nW:∀d:D,pyEq d d=true
 |.non=>by unfold pyEq;rfl
 |.bl b=>by unfold pyEq;simp
 |.int i=>by unfold pyEq;simp
 |.str x=>by unfold pyEq;simp
 |.tup xs=>by unfold pyEq;exact lV xs
 |.lst xs=>by unfold pyEq;exact lV xs
 |.dct _ _=>by unfold pyEq;rfl
 |.obj _ _ _=>by unfold pyEq;rfl
 |.exc _ _ _=>by unfold pyEq;rfl
theorem lV:∀ds:List D,eI ds ds=true
 |[]=>by unfold eI;rfl
 |d::ds=>by unfold eI;rw[nW d,lV ds];rfl
end
noncomputable def wX(xs ys:List D)(j:Nat):Bool:=match xs[j]?,ys[j]? with
 |some a,some b=>pyEq a b
 |_,_=>false
theorem fP:∀xs ys:List D,((List.range (min xs.length ys.length)).all (wX xs ys)&&xs.length==ys.length)=eI xs ys
 |[],[]=>by unfold eI;rfl
 |[],_::_=>by unfold eI;simp
 |_::_,[]=>by unfold eI;simp
 |x::xs,y::ys=>by
  have ih:=fP xs ys
  conv=>rhs;unfold eI
  rw[<-ih];have e:min (x::xs).length (y::ys).length=min xs.length ys.length+1:=by simp only[P5];omega
  rw[e,QM,QL,QN];have e2:((x::xs).length==(y::ys).length)=(xs.length==ys.length):=by simp
  rw[e2,Bool.and_assoc];have e3:(List.range (min xs.length ys.length)).all (wX (x::xs) (y::ys)∘Nat.succ)=(List.range (min xs.length ys.length)).all (wX xs ys):=by
   congr 1
  rw[e3];rfl
mutual
noncomputable def pl:D->Bool
 |.tup xs=>lA xs
 |.lst xs=>lA xs
 |.dct _ _=>false
 |.obj _ _ _=>false
 |.exc _ _ _=>false
 |_=>true
noncomputable def lA:List D->Bool
 |[]=>true
 |x::xs=>pl x&&lA xs
end
theorem gf{ks vs:List D}(h:pl (.dct ks vs)=true):False:=by unfold pl at h;cases h
theorem fI{c:Str}{fs:ax}{vs:List D}(h:pl (.obj c fs vs)=true):False:=by unfold pl at h;cases h
theorem fU{c:Str}{fs:ax}{vs:List D}(h:pl (.exc c fs vs)=true):False:=by unfold pl at h;cases h
theorem kD:∀{xs:List D},lA xs=true->∀x∈xs,pl x=true
 |[],_,_,h=>nomatch h
 |x::xs,h,y,hy=>by
  unfold lA at h;rw[Qm]at h;rcases List.mem_cons.mp hy with z|z
  ·rw[z];exact h.1
  ·exact kD h.2 y z
theorem B2:∀{xs:List D},(∀x∈xs,pl x=true)->lA xs=true
 |[],_=>by unfold lA;rfl
 |x::xs,h=>by
  unfold lA;rw[Qm];exact⟨h x PJ,B2 λy hy=>h y (PL _ hy)⟩
theorem du{xs:List D}:pl (.tup xs)=lA xs:=by rw[pl]
theorem dR{xs:List D}:pl (.lst xs)=lA xs:=by rw[pl]
noncomputable def dU:Nat->D->Bool
 |n+1,.tup xs=>xs.all (dU n)
 |n+1,.lst xs=>xs.all (dU n)
 |0,.tup _=>false
 |0,.lst _=>false
 |_,.dct _ _=>false
 |_,.obj _ _ _=>false
 |_,.exc _ _ _=>false
 |_,_=>true
section
variable{X:Cx}{pins:bf}{σ:St}{H:Hp}{s:T8}
theorem Inv.not_both(I:Inv X pins σ H s){a:T5}{xs ys:aJ}(h:nA X.K H a xs)(h':md X.K H a ys):False:=by
 obtain⟨its,_,ht,_⟩:=I.tuple h;obtain⟨its2,_,hl,_⟩:=I.list h';exact absurd rfl (SeqAt.ne_of_list_tuple hl.isList (show s.heap.IsTuple a its.toArray from ht))
mutual
theorem Inv.den_inj(I:Inv X pins σ H s):∀{a b:D}{v:V},pl a=true->pl b=true->cu X.K H a v->cu X.K H b v->a=b
 |.non,b,v,pa,pb,h,h'=>by
  rw[jB]at h;subst h;cases b with
  |non=>rfl
  |bl _=>rw[ju]at h';cases h'
  |int _=>rw[eF]at h';cases h'
  |str _=>rw[eN]at h';cases h'
  |tup _=>rw[bY]at h';obtain⟨_,_,e,_⟩:=h';cases e
  |lst _=>rw[bX]at h';obtain⟨_,_,e,_⟩:=h';cases e
  |dct _ _=>exact(gf pb).elim
  |obj _ _ _=>exact(fI pb).elim
  |exc _ _ _=>exact(fU pb).elim
 |.bl x,b,v,pa,pb,h,h'=>by
  rw[ju]at h;subst h;cases b with
  |non=>rw[jB]at h';cases h'
  |bl _=>rw[ju]at h';cases h';rfl
  |int _=>rw[eF]at h';cases h'
  |str _=>rw[eN]at h';cases h'
  |tup _=>rw[bY]at h';obtain⟨_,_,e,_⟩:=h';cases e
  |lst _=>rw[bX]at h';obtain⟨_,_,e,_⟩:=h';cases e
  |dct _ _=>exact(gf pb).elim
  |obj _ _ _=>exact(fI pb).elim
  |exc _ _ _=>exact(fU pb).elim
 |.int x,b,v,pa,pb,h,h'=>by
  rw[eF]at h;subst h;cases b with
  |non=>rw[jB]at h';cases h'
  |bl _=>rw[ju]at h';cases h'
  |int _=>rw[eF]at h';cases h';rfl
  |str _=>rw[eN]at h';cases h'
  |tup _=>rw[bY]at h';obtain⟨_,_,e,_⟩:=h';cases e
  |lst _=>rw[bX]at h';obtain⟨_,_,e,_⟩:=h';cases e
  |dct _ _=>exact(gf pb).elim
  |obj _ _ _=>exact(fI pb).elim
  |exc _ _ _=>exact(fU pb).elim
 |.str x,b,v,pa,pb,h,h'=>by
  rw[eN]at h;subst h;cases b with
  |non=>rw[jB]at h';cases h'
  |bl _=>rw[ju]at h';cases h'
  |int _=>rw[eF]at h';cases h'
  |str _=>rw[eN]at h';cases h';rfl
  |tup _=>rw[bY]at h';obtain⟨_,_,e,_⟩:=h';cases e
  |lst _=>rw[bX]at h';obtain⟨_,_,e,_⟩:=h';cases e
  |dct _ _=>exact(gf pb).elim
  |obj _ _ _=>exact(fI pb).elim
  |exc _ _ _=>exact(fU pb).elim
 |.tup xs,b,v,pa,pb,h,h'=>by
  rw[bY]at h;obtain⟨a,vs,e,h1,h2⟩:=h;subst e;cases b with
  |non=>rw[jB]at h';cases h'
  |bl _=>rw[ju]at h';cases h'
  |int _=>rw[eF]at h';cases h'
  |str _=>rw[eN]at h';cases h'
  |tup ys=>
   rw[bY]at h';obtain⟨a',vs',e,h1',h2'⟩:=h';cases e;have ev:=I.tuple_inj (nA.of h1) (nA.of h1');subst ev;rw[Inv.denL_inj I (by first|rw[<-du];exact pa|rw[<-dR];exact pa) (by first|rw[<-du];exact pb|rw[<-dR];exact pb) h2 h2']
  |lst _=>rw[bX]at h';obtain⟨_,_,e,h1',_⟩:=h';cases e;exact(Inv.not_both I (nA.of h1) h1').elim
  |dct _ _=>exact(gf pb).elim
  |obj _ _ _=>exact(fI pb).elim
  |exc _ _ _=>exact(fU pb).elim
 |.lst xs,b,v,pa,pb,h,h'=>by
  rw[bX]at h;obtain⟨a,vs,e,h1,h2⟩:=h;subst e;cases b with
  |non=>rw[jB]at h';cases h'
  |bl _=>rw[ju]at h';cases h'
  |int _=>rw[eF]at h';cases h'
  |str _=>rw[eN]at h';cases h'
  |lst ys=>
   rw[bX]at h';obtain⟨a',vs',e,h1',h2'⟩:=h';cases e;have ev:=I.list_inj h1 h1';subst ev;rw[Inv.denL_inj I (by first|rw[<-du];exact pa|rw[<-dR];exact pa) (by first|rw[<-du];exact pb|rw[<-dR];exact pb) h2 h2']
  |tup _=>rw[bY]at h';obtain⟨_,_,e,h1',_⟩:=h';cases e;exact(Inv.not_both I (nA.of h1') h1).elim
  |dct _ _=>exact(gf pb).elim
  |obj _ _ _=>exact(fI pb).elim
  |exc _ _ _=>exact(fU pb).elim
 |.dct _ _,_,_,pa,_,_,_=>(gf pa).elim
 |.obj _ _ _,_,_,pa,_,_,_=>(fI pa).elim
 |.exc _ _ _,_,_,pa,_,_,_=>(fU pa).elim
theorem Inv.denL_inj(I:Inv X pins σ H s):∀{as bs:List D}{vs:aJ},lA as=true->lA bs=true->aK X.K H as vs->aK X.K H bs vs->as=bs
 |[],bs,vs,pa,pb,h,h'=>by
  rw[cn]at h;subst h;cases bs with
  |nil=>rfl
  |cons b bs=>rw[aX]at h';obtain⟨_,_,e,_⟩:=h';cases e
 |a::as,bs,vs,pa,pb,h,h'=>by
  rw[aX]at h;obtain⟨v,r,e,h1,h2⟩:=h;subst e;cases bs with
  |nil=>rw[cn]at h';cases h'
  |cons b bs=>
   rw[aX]at h';obtain⟨v',r',e,h1',h2'⟩:=h';cases e;unfold lA at pa pb;rw[Qm]at pa pb;rw[Inv.den_inj I pa.1 pb.1 h1 h1',Inv.denL_inj I pa.2 pb.2 h2 h2']
end
noncomputable def lH:D->Option V
 |.non=>some .non
 |.bl b=>some (.bl b)
 |.int i=>some (.int i)
 |.str x=>some (.str x)
 |_=>none
theorem nc{K:SH}{d:D}{v x:V}(h:lH d=some x)(hd:cu K H d v):v=x/\C0 x=true:=by
 cases d with
 |non=>cases h;exact⟨jB.mp hd,rfl⟩
 |bl b=>cases h;exact⟨ju.mp hd,rfl⟩
 |int i=>cases h;exact⟨eF.mp hd,rfl⟩
 |str y=>cases h;exact⟨eN.mp hd,rfl⟩
 |_=>cases h
theorem EK{a b:D}{x y:V}(ha:lH a=some x)(hb:lH b=some y):Nc x y=pyEq a b:=by
 cases a<;>cases ha<;>cases b<;>cases hb<;>(unfold pyEq Nc;rfl)
theorem wc{a:D}{x:V}(n:Nat)(h:lH a=some x):dU n a=true:=by
 cases a with
 |tup _=>cases h
 |lst _=>cases h
 |dct _ _=>cases h
 |obj _ _ _=>cases h
 |exc _ _ _=>cases h
 |_=>cases n<;>rfl
theorem vL{a:D}(h:lH a=none):dU 0 a=false:=by
 cases a with
 |tup _=>rfl
 |lst _=>rfl
 |dct _ _=>rfl
 |obj _ _ _=>rfl
 |exc _ _ _=>rfl
 |_=>cases h
theorem in1_units(A:Uj):A.in1.units=A.units+1:=rfl
theorem mB{vs:aJ}{us:aU}(r:Vals vs us){j:Nat}(h:j<us.toArray.size):∃x,vs[j]?=some x/\RelV x us.toArray[j]:=by
 have hj:j<us.length:=by simpa using h
 have hl:=r.length;have hv:j<vs.length:=by omega
 obtain⟨u,e,ru⟩:=r.get (i:=j) (x:=vs[j]) (by simp[hv]);refine⟨vs[j],by simp[hv],?_⟩;have e2:us.toArray[j]=u:=by
  rw[QO hj]at e
  simpa using Option.some.inj e
 rw[e2];exact ru
theorem mw{K:SH}{ds:List D}{vs:aJ}(h:aK K H ds vs){j:Nat}{x:V}(e:vs[j]?=some x):∃d,ds[j]?=some d/\cu K H d x:=by
 have hj:j<vs.length:=(List.getElem?_eq_some_iff.mp e).1;have hl:=h.length;have hd:j<ds.length:=by omega
 obtain⟨v,e1,e2⟩:=h.get (i:=j) (d:=ds[j]) (by simp[hd]);rw[e]at e1;cases e1;exact⟨ds[j],by simp[hd],e2⟩
theorem DU(I:Inv X pins σ H s):∀(n:Nat)(a b:D)(x y:V)(u v:T2)(A:Uj),pl a=true->pl b=true->(dU n a=true\/dU n b=true)->cu X.K H a x->cu X.K H b y->RelV x u->RelV y v->A.units+n<UL->EqAt A s u v (pyEq a b):=by
 intro n
 induction n with
 |zero=>
  intro a b x y u v A pa pb hd ha hb ru rv hA;have hu:A.units<UL:=hA;cases ha':lH a with
  |some x'=>
   obtain⟨e,f⟩:=nc ha' ha;subst e;cases hb':lH b with
   |some y'=>
    obtain⟨e,f'⟩:=nc hb' hb;subst e;rw[<-EK ha' hb'];exact IZ ru rv f f'
   |none=>
    cases b with
    |tup ys=>
     rw[bY]at hb;obtain⟨p,vs,e,h1,h2⟩:=hb;subst e;cases rv;obtain⟨its,_,ht,_⟩:=I.tuple (nA.of h1);have ht':s.heap.IsTuple p its.toArray:=ht;cases a with
     |non=>cases ha';cases ru;unfold pyEq;exact .none_tuple ht' hu
     |bl z=>cases ha';cases ru;unfold pyEq;exact .bool_tuple z ht' hu
     |int z=>cases ha';obtain⟨t,rfl⟩:=ru;unfold pyEq;exact .int_tuple z t ht' hu
     |str z=>cases ha';obtain⟨t,rfl⟩:=ru;unfold pyEq;exact .str_tuple z t ht' hu
     |_=>cases ha'
    |lst ys=>
     rw[bX]at hb;obtain⟨p,vs,e,h1,h2⟩:=hb;subst e;cases rv;obtain⟨its,_,ht,_⟩:=I.list h1;have ht':s.heap.IsList p its.toArray:=ht.isList;cases a with
     |non=>cases ha';cases ru;unfold pyEq;exact .none_list ht' hu
     |bl z=>cases ha';cases ru;unfold pyEq;exact .bool_list z ht' hu
     |int z=>cases ha';obtain⟨t,rfl⟩:=ru;unfold pyEq;exact .int_list z t ht' hu
     |str z=>cases ha';obtain⟨t,rfl⟩:=ru;unfold pyEq;exact .str_list z t ht' hu
     |_=>cases ha'
    |dct _ _=>exact(gf pb).elim
    |obj _ _ _=>exact(fI pb).elim
    |exc _ _ _=>exact(fU pb).elim
    |_=>cases hb'
  |none=>
   have hdb:dU 0 b=true:=by
    rcases hd with hd|hd
    ·rw[vL ha']at hd;cases hd
    ·exact hd
   cases hb':lH b with
   |none=>rw[vL hb']at hdb;cases hdb
   |some y'=>
    obtain⟨e,f'⟩:=nc hb' hb;subst e;cases a with
    |tup xs=>
     rw[bY]at ha;obtain⟨p,vs,e,h1,h2⟩:=ha;subst e;cases ru;obtain⟨its,_,ht,_⟩:=I.tuple (nA.of h1);have ht':s.heap.IsTuple p its.toArray:=ht;cases b with
     |non=>cases hb';cases rv;unfold pyEq;exact .tuple_none ht' hu
     |bl z=>cases hb';cases rv;unfold pyEq;exact .tuple_bool z ht' hu
     |int z=>cases hb';obtain⟨t,rfl⟩:=rv;unfold pyEq;exact .tuple_int z t ht' hu
     |str z=>cases hb';obtain⟨t,rfl⟩:=rv;unfold pyEq;exact .tuple_str z t ht' hu
     |_=>cases hb'
    |lst xs=>
     rw[bX]at ha;obtain⟨p,vs,e,h1,h2⟩:=ha;subst e;cases ru;obtain⟨its,_,ht,_⟩:=I.list h1;have ht':s.heap.IsList p its.toArray:=ht.isList;cases b with
     |non=>cases hb';cases rv;unfold pyEq;exact .list_none ht' hu
     |bl z=>cases hb';cases rv;unfold pyEq;exact .list_bool z ht' hu
     |int z=>cases hb';obtain⟨t,rfl⟩:=rv;unfold pyEq;exact .list_int z t ht' hu
     |str z=>cases hb';obtain⟨t,rfl⟩:=rv;unfold pyEq;exact .list_str z t ht' hu
     |_=>cases hb'
    |dct _ _=>exact(gf pa).elim
    |obj _ _ _=>exact(fI pa).elim
    |exc _ _ _=>exact(fU pa).elim
    |_=>cases ha'
 |succ n ih=>
  intro a b x y u v A pa pb hd ha hb ru rv hA;have hu:A.units<UL:=by omega
  have flatWay:(∀xs ys,¬(a=.tup xs/\b=.tup ys))->(∀xs ys,¬(a=.lst xs/\b=.lst ys))->EqAt A s u v (pyEq a b):=by
   intro n1 n2;cases ha':lH a with
   |some x'=>exact ih a b x y u v A pa pb (.inl (wc n ha')) ha hb ru rv ‹0›
   |none=>
    cases hb':lH b with
    |some y'=>exact ih a b x y u v A pa pb (.inr (wc n hb')) ha hb ru rv ‹0›
    |none=>
     cases a with
     |tup xs=>
      cases b with
      |tup ys=>exact absurd ⟨rfl,rfl⟩ (n1 xs ys)
      |lst ys=>
       rw[bY]at ha;obtain⟨p,vs,e,h1,h2⟩:=ha;subst e;rw[bX]at hb;obtain⟨p',vs',e,h1',h2'⟩:=hb;subst e;cases ru;cases rv;obtain⟨its,_,ht,_⟩:=I.tuple (nA.of h1);obtain⟨its2,_,ht2,_⟩:=I.list h1';unfold pyEq;exact .tuple_list (show s.heap.IsTuple p its.toArray from ht) ht2.isList hu
      |dct _ _=>exact(gf pb).elim
      |obj _ _ _=>exact(fI pb).elim
      |exc _ _ _=>exact(fU pb).elim
      |_=>cases hb'
     |lst xs=>
      cases b with
      |lst ys=>exact absurd ⟨rfl,rfl⟩ (n2 xs ys)
      |tup ys=>
       rw[bX]at ha;obtain⟨p,vs,e,h1,h2⟩:=ha;subst e;rw[bY]at hb;obtain⟨p',vs',e,h1',h2'⟩:=hb;subst e;cases ru;cases rv;obtain⟨its,_,ht,_⟩:=I.list h1;obtain⟨its2,_,ht2,_⟩:=I.tuple (nA.of h1');unfold pyEq;exact .list_tuple ht.isList (show s.heap.IsTuple p' its2.toArray from ht2) hu
      |dct _ _=>exact(gf pb).elim
      |obj _ _ _=>exact(fI pb).elim
      |exc _ _ _=>exact(fU pb).elim
      |_=>cases hb'
     |dct _ _=>exact(gf pa).elim
     |obj _ _ _=>exact(fI pa).elim
     |exc _ _ _=>exact(fU pa).elim
     |_=>cases ha'
  have items:∀(xs ys:List D)(vs vs':aJ)(its its':aU),lA xs=true->lA ys=true->(dU (n+1) (.tup xs)=true\/dU (n+1) (.tup ys)=true)->aK X.K H xs vs->aK X.K H ys vs'->Vals vs its->Vals vs' its'->
    ∀j (h1:j<its.toArray.size) (h2:j<its'.toArray.size),EqAt A.in1 s its.toArray[j] its'.toArray[j] (wX xs ys j):=by
   intro xs ys vs vs' its its' px py hdd hx hy rx ry j h1 h2;obtain⟨w1,e1,r1⟩:=mB rx h1;obtain⟨w2,e2,r2⟩:=mB ry h2;obtain⟨d1,f1,g1⟩:=mw hx e1;obtain⟨d2,f2,g2⟩:=mw hy e2;have e3:wX xs ys j=pyEq d1 d2:=(by unfold wX;rw[f1,f2]);rw[e3];refine ih d1 d2 w1 w2 _ _ A.in1 (kD px _ (Qi f1)) (kD py _ (Qi f2)) ?_ g1 g2 r1 r2 (by rw[in1_units];omega);rcases hdd with hdd|hdd
   ·exact .inl (List.all_eq_true.mp hdd d1 (Qi f1))
   ·exact .inr (List.all_eq_true.mp hdd d2 (Qi f2))
  by_cases hT:∃xs ys,a=.tup xs/\b=.tup ys
  ·obtain⟨xs,ys,rfl,rfl⟩:=hT;have da:=ha;have db:=hb;rw[bY]at ha hb;obtain⟨p,vs,e,h1,h2⟩:=ha;subst e;obtain⟨p',vs',e,h1',h2'⟩:=hb;subst e;cases ru;cases rv;by_cases hp:p=p'
   ·subst hp;have e:=Inv.den_inj I pa pb da db;rw[e,nW];exact EqAt.same _
   ·obtain⟨its,rv1,ht,_⟩:=I.tuple (nA.of h1);obtain⟨its2,rv2,ht2,_⟩:=I.tuple (nA.of h1');refine EqAt.of_refs hp ?_;have q:=RcAt.tuples (e:=wX xs ys) (show s.heap.IsTuple p its.toArray from ht) (show s.heap.IsTuple p' its2.toArray from ht2) hu (items xs ys vs vs' its its2 (by first|rw[<-du];exact pa|rw[<-dR];exact pa) (by first|rw[<-du];exact pb|rw[<-dR];exact pb) hd h2 h2' rv1 rv2);have z1:its.toArray.size=xs.length:=(by rw[P0,<-rv1.length,<-h2.length]);have z2:its2.toArray.size=ys.length:=(by rw[P0,<-rv2.length,<-h2'.length]);rw[z1,z2,fP]at q;unfold pyEq;exact q
  ·by_cases hL:∃xs ys,a=.lst xs/\b=.lst ys
   ·obtain⟨xs,ys,rfl,rfl⟩:=hL;have da:=ha;have db:=hb;rw[bX]at ha hb;obtain⟨p,vs,e,h1,h2⟩:=ha;subst e;obtain⟨p',vs',e,h1',h2'⟩:=hb;subst e;cases ru;cases rv;by_cases hp:p=p'
    ·subst hp;have e:=Inv.den_inj I pa pb da db;rw[e,nW];exact EqAt.same _
    ·obtain⟨its,rv1,ht,_⟩:=I.list h1;obtain⟨its2,rv2,ht2,_⟩:=I.list h1';refine EqAt.of_refs hp ?_;have z1:its.toArray.size=xs.length:=(by rw[P0,<-rv1.length,<-h2.length]);have z2:its2.toArray.size=ys.length:=(by rw[P0,<-rv2.length,<-h2'.length]);have er:=fP xs ys;by_cases hz:its.toArray.size=its2.toArray.size
     ·have q:=RcAt.lists (e:=wX xs ys) ht.isList ht2.isList hz hu (items xs ys vs vs' its its2 (by first|rw[<-du];exact pa|rw[<-dR];exact pa) (by first|rw[<-du];exact pb|rw[<-dR];exact pb) hd h2 h2' rv1 rv2);rw[z1]at q;have hz':xs.length=ys.length:=(by omega);rw[<-hz',QP]at er;simp only[beq_self_eq_true,QQ]at er;rw[er]at q;unfold pyEq;exact q
     ·have hne:(its.toArray.size !=its2.toArray.size)=true:=(by simpa using hz);have q:=RcAt.lists_lengths (A:=A) ht.isList ht2.isList hne hu;have hz':(xs.length==ys.length)=false:=by
       rw[z1,z2]at hz
       simpa using hz
      rw[hz',Qp]at er;unfold pyEq;rw[<-er];exact q
   ·exact flatWay (λxs ys z=>hT ⟨xs,ys,z⟩) λxs ys z=>hL ⟨xs,ys,z⟩
end
end TG
namespace TG
open PySem PySem.Spec L2
variable[aB]
open PySem.SeqAt (EqAt RcAt RcNeAt)
section
variable{X:Cx}{pins:bf}{σ:St}{H:Hp}{s:T8}
theorem o0(I:Inv X pins σ H s){n:Nat}{xs ys:List D}{vs vs':aJ}{its its':aU}{A:Uj}(px:lA xs=true)(py:lA ys=true)(hdd:dU (n+1) (.tup xs)=true\/dU (n+1) (.tup ys)=true)(hx:aK X.K H xs vs)(hy:aK X.K H ys vs')(rx:Vals vs its)(ry:Vals vs' its')(hA:A.units+n<UL):
  ∀j (h1:j<its.toArray.size) (h2:j<its'.toArray.size),EqAt A s its.toArray[j] its'.toArray[j] (wX xs ys j):=by
 intro j h1 h2;obtain⟨w1,e1,r1⟩:=mB rx h1;obtain⟨w2,e2,r2⟩:=mB ry h2;obtain⟨d1,f1,g1⟩:=mw hx e1;obtain⟨d2,f2,g2⟩:=mw hy e2;have e3:wX xs ys j=pyEq d1 d2:=by unfold wX;rw[f1,f2]
 rw[e3];refine DU I n d1 d2 w1 w2 _ _ A (kD px _ (Qi f1)) (kD py _ (Qi f2)) ?_ g1 g2 r1 r2 hA;rcases hdd with hdd|hdd
 ·exact .inl (List.all_eq_true.mp hdd d1 (Qi f1))
 ·exact .inr (List.all_eq_true.mp hdd d2 (Qi f2))
inductive Way(I:Inv X pins σ H s):D->T2->Prop where
 |non:Way I .non .none
 |bl (b:Bool):Way I (.bl b) (.bool b)
 |int (i:Int) (t:Tok):Way I (.int i) (.int i t)
 |str (x:Str) (t:Tok):Way I (.str x) (.str x t)
 |tup {xs:List D} {p:T5} {vs:aJ} {its:aU} (h:aK X.K H xs vs) (r:Vals vs its) (t:s.heap.IsTuple p its.toArray):Way I (.tup xs) (.ref p)
 |lst {xs:List D} {p:T5} {vs:aJ} {its:aU} (h:aK X.K H xs vs) (r:Vals vs its) (t:s.heap.IsList p its.toArray):Way I (.lst xs) (.ref p)
noncomputable def top:D->Bool
 |.dct _ _=>false
 |.obj _ _ _=>false
 |.exc _ _ _=>false
 |_=>true
theorem eT{d:D}(h:pl d=true):top d=true:=by
 cases d with
 |dct _ _=>exact(gf h).elim
 |obj _ _ _=>exact(fI h).elim
 |exc _ _ _=>exact(fU h).elim
 |_=>rfl
theorem eQ(I:Inv X pins σ H s){d:D}{v:V}{u:T2}(pd:top d=true)(h:cu X.K H d v)(r:RelV v u):Way I d u:=by
 cases d with
 |non=>rw[jB]at h;subst h;cases r;exact .non
 |bl b=>rw[ju]at h;subst h;cases r;exact .bl b
 |int i=>rw[eF]at h;subst h;obtain⟨t,rfl⟩:=r;exact .int i t
 |str x=>rw[eN]at h;subst h;obtain⟨t,rfl⟩:=r;exact .str x t
 |tup xs=>
  rw[bY]at h;obtain⟨p,vs,e,h1,h2⟩:=h;subst e;cases r;obtain⟨its,rv,ht,_⟩:=I.tuple (nA.of h1);exact .tup h2 rv ht
 |lst xs=>
  rw[bX]at h;obtain⟨p,vs,e,h1,h2⟩:=h;subst e;cases r;obtain⟨its,rv,ht,_⟩:=I.list h1;exact .lst h2 rv ht.isList
 |dct _ _=>cases pd
 |obj _ _ _=>cases pd
 |exc _ _ _=>cases pd
theorem IP(I:Inv X pins σ H s){n:Nat}{a b:D}{x y:V}{u v:T2}{A:Uj}(pa:pl a=true)(pb:pl b=true)(hd:dU (n+1) a=true\/dU (n+1) b=true)(ha:cu X.K H a x)(hb:cu X.K H b y)(ru:RelV x u)(rv:RelV y v)(hA:A.units+n+1<UL):RcAt A s u v (pyEq a b):=by
 have hu:A.units<UL:=by omega
 cases eQ I (eT pa) ha ru with
 |non=>cases eQ I (eT pb) hb rv with
  |non=>unfold pyEq;exact .none_none
  |bl b=>unfold pyEq;exact .none_bool b
  |int i t=>unfold pyEq;exact .none_int i t
  |str x t=>unfold pyEq;exact .none_str x t
  |tup h r t=>unfold pyEq;exact .none_tuple t hu
  |lst h r t=>unfold pyEq;exact .none_list t hu
 |bl z=>cases eQ I (eT pb) hb rv with
  |non=>unfold pyEq;exact .bool_none z
  |bl b=>unfold pyEq;exact .bool_bool z b
  |int i t=>unfold pyEq;exact .bool_int z i t
  |str x t=>unfold pyEq;exact .bool_str z x t
  |tup h r t=>unfold pyEq;exact .bool_tuple z t hu
  |lst h r t=>unfold pyEq;exact .bool_list z t hu
 |int z tz=>cases eQ I (eT pb) hb rv with
  |non=>unfold pyEq;exact .int_none z tz
  |bl b=>unfold pyEq;exact .int_bool z tz b
  |int i t=>unfold pyEq;exact .int_int z tz i t
  |str x t=>unfold pyEq;exact .int_str z tz x t
  |tup h r t=>unfold pyEq;exact .int_tuple z tz t hu
  |lst h r t=>unfold pyEq;exact .int_list z tz t hu
 |str z tz=>cases eQ I (eT pb) hb rv with
  |non=>unfold pyEq;exact .str_none z tz
  |bl b=>unfold pyEq;exact .str_bool z tz b
  |int i t=>unfold pyEq;exact .str_int z tz i t
  |str x t=>unfold pyEq;exact .str_str z tz x t
  |tup h r t=>unfold pyEq;exact .str_tuple z tz t hu
  |lst h r t=>unfold pyEq;exact .str_list z tz t hu
 |@tup xs p vs its h1 r1 t1=>cases eQ I (eT pb) hb rv with
  |non=>unfold pyEq;exact .tuple_none t1 hu
  |bl b=>unfold pyEq;exact .tuple_bool b t1 hu
  |int i t=>unfold pyEq;exact .tuple_int i t t1 hu
  |str x t=>unfold pyEq;exact .tuple_str x t t1 hu
  |@tup ys p' vs' its' h2 r2 t2=>
   have q:=RcAt.tuples (e:=wX xs ys) t1 t2 hu (o0 (A:=A.in1) I (by first|rw[<-du];exact pa|rw[<-dR];exact pa) (by first|rw[<-du];exact pb|rw[<-dR];exact pb) hd h1 h2 r1 r2 (by rw[in1_units];omega));have z1:its.toArray.size=xs.length:=(by rw[P0,<-r1.length,<-h1.length]);have z2:its'.toArray.size=ys.length:=(by rw[P0,<-r2.length,<-h2.length]);rw[z1,z2,fP]at q;unfold pyEq;exact q
  |lst h r t=>unfold pyEq;exact .tuple_list t1 t hu
 |@lst xs p vs its h1 r1 t1=>cases eQ I (eT pb) hb rv with
  |non=>unfold pyEq;exact .list_none t1 hu
  |bl b=>unfold pyEq;exact .list_bool b t1 hu
  |int i t=>unfold pyEq;exact .list_int i t t1 hu
  |str x t=>unfold pyEq;exact .list_str x t t1 hu
  |tup h r t=>unfold pyEq;exact .list_tuple t1 t hu
  |@lst ys p' vs' its' h2 r2 t2=>
   have z1:its.toArray.size=xs.length:=(by rw[P0,<-r1.length,<-h1.length]);have z2:its'.toArray.size=ys.length:=(by rw[P0,<-r2.length,<-h2.length]);have er:=fP xs ys;by_cases hz:its.toArray.size=its'.toArray.size
   ·have q:=RcAt.lists (e:=wX xs ys) t1 t2 hz hu (o0 (A:=A.in1) I (by first|rw[<-du];exact pa|rw[<-dR];exact pa) (by first|rw[<-du];exact pb|rw[<-dR];exact pb) hd h1 h2 r1 r2 (by rw[in1_units];omega));rw[z1]at q;have hz':xs.length=ys.length:=(by omega);rw[<-hz',QP]at er;simp only[beq_self_eq_true,QQ]at er;rw[er]at q;unfold pyEq;exact q
   ·have q:=RcAt.lists_lengths (A:=A) t1 t2 (by simpa using hz) hu;have hz':(xs.length==ys.length)=false:=by
     rw[z1,z2]at hz
     simpa using hz
    rw[hz',Qp]at er;unfold pyEq;rw[<-er];exact q
theorem D9(I:Inv X pins σ H s){n:Nat}{a b:D}{x y:V}{u v:T2}{A:Uj}(pa:pl a=true)(pb:pl b=true)(hd:dU (n+1) a=true\/dU (n+1) b=true)(ha:cu X.K H a x)(hb:cu X.K H b y)(ru:RelV x u)(rv:RelV y v)(hA:A.units+n+1<UL):RcNeAt A s u v (!pyEq a b):=by
 have hu:A.units<UL:=by omega
 cases eQ I (eT pa) ha ru with
 |non=>cases eQ I (eT pb) hb rv with
  |non=>unfold pyEq;exact .none_none
  |bl b=>unfold pyEq;exact .none_bool b
  |int i t=>unfold pyEq;exact .none_int i t
  |str x t=>unfold pyEq;exact .none_str x t
  |tup h r t=>unfold pyEq;exact .none_tuple t hu
  |lst h r t=>unfold pyEq;exact .none_list t hu
 |bl z=>cases eQ I (eT pb) hb rv with
  |non=>unfold pyEq;exact .bool_none z
  |bl b=>unfold pyEq;exact .bool_bool z b
  |int i t=>unfold pyEq;exact .bool_int z i t
  |str x t=>unfold pyEq;exact .bool_str z x t
  |tup h r t=>unfold pyEq;exact .bool_tuple z t hu
  |lst h r t=>unfold pyEq;exact .bool_list z t hu
 |int z tz=>cases eQ I (eT pb) hb rv with
  |non=>unfold pyEq;exact .int_none z tz
  |bl b=>unfold pyEq;exact .int_bool z tz b
  |int i t=>unfold pyEq;exact .int_int z tz i t
  |str x t=>unfold pyEq;exact .int_str z tz x t
  |tup h r t=>unfold pyEq;exact .int_tuple z tz t hu
  |lst h r t=>unfold pyEq;exact .int_list z tz t hu
 |str z tz=>cases eQ I (eT pb) hb rv with
  |non=>unfold pyEq;exact .str_none z tz
  |bl b=>unfold pyEq;exact .str_bool z tz b
  |int i t=>unfold pyEq;exact .str_int z tz i t
  |str x t=>unfold pyEq;exact .str_str z tz x t
  |tup h r t=>unfold pyEq;exact .str_tuple z tz t hu
  |lst h r t=>unfold pyEq;exact .str_list z tz t hu
 |@tup xs p vs its h1 r1 t1=>cases eQ I (eT pb) hb rv with
  |non=>unfold pyEq;exact .tuple_none t1 hu
  |bl b=>unfold pyEq;exact .tuple_bool b t1 hu
  |int i t=>unfold pyEq;exact .tuple_int i t t1 hu
  |str x t=>unfold pyEq;exact .tuple_str x t t1 hu
  |@tup ys p' vs' its' h2 r2 t2=>
   have q:=RcNeAt.tuples (e:=wX xs ys) t1 t2 hu (o0 (A:=A.in1) I (by first|rw[<-du];exact pa|rw[<-dR];exact pa) (by first|rw[<-du];exact pb|rw[<-dR];exact pb) hd h1 h2 r1 r2 (by rw[in1_units];omega));have z1:its.toArray.size=xs.length:=(by rw[P0,<-r1.length,<-h1.length]);have z2:its'.toArray.size=ys.length:=(by rw[P0,<-r2.length,<-h2.length]);rw[z1,z2,fP]at q;unfold pyEq;exact q
  |lst h r t=>unfold pyEq;exact .tuple_list t1 t hu
 |@lst xs p vs its h1 r1 t1=>cases eQ I (eT pb) hb rv with
  |non=>unfold pyEq;exact .list_none t1 hu
  |bl b=>unfold pyEq;exact .list_bool b t1 hu
  |int i t=>unfold pyEq;exact .list_int i t t1 hu
  |str x t=>unfold pyEq;exact .list_str x t t1 hu
  |tup h r t=>unfold pyEq;exact .list_tuple t1 t hu
  |@lst ys p' vs' its' h2 r2 t2=>
   have z1:its.toArray.size=xs.length:=(by rw[P0,<-r1.length,<-h1.length]);have z2:its'.toArray.size=ys.length:=(by rw[P0,<-r2.length,<-h2.length]);have er:=fP xs ys;by_cases hz:its.toArray.size=its'.toArray.size
   ·have q:=RcNeAt.lists (e:=wX xs ys) t1 t2 hz hu (o0 (A:=A.in1) I (by first|rw[<-du];exact pa|rw[<-dR];exact pa) (by first|rw[<-du];exact pb|rw[<-dR];exact pb) hd h1 h2 r1 r2 (by rw[in1_units];omega));rw[z1]at q;have hz':xs.length=ys.length:=(by omega);rw[<-hz',QP]at er;simp only[beq_self_eq_true,QQ]at er;rw[er]at q;unfold pyEq;exact q
   ·have q:=RcNeAt.lists_lengths (A:=A) t1 t2 (by simpa using hz) hu;have hz':(xs.length==ys.length)=false:=by
     rw[z1,z2]at hz
     simpa using hz
    rw[hz',Qp]at er;unfold pyEq;rw[<-er];exact q
end
section
variable{X:Cx}
noncomputable def rD(K:SH)(g:D->D->bG):R2:=λx y H Q=>∃O a b d,dN H O/\cu K (hid H O) a x/\cu K (hid H O) b y/\g a b=some d/\∀v H',aR H H'->cu K (hid H' O) d v->Q v H'
theorem b7{K:SH}{g:D->D->bG}:cW K (rD K g) g:=λa b d x y O H Q hO hg ha hb q=>⟨O,a,b,d,hO,ha,hb,hg,q⟩
theorem my{f : T2 -> T2 -> Sem T2}{g : D -> D -> bG}(h : ∀ (pins : bf) (s : T8) (σ : St) (H : Hp) (a b d : D) (x y : V) (u v : T2), Inv X pins σ H s -> cu X.K H a x -> cu X.K H b y -> RelV x u -> RelV y v -> g a b = some d ->
      ∃c,d=.bl c/\∀(Q:bh),Q (.bool c) s->Ul (model X.prog X.w) X.A (f u v) Q X.xe s):iL X f (rD X.K g):=by
  rintro pins s σ H x y u v Q I rx ry ⟨O,a,b,d,hO,ha,hb,hg,q⟩;obtain⟨c,rfl,hq⟩:=h pins s σ H a b d x y u v I (ha.mono (aj H O)) (hb.mono (aj H O)) rx ry hg;exact hq _ ⟨.bl c,H,I,rfl,q _ H (aR.refl H) (ju.mpr rfl)⟩
noncomputable def eS(a b:D):bG:=if(pl a&&pl b)&&(dU 8 a||dU 8 b)then some (.bl (pyEq a b))else none
noncomputable def rH(a b:D):bG:=if(pl a&&pl b)&&(dU 8 a||dU 8 b)then some (.bl (!pyEq a b))else none
theorem Cp(hu:X.A.units+64<UL):iL X (UA .Eq) (rD X.K eS):=my λpins s σ H a b d x y u v I ha hb ru rv hg=>by
 obtain⟨h1,h2⟩:=bD hg;subst h2;rw[Qm,Qm,QR]at h1;exact⟨_,rfl,λQ q=>IP (n:=7) (A:=X.A) I h1.1.1 h1.1.2 h1.2 ha hb ru rv ‹0› X.prog X.w X.xe Q q⟩
theorem DF(hu:X.A.units+64<UL):iL X (UA .NotEq) (rD X.K rH):=my λpins s σ H a b d x y u v I ha hb ru rv hg=>by
 obtain⟨h1,h2⟩:=bD hg;subst h2;rw[Qm,Qm,QR]at h1;exact⟨_,rfl,λQ q=>D9 (n:=7) (A:=X.A) I h1.1.1 h1.1.2 h1.2 ha hb ru rv ‹0› X.prog X.w X.xe Q q⟩
noncomputable def inD(x:D)(ys:List D):Bool:=ys.any λy=>pyEq y x
noncomputable def u6(x y:D):bG:=match y with
 |.tup ys=>if(pl x&&lA ys)&&dU 8 x then some (.bl (inD x ys))else none
 |.lst ys=>if(pl x&&lA ys)&&dU 8 x then some (.bl (inD x ys))else none
 |_=>none
noncomputable def iH(x y:D):bG:=match y with
 |.tup ys=>if(pl x&&lA ys)&&dU 8 x then some (.bl (!inD x ys))else none
 |.lst ys=>if(pl x&&lA ys)&&dU 8 x then some (.bl (!inD x ys))else none
 |_=>none
open Classical in
theorem yC{pins:bf}{σ:St}{H:Hp}{s:T8}(I:Inv X pins σ H s){xd:D}{x:V}{u:T2}{A:Uj}(px:pl xd=true)(hd:dU 8 xd=true)(hx:cu X.K H xd x)(ru:RelV x u)(hA:A.units+8<UL){ys:List D}{vs:aJ}{its:aU}(py:lA ys=true)(hy:aK X.K H ys vs)(rv:Vals vs its):
  ∃e:T2->Bool,(∀y,y∈its.toArray->EqAt A s y u (e y))/\its.toArray.any e=inD xd ys:=by
 let e:T2->Bool:=λy=>decide (∃d w,pl d=true/\cu X.K H d w/\RelV w y/\pyEq d xd=true)
 have he:∀d w y,pl d=true->cu X.K H d w->RelV w y->e y=pyEq d xd:=λd w y h0 h1 h2=>by
  cases hq:pyEq d xd with
  |true=>exact decide_eq_true ⟨d,w,h0,h1,h2,hq⟩
  |false=>
   refine decide_eq_false ?_;rintro⟨d',w',g0,g1,g2,g3⟩;have ew:=RelV.inj h2 g2;subst ew;rw[Inv.den_inj I h0 g0 h1 g1,g3]at hq;cases hq
 refine⟨e,λy hy'=>?_,?_⟩
 ·have hm:y∈its:=by simpa using hy'
  obtain⟨j,hj,rfl⟩:=QS hm;obtain⟨w,e1,r1⟩:=mB rv (j:=j) (by simpa using hj);obtain⟨d,f1,g1⟩:=mw hy e1;have r1':RelV w its[j]:=by simpa using r1
  have pd:=kD py _ (Qi f1);rw[he d w _ pd g1 r1'];exact DU I 8 d xd w x _ u A pd px (.inr hd) g1 hx r1' ru hA
 ·unfold inD;have go:∀(ys:List D)(vs:aJ)(its:aU),lA ys=true->aK X.K H ys vs->Vals vs its->its.any e=ys.any λy=>pyEq y xd:=by
   intro ys
   induction ys with
   |nil=>
    intro vs its py h r;rw[cn]at h;subst h;cases r;rfl
   |cons y ys ih=>
    intro vs its py h r;unfold lA at py;rw[Qm]at py;rw[aX]at h;obtain⟨v,r',e1,h1,h2⟩:=h;subst e1;cases r with
    |cons q1 q2=>rw[Qs,Qs,he y v _ py.1 h1 q1,ih _ _ py.2 h2 q2]
  rw[List.any_toArray];exact go ys vs its py hy rv
theorem Do(hu:X.A.units+64<UL):iL X (UA .In) (rD X.K u6):=my λpins s σ H a b d x y u v I ha hb ru rv hg=>by
 cases b with
 |tup ys=>
  obtain⟨h1,h2⟩:=bD hg;subst h2;rw[Qm,Qm]at h1;rw[bY]at hb;obtain⟨p,vs,e,g1,g2⟩:=hb;subst e;cases rv;obtain⟨its,r,t,_⟩:=I.tuple (nA.of g1);obtain⟨e,he,ea⟩:=yC (A:=X.A.in1) I h1.1.1 h1.2 ha ru (by rw[in1_units];omega) h1.1.2 g2 r;exact⟨_,rfl,λQ q=>SeqAt.in_tupleAt e (show s.heap.IsTuple p its.toArray from t) he (by rw[ea];exact q)⟩
 |lst ys=>
  obtain⟨h1,h2⟩:=bD hg;subst h2;rw[Qm,Qm]at h1;rw[bX]at hb;obtain⟨p,vs,e,g1,g2⟩:=hb;subst e;cases rv;obtain⟨its,r,t,_⟩:=I.list g1;obtain⟨e,he,ea⟩:=yC (A:=X.A.in1) I h1.1.1 h1.2 ha ru (by rw[in1_units];omega) h1.1.2 g2 r;exact⟨_,rfl,λQ q=>SeqAt.in_listAt e t.isList he (by rw[ea];exact q)⟩
 |_=>cases hg
theorem tH(hu:X.A.units+64<UL):iL X (UA .NotIn) (rD X.K iH):=my λpins s σ H a b d x y u v I ha hb ru rv hg=>by
 cases b with
 |tup ys=>
  obtain⟨h1,h2⟩:=bD hg;subst h2;rw[Qm,Qm]at h1;rw[bY]at hb;obtain⟨p,vs,e,g1,g2⟩:=hb;subst e;cases rv;obtain⟨its,r,t,_⟩:=I.tuple (nA.of g1);obtain⟨e,he,ea⟩:=yC (A:=X.A.in1) I h1.1.1 h1.2 ha ru (by rw[in1_units];omega) h1.1.2 g2 r;exact⟨_,rfl,λQ q=>SeqAt.notIn_tupleAt e (show s.heap.IsTuple p its.toArray from t) he (by rw[ea];exact q)⟩
 |lst ys=>
  obtain⟨h1,h2⟩:=bD hg;subst h2;rw[Qm,Qm]at h1;rw[bX]at hb;obtain⟨p,vs,e,g1,g2⟩:=hb;subst e;cases rv;obtain⟨its,r,t,_⟩:=I.list g1;obtain⟨e,he,ea⟩:=yC (A:=X.A.in1) I h1.1.1 h1.2 ha ru (by rw[in1_units];omega) h1.1.2 g2 r;exact⟨_,rfl,λQ q=>SeqAt.notIn_listAt e t.isList he (by rw[ea];exact q)⟩
 |_=>cases hg
noncomputable def Hi(p:Int->Int->D)(a b:D):bG:=match a,b with
 |.int i,.int j=>some (p i j)
 |_,_=>none
noncomputable def Pa:=Hi λi j=>.bl (decide (i<j))
noncomputable def Dr:=Hi λi j=>.bl (decide (i<=j))
noncomputable def J2:=Hi λi j=>.bl (decide (j<i))
noncomputable def Lb:=Hi λi j=>.bl (decide (j<=i))
theorem dP{K:SH}{g:Int->Int->Bool}:cW K (zI λi j=>.bl (g i j)) (Hi λi j=>.bl (g i j)):=λa b d x y O H Q hO hg ha hb q=>by
 cases a with
 |int i=>
  cases b with
  |int j=>cases hg;exact⟨i,j,eF.mp ha,eF.mp hb,q _ H (aR.refl H) (ju.mpr rfl)⟩
  |_=>cases hg
 |_=>cases hg
theorem pP{K:SH}{g:Int->Int->Int}:cW K (zI λi j=>.int (g i j)) (Hi λi j=>.int (g i j)):=λa b d x y O H Q hO hg ha hb q=>by
 cases a with
 |int i=>
  cases b with
  |int j=>cases hg;exact⟨i,j,eF.mp ha,eF.mp hb,q _ H (aR.refl H) (eF.mpr rfl)⟩
  |_=>cases hg
 |_=>cases hg
noncomputable def J1(c:Int->Int->Bool)(p:Int->Int->Int)(a b:D):bG:=match a,b with
 |.int i,.int j=>if c i j then some (.int (p i j))else none
 |_,_=>none
theorem iW{K:SH}{C:Int->Int->Prop}{c:Int->Int->Bool}{g:Int->Int->Int}(hc:∀i j,c i j=true->C i j):cW K (rI C λi j=>.int (g i j)) (J1 c g):=λa b d x y O H Q hO hg ha hb q=>by
 cases a with
 |int i=>
  cases b with
  |int j=>
   obtain⟨h1,h2⟩:=bD hg;subst h2;exact⟨i,j,eF.mp ha,eF.mp hb,hc i j h1,q _ H (aR.refl H) (eF.mpr rfl)⟩
  |_=>cases hg
 |_=>cases hg
noncomputable def uc:=Hi λi j=>.int (i-j)
noncomputable def lE:=J1 (λi j=>decide ((-(2^64)<i/\i<2^64)\/(-(2^64)<j/\j<2^64))) (·*·)
noncomputable def Hx(_ j:Int):Prop:=0<j/\j<10^200
theorem Bo:iL X (Uz .FloorDiv) (rI Hx λi j=>.int (i/j)):=Ky λi j _ _ _ _ _ hc q=>by
 have h1:(0:Int)<j:=hc.1;have h2:j<10^200:=hc.2;refine PyProof.Rows.floordiv_int ‹0› (by rw[PZ i ‹0›];exact q) (.inl (PyProof.noPylong_of_log2 ?_));have h3:j.natAbs<10^200:=by omega
 rw[Nat.log2_lt ‹0›];exact Qx h3 (by decide +kernel)
noncomputable def cH:=J1 (λ_ j=>decide (0<j/\j<10^200)) (·/·)
noncomputable def bP:=J1 (λ_ j=>decide (0<j)) (·%·)
noncomputable def iK:=J1 (λi j=>decide (0<=j/\j<=1000000/\i.natAbs<2^64)) λi j=>i^j.toNat
theorem IC{K:SH}:cW K (zI λi j=>.int (i-j)) uc:=pP
theorem CA{K:SH}:cW K (rI Ii λi j=>.int (i*j)) lE:=iW λi j h=>by have q:=of_decide_eq_true h;exact q
theorem IT{K:SH}:cW K (rI Hx λi j=>.int (i/j)) cH:=iW λi j h=>by have q:=of_decide_eq_true h;exact q
theorem Ju{K:SH}:cW K (rI (λ_ j=>0<j) λi j=>.int (i%j)) bP:=iW λ_ _ h=>of_decide_eq_true h
theorem Ji{K:SH}:cW K (rI Ki λi j=>.int (i^j.toNat)) iK:=iW λi j h=>by have q:=of_decide_eq_true h;exact q
noncomputable def KW(K:SH):R2:=λx y H Q=>∃l b xs zs,x=.ref l/\y=.ref b/\md K H l xs/\md K H b zs/\xs.length+zs.length<=Ud/\∀p,H p=none->Q (.ref p) (upd H p (.lst (xs++zs)))
theorem Fw:iL X (Uz .Add) (KW X.K):=by
 intro pins s σ H x y v u Q I rx ry h;obtain⟨l,b,xs,zs,rfl,rfl,hH,hB,hz,q⟩:=h;cases rx;cases ry;obtain⟨its,r,t1,_⟩:=I.list hH;obtain⟨its2,r2,t2,_⟩:=I.list hB;obtain⟨⟨c1,d1,dt1,sl1⟩,n1,ho,hc,hd,hdt⟩:=t1;obtain⟨⟨c2,d2,dt2,sl2⟩,n2,ho2,hc2,hd2,hdt2⟩:=t2;simp only at hc hd hdt hc2 hd2 hdt2;subst hc hd hdt hc2 hd2 hdt2;have z1:=r.length;have z2:=r2.length;refine UV ⟨_,ho,rfl⟩ ⟨_,ho2,rfl⟩ noFill_list_add seq_list_add F.slot_list_add F.entry_list_add (F.args_list_add_2 _ _) (PyProof.Rows.list_addW l b its.toArray its2.toArray n1 n2 none none sl1 sl2 (by rw[P0,P0];omega)) ⟨ho,ho2,?_⟩;have ea:its.toArray++its2.toArray=(its++its2).toArray:=by simp
 rw[ea];exact⟨.ref _,_,I.lnew (t':=s.toks) (r.append r2) (by rw[Qj];omega),rfl,q _ I.fresh⟩
noncomputable def Jd(K:SH):R2:=λx y H Q=>∃a b xs ys,x=.ref a/\y=.ref b/\nA K H a xs/\nA K H b ys/\xs.length+ys.length<=Ud/\
 (xs=[]->Q (.ref b) H)/\(xs≠[]->ys=[]->Q (.ref a) H)/\(xs≠[]->ys≠[]->∀p,H p=none->Q (.ref p) (upd H p (.tup (xs++ys))))
theorem B7:iL X (Uz .Add) (Jd X.K):=by
 intro pins s σ H x y v u Q I rx ry h;obtain⟨a,b,xs,ys,ex,ey,ha,hb,hz,q0,q1,q2⟩:=h;by_cases hx:xs=[]
 ·subst ex ey;cases rx;cases ry;obtain⟨its,r1,p1,_⟩:=I.tuple ha;obtain⟨its2,r2,p2,_⟩:=I.tuple hb;obtain⟨⟨cls,dd,data,sl⟩,ho,hc,n,hd⟩:=id p1;obtain⟨⟨cls2,dd2,data2,sl2⟩,ho2,hc2,n2,hd2⟩:=id p2;simp only at hc hd hc2 hd2;subst hc hd hc2 hd2;have e:its=[]:=r1.nil_iff.mpr hx;exact UV ⟨_,ho,rfl⟩ ⟨_,ho2,rfl⟩ UW UX F.slot_tuple_add F.entry_tuple_add (F.args_tuple_add_2 _ _)
   (PyProof.Rows.tuple_addW0 a b its.toArray its2.toArray n n2 dd dd2 sl sl2 (by rw[e];rfl)) ⟨ho,ho2,⟨.ref b,H,I,rfl,q0 hx⟩⟩
 ·exact Ff pins s σ H x y v u Q I rx ry ⟨a,b,xs,ys,ex,ey,ha,hb,hx,hz,q1 hx,q2 hx⟩
noncomputable def aW(a b:D):bG:=match a,b with
 |.int i,.int j=>some (.int (i+j))
 |.str x,.str y=>if small (x.length+y.length)then some (.str (x++y))else none
 |.lst xs,.lst ys=>if small (xs.length+ys.length)then some (.lst (xs++ys))else none
 |.tup xs,.tup ys=>if small (xs.length+ys.length)then some (.tup (xs++ys))else none
 |_,_=>none
theorem EZ:iL X (Uz .Add) (rD X.K aW):=by
 rintro pins s σ H x y u v Q I rx ry ⟨O,a,b,d,hO,ha,hb,hg,q⟩;cases a with
 |int i=>
  cases b with
  |int j=>
   cases hg;exact HZ pins s σ H x y u v Q I rx ry ⟨i,j,eF.mp ha,eF.mp hb,q _ H (aR.refl H) (eF.mpr rfl)⟩
  |_=>cases hg
 |str i=>
  cases b with
  |str j=>
   obtain⟨h1,h2⟩:=bD hg;subst h2;exact xH pins s σ H x y u v Q I rx ry ⟨i,j,eN.mp ha,eN.mp hb,dJ h1,q _ H (aR.refl H) (eN.mpr rfl)⟩
  |_=>cases hg
 |lst xs=>
  cases b with
  |lst ys=>
   obtain⟨h1,h2⟩:=bD hg;subst h2;rw[bX]at ha hb;obtain⟨p,vs,ex,g1,g2⟩:=ha;obtain⟨p',vs',ey,g1',g2'⟩:=hb;refine Fw pins s σ H x y u v Q I rx ry ⟨p,p',vs,vs',ex,ey,(aj H O).seq g1,(aj H O).seq g1',?_,λr hr=>?_⟩
   ·rw[<-g2.length,<-g2'.length];exact dJ h1
   ·exact q _ _ (bj hr _) (cS hO hr (g2.append g2'))
  |_=>cases hg
 |tup xs=>
  cases b with
  |tup ys=>
   obtain⟨h1,h2⟩:=bD hg;subst h2;have da:=ha;have db:=hb;rw[bY]at ha hb;obtain⟨p,vs,ex,g1,g2⟩:=ha;obtain⟨p',vs',ey,g1',g2'⟩:=hb;have l1:=g2.length;have l2:=g2'.length;refine B7 pins s σ H x y u v Q I rx ry ⟨p,p',vs,vs',ex,ey,bJ (aj H O) g1,bJ (aj H O) g1',?_,λz=>?_,λz z'=>?_,λz z' r hr=>?_⟩
   ·rw[<-l1,<-l2];exact dJ h1
   ·have e:xs=[]:=List.length_eq_zero_iff.mp (by rw[l1,z];rfl);rw[<-ey];refine q _ H (aR.refl H) ?_;rw[e,QT];exact db
   ·have e:ys=[]:=List.length_eq_zero_iff.mp (by rw[l2,z'];rfl);rw[<-ex];refine q _ H (aR.refl H) ?_;rw[e,Qa];exact da
   ·exact q _ _ (bj hr _) (dY hO hr (g2.append g2'))
  |_=>cases hg
 |_=>cases hg
noncomputable def ah(a b:D):bG:=match a,b with
 |.tup xs,.int i=>lK xs i
 |.lst xs,.int i=>lK xs i
 |.str x,.int i=>if small x.length then(lK x.cps.toList i).bind λc=>some (.str ⟨#[c]⟩)else none
 |_,_=>none
theorem yN{K:SH}{H:Hp}{ds:List D}{vs:aJ}{i:Int}{d:D}(h:aK K H ds vs)(e:lK ds i=some d):∃v,lK vs i=some v/\cu K H d v:=by
 unfold lK at e ⊢;obtain⟨j,e1,e2⟩:=bind_some e;rw[<-h.length,e1];exact h.get e2
theorem NP:KN X (rD X.K ah):=by
 rintro value slice pins s σ H x y u v Q I rx ry ⟨O,a,b,d,hO,ha,hb,hg,q⟩ hsub;cases a with
 |tup xs=>
  cases b with
  |int i=>
   rw[bY]at ha;obtain⟨p,vs,ex,g1,g2⟩:=ha;obtain⟨w,e1,e2⟩:=yN g2 hg;refine JY value slice pins s σ H x y u v Q I rx ry ?_ hsub;exact⟨p,vs,i,w,ex,eF.mp hb,bJ (aj H O) g1,e1,q w H (aR.refl H) e2⟩
  |_=>cases hg
 |lst xs=>
  cases b with
  |int i=>
   rw[bX]at ha;obtain⟨p,vs,ex,g1,g2⟩:=ha;obtain⟨w,e1,e2⟩:=yN g2 hg;refine yw value slice pins s σ H x y u v Q I rx ry ?_ hsub;exact⟨p,vs,i,w,ex,eF.mp hb,(aj H O).seq g1,e1,q w H (aR.refl H) e2⟩
  |_=>cases hg
 |str z=>
  cases b with
  |int i=>
   have hg':(if small z.length then(lK z.cps.toList i).bind λc=>some (D.str ⟨#[c]⟩)else none)=some d:=hg;cases hs:small z.length with
   |false=>rw[hs]at hg';cases hg'
   |true=>
    rw[hs]at hg';obtain⟨c,e1,e2⟩:=bind_some hg';cases e2;refine Ig value slice pins s σ H x y u v Q I rx ry ?_ hsub;exact⟨z,i,c,eN.mp ha,eF.mp hb,dJ hs,e1,q _ H (aR.refl H) (eN.mpr rfl)⟩
  |_=>cases hg
 |_=>cases hg
noncomputable def cutD{α:Type}(xs:List α)(lo hi:dQ):List α:=(xs.drop (HT.sIx xs.length 0 lo)).take (HT.sIx xs.length xs.length hi-HT.sIx xs.length 0 lo)
theorem rj{M:Model}{A:Uj}{E:bh}{s:T8}{t:T5}{items:dX}{Q:Bool->cP}(ht:TF s.heap t items)(h:Q true s):Ul M A (Builtin.Tuple.tupleIsExact (.ref t)) Q E s:=by
 unfold Builtin.Tuple.tupleIsExact;refine Uu (U3 ht.typeIs ?_);exact Ut h
theorem gP{prog:Ua}{w:T9}{A:Uj}{E:bh}{s:T8}{t sl:T5}{items:dX}{vl vu:T2}{lo hi:dQ}{Q:bh}(ht:TF s.heap t items)(hs:s.heap.IsSliceOf sl vl vu .none)(pl:UY vl lo)(pu:UY vu hi)
  (hw:HT.sIx items.size 0 lo=0/\HT.sIx items.size items.size hi=items.size) (h:Q (.ref t) s):Ul (model prog w) A (getItem (.ref t) (.ref sl)) Q E s:=by
 obtain⟨os,hos,hcs,hds⟩:=id hs;have hTs:s.TypeIs (.ref sl) "slice":=⟨os,hos,hcs⟩
 unfold getItem
 try with_reducible refine U0 ?_
 first|refine Uu (Ut ?_)|skip
 refine Uu (wpAny_sequenceKey ht.typeIs (by decide) ?_);refine Uu (U1 (name:=Str.ofString "__getitem__") ht.typeIs TB
  (U2 TB ht.typeIs PyProof.Rows.entry_tuple_getitem ?_ (PyProof.Rows.args_tuple_getitem _ _)))
 show Ul _ _ (Builtin.Tuple.tupleItemsOf (.ref t) >>= _) _ _ s;refine Uu (PyProof.Rows.tupleItemsOf_ ht ?_);refine Uu (U3 hTs ?_);rw[if_pos (by decide)];refine Uu (HT.nY hs pl pu ?_);have hyes:(((HT.sIx items.size 0 lo:Nat):Int)==0&&(1:Int)==1&&(HT.sIx items.size items.size hi-HT.sIx items.size 0 lo)==items.size)=true:=by
  rw[hw.1,hw.2];simp
 show Ul _ _ (if(((HT.sIx items.size 0 lo:Nat):Int)==0&&(1:Int)==1&&(HT.sIx items.size items.size hi-HT.sIx items.size 0 lo)==items.size)=true then _ else _) _ _ s;rw[if_pos hyes];refine Uu (rj ht ?_);rw[if_pos rfl]
 first
  |exact Uu (U9 (Ut ⟨_,rfl,Ut h⟩))
  |exact Uu (U9 (Uu (Ut (Ut ⟨_,rfl,Ut h⟩))))
noncomputable def qC(a:D)(lo hi:dQ):bG:=match a with
 |.lst xs=>some (.lst (cutD xs lo hi))
 |.tup xs=>some (.tup (cutD xs lo hi))
 |.str x=>if small x.length then some (.str ⟨(cutD x.cps.toList lo hi).toArray⟩)else none
 |_=>none
theorem Hk(v:dQ)(d n:Nat)(hd:d<=n):(match v with|none=>(d:Int)|some i=>if(1:Int)>0 then max 0 (min (if i<0 then i+(n:Int)else i) (n:Int))else max (-1) (min (if i<0 then i+(n:Int)else i) ((n:Int)-1)))=((HT.sIx n d v:Nat):Int):=by
 cases v with
 |none=>rfl
 |some i=>
  show(if(1:Int)>0 then max 0 (min (if i<0 then i+(n:Int)else i) (n:Int))else max (-1) (min (if i<0 then i+(n:Int)else i) ((n:Int)-1)))=(((if i<0 then(i+(n:Int)).toNat else min i.toNat n):Nat):Int)
  rw[if_pos (by decide)];by_cases h:i<0
  ·rw[if_pos h,if_pos h];omega
  ·rw[if_neg h,if_neg h];omega
theorem DM(lo hi:dQ)(n:Nat):Builtin.Str.strSliceIndices lo hi 1 n=(List.range (HT.sIx n n hi-HT.sIx n 0 lo)).map λk=>HT.sIx n 0 lo+k:=by
 have e1:=Hk lo 0 n (P9 _);have e2:=Hk hi n n (PX _);have e:Builtin.Str.strSliceIndices lo hi 1 n=sliceRange ((HT.sIx n 0 lo:Nat):Int) ((HT.sIx n n hi:Nat):Int) 1:=by
  rw[<-e1,<-e2];cases lo<;>cases hi<;>rfl
 rw[e];unfold sliceRange;dsimp only;rw[if_pos (by decide:(1:Int)>0)];have e3:(if((HT.sIx n 0 lo:Nat):Int)<((HT.sIx n n hi:Nat):Int)then(((HT.sIx n n hi:Nat):Int)-((HT.sIx n 0 lo:Nat):Int)+1-1)/1 else 0:Int).toNat=HT.sIx n n hi-HT.sIx n 0 lo:=by
  rw[Int.ediv_one];split<;>omega
 rw[e3];refine QU λk _=>?_;omega
theorem Ce{α:Type}(l:List α)(a:Nat):∀n:Nat,((List.range n).map λk=>a+k).filterMap (λi=>l[i]?)=(l.drop a).take n
 |0=>by simp
 |n+1=>by
  rw[List.range_succ,QV,List.filterMap_append,Ce l a n,QW,List.getElem?_drop];cases e:l[a+n]?<;>simp[e]
theorem AF(x:Str)(lo hi:dQ):Txt.slice x lo hi=⟨(cutD x.cps.toList lo hi).toArray⟩:=by
 have hl:x.cps.toList.length=x.length:=by simp[Str.length]
 have pick:(Builtin.Str.strSliceIndices lo hi 1 x.length).filterMap (x.cps[·]?)=cutD x.cps.toList lo hi:=by
  rw[DM];have q:=Ce x.cps.toList (HT.sIx x.length 0 lo) (HT.sIx x.length x.length hi-HT.sIx x.length 0 lo);unfold cutD;rw[hl,<-q];congr 1;funext i;simp
 unfold Txt.slice;split
 ·rename_i h;have h':(Builtin.Str.strSliceIndices lo hi 1 x.length).length=x.length:=by simpa using h
  rw[DM,P7,QX]at h';have h1:=HT.JS x.length x.length (PX _) hi;have z1:HT.sIx x.length 0 lo=0\/x.length=0:=by omega
  have e:cutD x.cps.toList lo hi=x.cps.toList:=by
   unfold cutD;rw[hl,h'];rcases z1 with z1|z1
   ·rw[z1,QJ,<-hl,QY]
   ·have:x.cps.toList=[]:=List.length_eq_zero_iff.mp (by rw[hl];exact z1)
    rw[this];simp
  rw[e]
 ·rw[pick]
noncomputable def NW(K:SH):V->dQ->dQ->Hp->VK->Prop:=λx lo hi H Q=>∃O a d,dN H O/\cu K (hid H O) a x/\qC a lo hi=some d/\∀v H',aR H H'->cu K (hid H' O) d v->Q v H'
theorem aK.cut{K:SH}{H:Hp}{ds:List D}{vs:aJ}(h:aK K H ds vs)(lo hi:dQ):aK K H (cutD ds lo hi) (vW vs lo hi):=by
 unfold cutD vW;rw[h.length];exact(h.drop _).take _
theorem NV:L4 X (NW X.K):=by
 rintro pins s σ H x v vl vu lo hi sl Q I rx hs pl pu ⟨O,a,d,hO,ha,hg,q⟩;cases a with
 |lst xs=>
  cases hg;rw[bX]at ha;obtain⟨p,vs,ex,g1,g2⟩:=ha;exact Gw pins s σ H x v vl vu lo hi sl Q I rx hs pl pu ⟨p,vs,ex,(aj H O).seq g1,λr hr=>q _ _ (bj hr _) (cS hO hr (g2.cut lo hi))⟩
 |tup xs=>
  cases hg;have da:=ha;rw[bY]at ha;obtain⟨p,vs,ex,g1,g2⟩:=ha;by_cases hw:HT.sIx vs.length 0 lo=0/\HT.sIx vs.length vs.length hi=vs.length
  ·subst ex;cases rx;obtain⟨its,r,ht,hz⟩:=I.tuple (bJ (aj H O) g1);have hlen:its.toArray.size=vs.length:=(by rw[P0];exact r.length.symm);refine⟨"tuple",_,PyProof.Rows.slot_tuple_getitem.lookup,ht.typeIs,gP ht hs pl pu (by rw[hlen];exact hw) ⟨.ref p,H,I,rfl,q _ H (aR.refl H) ?_⟩⟩;have e:cutD xs lo hi=xs:=by
    unfold cutD;rw[g2.length,hw.1,hw.2,QZ,QJ,<-g2.length,QY]
   rw[e];exact da
  ·exact JR pins s σ H x v vl vu lo hi sl Q I rx hs pl pu ⟨p,vs,ex,bJ (aj H O) g1,hw,λr hr=>q _ _ (bj hr _) (dY hO hr (g2.cut lo hi))⟩
 |str z=>
  obtain⟨h1,h2⟩:=bD hg;subst h2;rw[eN]at ha;subst ha;obtain⟨t,rfl⟩:=rx;have fin:∀t' tk,EP X pins σ Q (.str (Txt.slice z lo hi) t') {s with toks:=tk}:=λt' tk=>by
   rw[AF];exact⟨.str _,H,I.tok _,⟨_,rfl⟩,q _ H (aR.refl H) (eN.mpr rfl)⟩
  obtain⟨os,hos,hcs,hds⟩:=id hs;have hz:=dJ h1;refine⟨"str",_,F.slot_str_getitem.lookup,typeIs_str _ _ _,?_⟩;cases pl with
  |none=>
   cases pu with
   |none=>exact Va (l:=none) (u:=none) (st:=none) ⟨os,hos,hcs,hds⟩ rfl (Vb ⟨PD (Txt.slice_le z _ _) hz,λt' k=>fin t' k⟩)
   |int j tj=>exact Va (l:=none) (u:=some (j,tj)) (st:=none) ⟨os,hos,hcs,hds⟩ rfl (Vb ⟨PD (Txt.slice_le z _ _) hz,λt' k=>fin t' k⟩)
  |int i ti=>
   cases pu with
   |none=>exact Va (l:=some (i,ti)) (u:=none) (st:=none) ⟨os,hos,hcs,hds⟩ rfl (Vb ⟨PD (Txt.slice_le z _ _) hz,λt' k=>fin t' k⟩)
   |int j tj=>exact Va (l:=some (i,ti)) (u:=some (j,tj)) (st:=none) ⟨os,hos,hcs,hds⟩ rfl (Vb ⟨PD (Txt.slice_le z _ _) hz,λt' k=>fin t' k⟩)
 |_=>cases hg
noncomputable def av:aq->R (dQ):=λ_=>.ok none
noncomputable def wK:D->Option (dQ)
 |.int i=>some (some i)
 |_=>none
noncomputable def aY(f:FX):aq->R (dQ):=λρ=>(f ρ).bind λd=>rO (wK d)
noncomputable def OZ(X:Cx)(F:aq->R dQ):TO:=λσ H Q=>∃O ρ,dE X.K O H ρ σ/\gW X σ O H (F ρ) λo=>∀H',aR H H'->Q o H'
noncomputable def FO(X:Cx)(e:Option T6)(F:aq->R dQ):Prop:=PO X e (OZ X F)
noncomputable def aH(f:FX)(l h:aq->R dQ):FX:=λρ=>(f ρ).bind λa=>(l ρ).bind λlo=>(h ρ).bind λhi=>rO (qC a lo hi)
end
end TG
namespace TG
open PySem PySem.Spec L2
variable[aB]
noncomputable def xO(K:SH)(g:List D->bG):aJ->Hp->VK->Prop:=λxs H Q=>∃O ds d,dN H O/\aK K (hid H O) ds xs/\g ds=some d/\∀v H',aR H H'->cu K (hid H' O) d v->Q v H'
theorem pQ{K:SH}{g:List D->bG}:zi K (xO K g) g:=λds d xs O H Q hO hg hd q=>⟨O,ds,d,hO,hd,hg,q⟩
section
variable{X:Cx}{x:Str}{p pos:Pos}{e:T6}{es:bx}{id T:String}{g:List D->bG}{f:bE}
noncomputable def dS:List D->bG
 |[.lst xs]=>some (.int xs.length)
 |[.tup xs]=>some (.int xs.length)
 |[.str x]=>if small x.length then some (.int x.length)else none
 |_=>none
theorem A8:dW X (.builtin "len") (xO X.K dS):=by
 rintro pins s σ H xs us Q I r ⟨O,ds,d,hO,hd,hg,q⟩;unfold dS at hg;split at hg
 ·rename_i ys;cases hg;obtain⟨v,ev,h1⟩:=hd.one;rw[bX]at h1;obtain⟨p,vs,ep,g1,g2⟩:=h1;exact mq pins s σ H xs us Q I r ⟨p,vs,by rw[ev,ep],.inl ((aj H O).seq g1),q _ H (aR.refl H) (eF.mpr (by rw[g2.length]))⟩
 ·rename_i ys;cases hg;obtain⟨v,ev,h1⟩:=hd.one;rw[bY]at h1;obtain⟨p,vs,ep,g1,g2⟩:=h1;exact mq pins s σ H xs us Q I r ⟨p,vs,by rw[ev,ep],.inr (bJ (aj H O) g1),q _ H (aR.refl H) (eF.mpr (by rw[g2.length]))⟩
 ·rename_i z;obtain⟨h1,h2⟩:=bD hg;subst h2;obtain⟨v,ev,h1'⟩:=hd.one;exact ur pins s σ H xs us Q I r ⟨z,by rw[ev,eN.mp h1'],dJ h1,q _ H (aR.refl H) (eF.mpr rfl)⟩
 ·cases hg
noncomputable def aZ:List D->bG
 |[.lst xs]=>some (.tup xs)
 |[.tup xs]=>some (.tup xs)
 |_=>none
theorem vH:dW X (.type "tuple") (xO X.K aZ):=by
 rintro pins s σ H xs us Q I r ⟨O,ds,d,hO,hd,hg,q⟩;unfold aZ at hg;split at hg
 ·rename_i ys;cases hg;obtain⟨v,ev,h1⟩:=hd.one;rw[bX]at h1;obtain⟨p,vs,ep,g1,g2⟩:=h1;exact lM pins s σ H xs us Q I r ⟨p,vs,by rw[ev,ep],.inl ⟨(aj H O).seq g1,λl hl=>q _ _ (bj hl _) (dY hO hl g2)⟩⟩
 ·rename_i ys;cases hg;obtain⟨v,ev,h1⟩:=hd.one;have h0:=h1;rw[bY]at h1;obtain⟨p,vs,ep,g1,g2⟩:=h1;rw[ep]at h0;exact lM pins s σ H xs us Q I r ⟨p,vs,by rw[ev,ep],.inr ⟨bJ (aj H O) g1,q _ H (aR.refl H) h0⟩⟩
 ·cases hg
noncomputable def lI:List D->bG
 |[.lst xs]=>some (.lst xs)
 |[.tup xs]=>some (.lst xs)
 |_=>none
theorem xt:dW X (.type "list") (xO X.K lI):=by
 rintro pins s σ H xs us Q I r ⟨O,ds,d,hO,hd,hg,q⟩;unfold lI at hg;split at hg
 ·rename_i ys;cases hg;obtain⟨v,ev,h1⟩:=hd.one;rw[bX]at h1;obtain⟨p,vs,ep,g1,g2⟩:=h1;exact jD pins s σ H xs us Q I r ⟨p,vs,by rw[ev,ep],.inl ((aj H O).seq g1),λl hl=>q _ _ (bj hl _) (cS hO hl g2)⟩
 ·rename_i ys;cases hg;obtain⟨v,ev,h1⟩:=hd.one;rw[bY]at h1;obtain⟨p,vs,ep,g1,g2⟩:=h1;exact jD pins s σ H xs us Q I r ⟨p,vs,by rw[ev,ep],.inr (bJ (aj H O) g1),λl hl=>q _ _ (bj hl _) (cS hO hl g2)⟩
 ·cases hg
noncomputable def lN:List D->bG
 |[.int i,.int j]=>some (.int (if j>i then j else i))
 |_=>none
noncomputable def je:List D->bG
 |[.int i,.int j]=>some (.int (if j<i then j else i))
 |_=>none
noncomputable def vc:List D->bG
 |[.int i]=>some (.int i)
 |[.bl k]=>some (.int (if k then 1 else 0))
 |_=>none
theorem wV(hc:X.calm=true):dW X (.builtin "max") (xO X.K lN):=by
 rintro pins s σ H xs us Q I r ⟨O,ds,d,hO,hd,hg,q⟩;unfold lN at hg;split at hg
 ·rename_i i j;cases hg;obtain⟨v,w,ev,h1,h2⟩:=hd.two;exact zC hc pins s σ H xs us Q I r ⟨i,j,by rw[ev,eF.mp h1,eF.mp h2],q _ H (aR.refl H) (eF.mpr rfl)⟩
 ·cases hg
theorem xh(hc:X.calm=true):dW X (.builtin "min") (xO X.K je):=by
 rintro pins s σ H xs us Q I r ⟨O,ds,d,hO,hd,hg,q⟩;unfold je at hg;split at hg
 ·rename_i i j;cases hg;obtain⟨v,w,ev,h1,h2⟩:=hd.two;exact z8 hc pins s σ H xs us Q I r ⟨i,j,by rw[ev,eF.mp h1,eF.mp h2],q _ H (aR.refl H) (eF.mpr rfl)⟩
 ·cases hg
theorem ya:dW X (.type "int") (xO X.K vc):=by
 rintro pins s σ H xs us Q I r ⟨O,ds,d,hO,hd,hg,q⟩;unfold vc at hg;split at hg
 ·rename_i i;cases hg;obtain⟨v,ev,h1⟩:=hd.one;exact rZ pins s σ H xs us Q I r (.inl ⟨i,by rw[ev,eF.mp h1],q _ H (aR.refl H) (eF.mpr rfl)⟩)
 ·rename_i k;cases hg;obtain⟨v,ev,h1⟩:=hd.one;exact rZ pins s σ H xs us Q I r (.inr ⟨k,by rw[ev,ju.mp h1],q _ H (aR.refl H) (eF.mpr rfl)⟩)
 ·cases hg
noncomputable def Jo:D->String
 |.non=>"NoneType"
 |.bl _=>"bool"
 |.int _=>"int"
 |.str _=>"str"
 |.tup _=>"tuple"
 |.lst _=>"list"
 |.dct _ _=>"dict"
 |_=>""
noncomputable def E8(T:String)(d:D):Bool:=match d with
 |.bl _=>T=="bool"||T=="int"
 |.non=>T=="NoneType"
 |.int _=>T=="int"
 |.str _=>T=="str"
 |.tup _=>T=="tuple"
 |.lst _=>T=="list"
 |.dct _ _=>T=="dict"
 |_=>false
noncomputable def yj(K:SH)(T:String):Prop:=∀d:D,top d=true->S9 K (.type (Jo d)) (.type T)=some (E8 T d)
noncomputable def Nh(K:SH)(T:String):aJ->Hp->VK->Prop:=λxs H Q=>∃O x d,xs=[x,.ty T]/\top d=true/\cu K (hid H O) d x/\Q (.bl (E8 T d)) H
theorem Bs(ok:yj X.K T):dW X (.builtin "isinstance") (Nh X.K T):=by
 rintro pins s σ H xs us Q I r ⟨O,x,d,ex,td,hd,q⟩;subst ex;obtain⟨u,w',rfl,rx,rt⟩:=vals2 r;cases rt;have e:=ok d td;have fin:∀tk,EP X pins σ Q (.bool (E8 T d)) {s with toks:=tk}:=λtk=>⟨.bl _,H,I.tok _,rfl,q⟩
 cases eQ I td (hd.mono (aj H O)) rx with
 |non=>exact Tc PySem.W.kitx_none I.kIn True.intro e (λz=>nomatch z) fin
 |bl b=>exact Tc PySem.W.kitx_bool I.kIn True.intro e (λz=>nomatch z) fin
 |int i t=>exact Tc PySem.W.kitx_int I.kIn True.intro e (λz=>nomatch z) fin
 |str y t=>exact Tc PySem.W.kitx_str I.kIn True.intro e (λz=>nomatch z) fin
 |tup h rv t=>
  obtain⟨o,h1,h2,_⟩:=t;exact Tc PySem.W.kitx_tuple I.kIn ⟨o,h1,h2⟩ e (λz=>nomatch z) fin
 |lst h rv t=>
  obtain⟨o,h1,h2,_⟩:=t;exact Tc PySem.W.kitx_list I.kIn ⟨o,h1,h2⟩ e (λz=>nomatch z) fin
theorem Dq:Ui "isinstance"=some (.builtin "isinstance"):=by first|rfl|decide +kernel
noncomputable def fD(T:String)(d:D):bG:=if top d then some (.bl (E8 T d))else none
noncomputable def iR(T:String)(f:FX):FX:=f1 (fD T) f
end
section
variable{X:Cx}{a:T6}{f:FX}{pos:Pos}
noncomputable def isNon:D->Bool
 |.non=>true
 |_=>false
noncomputable def Nx(d:D):bG:=some (.bl (isNon d))
noncomputable def K6(d:D):bG:=some (.bl (!isNon d))
noncomputable def MR(f:FX):FX:=f1 Nx f
noncomputable def Kv(f:FX):FX:=f1 K6 f
end
noncomputable def Walk(K:SH)(Hd:Hp)(J:It)(ds:List D):Prop:=
 ∀(Hn:Hp)(O':az)(i:Nat),dN Hn O'->aR Hd (hid Hn O')->(∀d,ds[i]?=some d->J.go i Hn/\∀x H2,J.yld i Hn x H2->aR Hn H2/\cu K (hid H2 O') d x)/\(i=ds.length->J.stop i Hn)
noncomputable def Ni(X:Cx)(G:bE):TI:=λσ H RR=>∃O ρ,dE X.K O H ρ σ/\gW X σ O H (G ρ) λds=>∀J H1,aR H H1->Walk X.K (hid H1 O) J ds->RR J H1
noncomputable def FI(X:Cx)(tg iter:T6)(G:bE):Prop:=PI X tg iter (Ni X G)
noncomputable def qJ:D->Option (List D)
 |.lst xs=>some xs
 |.tup xs=>some xs
 |_=>none
noncomputable def aG(f:FX):bE:=λρ=>(f ρ).bind λd=>rO (qJ d)
section
variable{X:Cx}{tg:T6}
theorem zR{K:SH}{Hd:Hp}{a:T5}{ds:List D}{vs:aJ}(h:md K Hd a vs)(g:aK K Hd ds vs):Walk K Hd (Mv K a) ds:=λHn O' i hO s=>
  have s':aR Hd Hn:=s.trans (aj Hn O')
  ⟨fun d e=>by
    obtain⟨v,ev,dv⟩:=g.get e;refine⟨⟨vs,v,s'.seq h,ev⟩,λx H2 ⟨e2,y⟩=>?_⟩;have q:=y vs (s'.seq h);rw[ev]at q;cases q;subst e2;exact⟨aR.refl _,dv.mono s⟩,
   λhl=>⟨vs,s'.seq h,by rw[<-g.length];exact P8 hl.symm⟩⟩
theorem BW{K:SH}{Hd:Hp}{a:T5}{ds:List D}{vs:aJ}(h:Hd a=some (.tup vs))(g:aK K Hd ds vs):Walk K Hd (Nj K a) ds:=λHn O' i hO s=>
  have s':aR Hd Hn:=s.trans (aj Hn O')
  ⟨fun d e=>by
    obtain⟨v,ev,dv⟩:=g.get e;refine⟨⟨vs,v,bJ s' h,ev⟩,λx H2 ⟨e2,y⟩=>?_⟩;have q:=y vs (bJ s' h);rw[ev]at q;cases q;subst e2;exact⟨aR.refl _,dv.mono s⟩,
   λhl=>⟨vs,bJ s' h,by rw[<-g.length];exact P8 hl.symm⟩⟩
noncomputable def eR(lo:Int)(n:Nat):List D:=(List.range n).map λ(k:Nat)=>D.int (lo+(k:Int))
theorem rg(lo:Int)(n:Nat):(eR lo n).length=n:=by unfold eR;rw[P7,QX]
theorem pY{K:SH}{Hd:Hp}(lo:Int)(n:Nat):Walk K Hd (KR lo n) (eR lo n):=λHn O' i hO s=>
  ⟨fun d e=>by
    unfold eR at e;rw[Qh]at e;cases hi:(List.range n)[i]? with
    |none=>rw[hi]at e;cases e
    |some k=>
      rw[hi]at e;cases e;have hlt:i<n:=by
        have:=(List.getElem?_eq_some_iff.mp hi).1
        rwa [QX]at this
      have ek:k=i:=by
        rw[Ra hlt]at hi;exact(Option.some.inj hi).symm
      subst ek;exact⟨hlt,λx H2 ⟨e1,e2⟩=>by subst e1;exact⟨aR.refl _,eF.mpr e2⟩⟩,
   λhl=>by rw[rg]at hl;exact P8 hl.symm⟩
noncomputable def okR(j:Int):Bool:=decide (-(2^62)<=j/\j<2^62)
noncomputable def lx:List D->Option (List D)
 |[.int j]=>if okR j then some (eR 0 j.toNat)else none
 |_=>none
noncomputable def pp:List D->Option (List D)
 |[.int i,.int j]=>if okR i&&okR j then some (eR i (j-i).toNat)else none
 |_=>none
noncomputable def eX(f:bE):bE:=λρ=>(f ρ).bind λds=>rO (lx ds)
noncomputable def o9(f:bE):bE:=λρ=>(f ρ).bind λds=>rO (pp ds)
end
noncomputable abbrev GF:=D->aq->Option aq
noncomputable def LU(K:SH)(g:GF):TG:=λv σ H Q=>∃O ρ d ρ',dE K O H ρ σ/\cu K (hid H O) d v/\g d ρ=some ρ'/\∀σ',dE K O H ρ' σ'->(∀(i:Nat) x,ρ'[i]?=some (some x)->(∀d,x≠.val d)->σ'[i]?=σ[i]?/\ρ[i]?=some (some x))->Q σ' H
noncomputable def FG(X:Cx)(tg:T6)(g:GF):Prop:=PG X tg (LU X.K g)
noncomputable def setV(i:Nat)(d:D)(ρ:aq):aq:=ρ.set i (some (.val d))
theorem aI{α:Type}{l:List α}{i j:Nat}{a b:α}(h:(l.set i a)[j]?=some b):(j=i/\b=a)\/(j≠i/\l[j]?=some b):=by
 by_cases e:j=i
 ·subst e;left;have hj:j<(l.set j a).length:=(List.getElem?_eq_some_iff.mp h).1;rw[List.length_set]at hj;rw[PP hj]at h;exact⟨rfl,(Option.some.inj h).symm⟩
 ·right;rw[PQ (Ne.symm e)]at h;exact⟨e,h⟩
theorem dE.setV{K:SH}{O:az}{H:Hp}{ρ:aq}{σ:St}(E:dE K O H ρ σ){i:Nat}{d:D}{v:V}(hi:i<σ.length)(hd:cu K (hid H O) d v):dE K O H (setV i d ρ) (σ.set i (some v)):=
  ⟨fun j d' e=>by
    rcases aI e with⟨hj,eq⟩|⟨ne,eq⟩
    ·cases eq;rw[hj];exact⟨v,PP hi,hd⟩
    · obtain⟨w,e1,e2⟩:=E.val j d' eq
      exact⟨w,by rw[PQ (Ne.symm ne)];exact e1,e2⟩,
   λj xs e=>by
    rcases aI e with⟨_,eq⟩|⟨ne,eq⟩
    ·cases eq
    · obtain⟨a,e1,e2⟩:=E.own j xs eq
      exact⟨a,by rw[PQ (Ne.symm ne)];exact e1,e2⟩,
   λj k xs ys a e1 e2 e3 e4=>by
    rcases aI e1 with⟨_,q1⟩|⟨ne1,q1⟩
    ·cases q1
    · rcases aI e2 with⟨_,q2⟩|⟨ne2,q2⟩
      ·cases q2
      · rw[PQ (Ne.symm ne1)]at e3
        rw[PQ (Ne.symm ne2)]at e4;exact E.one j k xs ys a q1 q2 e3 e4,E.all⟩
section
variable{X:Cx}{pos:Pos}
noncomputable def gN(i:Nat):GF:=λd ρ=>some (setV i d ρ)
noncomputable abbrev Ei:=List D->aq->Option aq
noncomputable def M4(K:SH)(g:Ei):Hl:=λvs σ H Q=>∃O ρ ds ρ',dE K O H ρ σ/\aK K (hid H O) ds vs/\g ds ρ=some ρ'/\∀σ',dE K O H ρ' σ'->(∀(i:Nat) x,ρ'[i]?=some (some x)->(∀d,x≠.val d)->σ'[i]?=σ[i]?/\ρ[i]?=some (some x))->Q σ' H
noncomputable def Pn(X:Cx)(ts:bx)(g:Ei):Prop:=LI X ts (M4 X.K g)
noncomputable def G7:Ei:=λds ρ=>match ds with
 |[]=>some ρ
 |_=>none
noncomputable def Bt(g:GF)(h:Ei):Ei:=λds ρ=>match ds with
 |d::r=>(g d ρ).bind λρ1=>h r ρ1
 |_=>none
noncomputable def gT(n:Nat)(g:Ei):GF:=λd ρ=>match d with
 |.tup xs=>if xs.length=n then g xs ρ else none
 |_=>none
end
noncomputable def xj{α:Type}(r:R α):R α:=match r with
 |.ok a=>.ok a
 |.error _=>un
theorem C2{α:Type}{r:R α}{a:α}(h:xj r=.ok a):r=.ok a:=by
 cases r with
 |ok b=>exact h
 |error z=>cases h
noncomputable def inB(ix:gH)(ρ:aq):aq:=ix.map λo=>match o with
 |some i=>match ρ[i]? with
  |some (some (.val d))=>some (.val d)
  |_=>none
 |none=>none
noncomputable def yx(ρ:aq)(g:GF)(C:bT)(Fe:FX):List D->R (List D)
 |[]=>.ok []
 |d::ds=>(rO (g d ρ)).bind λρ1=>(xj (C ρ1)).bind λc=>if c then(xj (Fe ρ1)).bind λv=>(yx ρ g C Fe ds).bind λr=>.ok (v::r)else yx ρ g C Fe ds
theorem j8(ρ:aq)(g:GF)(C:bT)(Fe:FX)(d:D)(ds:List D):yx ρ g C Fe (d::ds)=(rO (g d ρ)).bind λρ1=>(xj (C ρ1)).bind λc=>if c then(xj (Fe ρ1)).bind λv=>(yx ρ g C Fe ds).bind λr=>.ok (v::r)else yx ρ g C Fe ds:=rfl
noncomputable def dA(ix:gH)(G:bE)(g:GF)(C:bT)(Fe:FX):FX:=λρ=>(G ρ).bind λds=>if small ds.length then xj ((yx (inB ix ρ) g C Fe ds).bind λr=>.ok (.lst r))else un
noncomputable def N5(X:Cx)(ifs:bx)(F:bT):Prop:=JC X ifs (Mb X F)
noncomputable def bF:bT:=λ_=>.ok true
theorem mJ{ix:gH}{ρ:aq}{j:Nat}{x:S}(e:(inB ix ρ)[j]?=some (some x)):∃i d,ix[j]?=some (some i)/\ρ[i]?=some (some (.val d))/\x=.val d:=by
 unfold inB at e;rw[Qh]at e;cases q:ix[j]? with
 |none=>rw[q]at e;cases e
 |some o=>
  rw[q]at e;cases o with
  |none=>cases e
  |some i=>
   have e':(match ρ[i]? with|some (some (.val d))=>some (S.val d)|_=>none)=some x:=Option.some.inj e;split at e'
   ·rename_i d hd;cases e';exact⟨i,d,rfl,hd,rfl⟩
   ·cases e'
theorem EG{K:SH}{O:az}{H:Hp}{ρ:aq}{σ:St}(ix:gH)(E:dE K O H ρ σ):dE K O H (inB ix ρ) (inBlock ix σ):=by
 refine⟨λj d e=>?_,λj xs e=>?_,λj k xs ys a e=>?_,E.all⟩
 ·obtain⟨i,d',q1,q2,q3⟩:=mJ e;cases q3;obtain⟨v,e1,e2⟩:=E.val i d q2;refine⟨v,?_,e2⟩;unfold inBlock;rw[Qh,q1];show some ((σ[i]?).getD none)=some (some v);rw[e1];rfl
 ·obtain⟨_,_,_,_,q3⟩:=mJ e;cases q3
 ·obtain⟨_,_,_,_,q3⟩:=mJ e;cases q3
theorem mC{H:Hp}{O:az}{p:T5}{o:HO}(hp:H p=none):aR (hid H O) (hid (upd H p o) (p::O)):=λb u h=>by
 unfold hid at h ⊢;by_cases hb:b∈O
 ·rw[if_pos hb]at h;cases h
 ·rw[if_neg hb]at h;have ne:=aE h hp;rw[if_neg (by intro z;rcases List.mem_cons.mp z with z|z;exact ne z;exact hb z),ao ne];exact h
theorem dE.hideNew{K:SH}{O:az}{H:Hp}{ρ:aq}{σ:St}{p:T5}{o:HO}(m:oV o)(E:dE K O H ρ σ)(hp:H p=none):dE K (p::O) (upd H p o) ρ σ:=by
 have s:aR (hid H O) (hid (upd H p o) (p::O)):=mC hp;refine⟨λi d e=>let ⟨v,a,b⟩:=E.val i d e;⟨v,a,b.mono s⟩,λi xs e=>?_,E.one,(E.all.same (bj hp o)).cons ay m⟩;obtain⟨a,e1,e2,e3⟩:=E.own i xs e;obtain⟨u,hu⟩:=e3.some;exact⟨a,e1,PL _ e2,e3.mono (by rw[ao (aE hu hp)]) s⟩
theorem dE.rewrite{K:SH}{O:az}{H:Hp}{ρ:aq}{σ:St}{p:T5}{o:HO}(m:oV o)(E:dE K O H ρ σ)(hp:p∈O)(hs:∀(i:Nat) xs,ρ[i]?=some (some (.own xs))->σ[i]?≠some (some (.ref p))):dE K O (upd H p o) ρ σ:=by
 have s:aR (hid H O) (hid (upd H p o) O):=eM hp;refine⟨λi d e=>let ⟨v,a,b⟩:=E.val i d e;⟨v,a,b.mono s⟩,λi xs e=>?_,E.one,E.all.upd hp m⟩;obtain⟨a,e1,e2,e3⟩:=E.own i xs e;have ne:a≠p:=λz=>hs i xs e (by rw[<-z];exact e1);exact⟨a,e1,e2,e3.mono (by rw[ao ne]) s⟩
theorem dE.forget{K:SH}{O:az}{H:Hp}{ρ ρ':aq}{σ:St}(E:dE K O H ρ σ)(h:∀(i:Nat) x,ρ'[i]?=some (some x)->ρ[i]?=some (some x)):dE K O H ρ' σ:=
 ⟨λi d e=>E.val i d (h i _ e),λi xs e=>E.own i xs (h i _ e),λi j xs ys a e1 e2=>E.one i j xs ys a (h i _ e1) (h j _ e2),E.all⟩
noncomputable def Fills(ρ:aq)(g:GF):Prop:=∀d ρ1,g d ρ=some ρ1->∀(i:Nat) x,ρ[i]?=some (some x)->ρ1[i]?=some (some x)
theorem sM(ix:gH)(ρ:aq):∀(i:Nat) xs,(inB ix ρ)[i]?≠some (some (.own xs)):=by
 intro j xs e;obtain⟨_,_,_,_,q3⟩:=mJ e;cases q3
theorem Kn{α:Type}{o:Option α}{a:α}(h:rO o=.ok a):o=some a:=by
 cases o with
 |none=>cases h
 |some b=>cases h;rfl
end TG
namespace TG
open PySem PySem.Spec L2
variable[aB]
section
variable{X:Cx}{elt tg iter:T6}{ifs:bx}{scope:Uk}{pos:Pos}{N:ax}{ix:gH}{G:bE}{g:GF}{C:bT}{Fe:FX}
structure oT(ix:gH)(g:GF):Prop where
 fill:∀ρ,Fills (inB ix ρ) g
 own:∀ρ d ρ1,g d (inB ix ρ)=some ρ1->∀(i:Nat) xs,ρ1[i]?≠some (some (.own xs))
theorem ww{ρ:aq}{i:Nat}(h:ix[i]?=some none):∀x,(inB ix ρ)[i]?≠some (some x):=λx e=>by
 obtain⟨_,_,q,_⟩:=mJ e;rw[h]at q;cases q
theorem kF{i:Nat}(h:ix[i]?=some none):oT ix (gN i):=
  ⟨fun ρ d ρ1 e j x q=>by
    cases e;by_cases z:j=i
    ·subst z;exact absurd q (ww h x)
    ·unfold setV;rw[PQ (Ne.symm z)];exact q,
   λρ d ρ1 e j xs q=>by
    cases e;rcases aI q with⟨_,z⟩|⟨_,z⟩
    ·cases z
    ·exact sM ix ρ j xs z⟩
noncomputable def Gx(ix:gH)(is:List Nat):Bool:=is.all λi=>match ix[i]? with
 |some none=>true
 |_=>false
noncomputable def jR:List Nat->Ei
 |[]=>G7
 |i::is=>Bt (gN i) (jR is)
theorem yZ:∀(is:List Nat)(ds:List D)(ρ ρ1:aq),jR is ds ρ=some ρ1->∀(k:Nat)(x:S),ρ1[k]?=some (some x)->(k∈is/\∃d,x=.val d)\/ρ[k]?=some (some x)
 |[],ds,ρ,ρ1,h,k,x,e=>by
  cases ds with
  |nil=>cases h;exact .inr e
  |cons _ _=>cases h
 |i::is,ds,ρ,ρ1,h,k,x,e=>by
  cases ds with
  |nil=>cases h
  |cons d ds=>
   rcases yZ is ds (setV i d ρ) ρ1 h k x e with⟨a,b⟩|q
   ·exact .inl ⟨PL _ a,b⟩
   ·rcases aI q with⟨z,w⟩|⟨_,w⟩
    ·exact .inl ⟨by rw[z];exact PJ,d,Option.some.inj w⟩
    ·exact .inr w
theorem vq:∀(is:List Nat)(ds:List D)(ρ ρ1:aq),jR is ds ρ=some ρ1->∀(k:Nat)(x:S),k∉is->ρ[k]?=some (some x)->ρ1[k]?=some (some x)
 |[],ds,ρ,ρ1,h,k,x,_,e=>by
  cases ds with
  |nil=>cases h;exact e
  |cons _ _=>cases h
 |i::is,ds,ρ,ρ1,h,k,x,n,e=>by
  cases ds with
  |nil=>cases h
  |cons d ds=>
   refine vq is ds (setV i d ρ) ρ1 h k x (λz=>n (PL _ z)) ?_;unfold setV;rw[PQ (λz=>n (by rw[z];exact PJ))];exact e
theorem jF{is:List Nat}{n:Nat}(h:Gx ix is=true):oT ix (gT n (jR is)):=by
 have hn:∀i∈is,ix[i]?=some none:=λi hi=>by
  have:=List.all_eq_true.mp h i hi
  cases e:ix[i]? with
  |none=>rw[e]at this;cases this
  |some o=>cases o with
   |none=>rfl
   |some _=>rw[e]at this;cases this
 have shape:∀ρ d ρ1,gT n (jR is) d ρ=some ρ1->∃ds,jR is ds ρ=some ρ1:=λρ d ρ1 e=>by
  cases d with
  |tup xs=>
   have e':(if xs.length=n then jR is xs ρ else none)=some ρ1:=e;by_cases hl:xs.length=n
   ·rw[if_pos hl]at e';exact⟨xs,e'⟩
   ·rw[if_neg hl]at e';cases e'
  |_=>cases e
 refine⟨λρ d ρ1 e k x q=>?_,λρ d ρ1 e k xs q=>?_⟩
 ·obtain⟨ds,e⟩:=shape _ d ρ1 e;exact vq is ds _ ρ1 e k x (λz=>ww (hn k z) x q) q
 ·obtain⟨ds,e⟩:=shape _ d ρ1 e;rcases yZ is ds _ ρ1 e k _ q with⟨_,d,z⟩|z
  ·cases z
  ·exact sM ix ρ k xs z
structure mQ(X:Cx)(scope:Uk)(N:ax)(ix:gH):Prop where
 cell:∀y∈scope.names,y.2≠.cell
 kind:scope.kind=.function
 names:∀y∈scope.names,y.2=.local->scope.names.lookup y.1=some .local
 free:∀y∈scope.names,y.2=.free->X.env.scope.names.lookup y.1=some .cell\/X.env.scope.names.lookup y.1=some .free
 ix:uy X.N N scope.names ix=true
noncomputable def kH(XS:pN)(XN:ax)(scope:Uk)(N:ax)(ix:gH):Bool:=
 scope.names.all (λy=>decide (y.2≠.cell))&&decide (scope.kind=.function)&&scope.names.all (λy=>decide (y.2≠.local)||decide (scope.names.lookup y.1=some .local)) &&
  scope.names.all (λy=>decide (y.2≠.free)||(decide (XS.lookup y.1=some .cell)||decide (XS.lookup y.1=some .free)))&&uy XN N scope.names ix
theorem mQ.of(h:kH X.env.scope.names X.N scope N ix=true):mQ X scope N ix:=by
 unfold kH at h;simp only[Qm]at h;obtain⟨⟨⟨⟨h1,h2⟩,h3⟩,h4⟩,h5⟩:=h;refine⟨λy hy=>of_decide_eq_true (List.all_eq_true.mp h1 y hy),of_decide_eq_true h2,λy hy e=>?_,λy hy e=>?_,h5⟩
 ·rcases QR _ _ ▸ List.all_eq_true.mp h3 y hy with q|q
  ·exact absurd e (of_decide_eq_true q)
  ·exact of_decide_eq_true q
 ·rcases QR _ _ ▸ List.all_eq_true.mp h4 y hy with q|q
  ·exact absurd e (of_decide_eq_true q)
  ·rcases QR _ _ ▸ q with q|q
   ·exact .inl (of_decide_eq_true q)
   ·exact .inr (of_decide_eq_true q)
noncomputable def N6(X:Cx)(scope:Uk)(N:ax)(tg elt:T6)(ifs:bx)(g:GF)(C:bT)(Fe:FX):Prop:=
 ∀cl C' fp s H E,FG (cq X scope N cl C' fp s H E) tg g/\N5 (cq X scope N cl C' fp s H E) ifs C/\FE (cq X scope N cl C' fp s H E) elt Fe
noncomputable def Ja(K:SH)(F:bT):TT:=λσ H Q=>∃O ρ b,dE K O H ρ σ/\F ρ=.ok b/\∀H',aR H H'->Q b H'
noncomputable def Nu(K:SH)(F:FX):TE:=λσ H Q=>∃O ρ d,dE K O H ρ σ/\F ρ=.ok d/\∀v H',aR H H'->cu K (hid H' O) d v->Q v H'
theorem N6.k(hb:N6 X scope N tg elt ifs g C Fe):∀cl C' fp s H E,PG (cq X scope N cl C' fp s H E) tg (LU X.K g)/\JC (cq X scope N cl C' fp s H E) ifs (Ja X.K C)/\PE (cq X scope N cl C' fp s H E) elt (Nu X.K Fe):=λcl C' fp s H E=>by
 obtain⟨h1,h2,h3⟩:=hb cl C' fp s H E;refine⟨h1,λpins s σ H Q I ⟨O,ρ,b,e1,e2,q⟩=>h2 pins s σ H Q I ⟨O,ρ,e1,by rw[e2];exact q⟩,λpins s σ H Q I ⟨O,ρ,d,e1,e2,q⟩=>h3 pins s σ H Q I ⟨O,ρ,e1,by rw[e2];exact q⟩⟩
noncomputable def MV(X:Cx)(F:FX):TE:=λσ H Q=>∃O ρ,dE X.K O H ρ σ/\gW X σ O H (F ρ) λd=>∀D H' total acc,d=.lst total->aR H H'->H D=none->H' D=some (.lst acc)->aK X.K (hid H' (D::O)) total acc->Q (.ref D) H'
theorem M1{F:FX}:∀σ H Q,tF X F σ H Q->MV X F σ H Q:=λσ H Q ⟨O,ρ,E,hF⟩=>⟨O,ρ,E,hF.imp λd q D H' total acc e sm hD hD' dn=>by
 subst e;have DO:D∉O:=E.all.not hD;exact q _ H' sm (bX.mpr ⟨D,acc,rfl,md.of (by rw[gJ DO];exact hD'),dn.mono (fw λa ha=>PL _ ha)⟩)⟩
theorem D4(tk:oT ix g):∀σ H Q,MV X (dA ix G g C Fe) σ H Q->LW (Ni X G) (LU X.K g) (Ja X.K C) (Nu X.K Fe) ix σ H Q:=λσ H Q ⟨O,ρ,E,hF⟩=>by
 refine⟨O,ρ,E,(gW.bind hF).imp λds hF=>?_⟩;have hz:small ds.length=true:=by
  cases e:small ds.length with
  |true=>rfl
  |false=>rw[e]at hF;exact hF.elim
 rw[hz,if_pos rfl]at hF;cases hL:yx (inB ix ρ) g C Fe ds with
 |error z=>rw[hL]at hF;exact hF.elim
 |ok total=>
 rw[hL]at hF;have q:∀D H' total' acc,TG.D.lst total=.lst total'->aR H H'->H D=none->H' D=some (.lst acc)->aK X.K (hid H' (D::O)) total' acc->Q (.ref D) H':=hF;have e2:=hL;have hfill:=tk.fill;have hown:=tk.own;refine λJ H1 s1 wk D hD=>?_;have E1:dE X.K (D::O) (upd H1 D (.lst [])) (inB ix ρ) (inBlock ix σ):=((EG ix E).same s1).hideNew trivial hD;have DO:D∉O:=(E.all.same s1).not hD;refine⟨λi m σ' H'=>m=ds.length-i/\i<=ds.length/\aR H1 H'/\dE X.K (D::O) H' (inB ix ρ) σ'/\∃acc dn rest,H' D=some (.lst acc)/\acc.length<=i/\aK X.K (hid H' (D::O)) dn acc/\yx (inB ix ρ) g C Fe (ds.drop i)=.ok rest/\dn++rest=total,
  ⟨ds.length,by rw[QZ],P9 _,bj hD _,E1,[],[],total,ay,PX _,cn.mpr rfl,by rw[QJ];exact e2,rfl⟩,?_⟩
 rintro i m σ' H' ⟨rfl,hi,sm,E',acc,dn,rest,hacc,hlen,hdn,hrest,htot⟩;have sH:aR (hid H1 O) (hid H' (D::O)):=λb o h=>by
  have h2:=sm b o (aj H1 O b o h);unfold hid at h ⊢;by_cases hb:b∈O
  ·rw[if_pos hb]at h;cases h
  ·rw[if_neg hb]at h;have ne:b≠D:=aE h hD;rw[if_neg (by intro z;rcases List.mem_cons.mp z with z|z;exact ne z;exact hb z)];exact h2
 by_cases hlt:i<ds.length
 ·right;obtain⟨go,yl⟩:=(wk H' (D::O) i E'.all sH).1 ds[i] (by simp[hlt]);refine⟨go,λx H2 y=>?_⟩;obtain⟨s2,dx'⟩:=yl x H2 y;have E':=E'.same s2;have sm:=sm.trans s2;have hacc:=s2 _ _ hacc;have hdn:=hdn.mono (bq s2);rw[Rb hlt,j8]at hrest;obtain⟨ρ1,g1,hrest⟩:=o4 hrest;have g1:=Kn g1;obtain⟨c,c1,hrest⟩:=o4 hrest;have c1:=C2 c1;refine⟨D::O,inB ix ρ,ds[i],ρ1,E',dx',g1,λσ3 E3 _=>?_⟩;refine⟨D::O,ρ1,c,E3,c1,λH4 s4=>?_⟩;have E4:=E3.same s4;have back:∀{H5:Hp},dE X.K (D::O) H5 ρ1 σ3->dE X.K (D::O) H5 (inB ix ρ) σ3:=λz=>z.forget λj x e=>hfill ρ _ _ g1 j x e;cases c with
  |true=>
   refine wf ?_;rw[if_pos rfl]at hrest;obtain⟨v,v1,hrest⟩:=o4 hrest;have v1:=C2 v1;obtain⟨r,r1,hrest⟩:=o4 hrest;cases hrest;refine⟨D::O,ρ1,v,E4,v1,λw H5 s5 dw=>?_⟩;have s45:=s4.trans s5;have ha5:H5 D=some (.lst acc):=s45 _ _ hacc;have hzl:ds.length<Ud:=Rc (of_decide_eq_true hz) (by decide);refine⟨acc,ha5,by omega,ds.length-(i+1),by omega,rfl,hlt,?_,?_,acc++[w],dn++[v],r,ay,by rw[Qj,Qo];omega,?_,r1,by rw[Rf];exact htot⟩
   ·intro b o h;rw[ao (aE h hD)];exact s45 _ _ (sm _ _ h)
   ·exact back ((E3.same s45).rewrite trivial PJ λj xs e=>absurd e (hown ρ _ _ g1 j xs))
   ·have s6:aR (hid H5 (D::O)) (hid (upd H5 D (.lst (acc++[w]))) (D::O)):=eM PJ;exact(hdn.mono ((bq s45).trans s6)).snoc (dw.mono s6)
  |false=>
   refine uT ?_;rw[if_neg P4]at hrest;exact⟨ds.length-(i+1),by omega,rfl,hlt,sm.trans s4,back E4,acc,dn,rest,s4 _ _ hacc,by omega,hdn.mono (bq s4),hrest,htot⟩
 ·left;have ei:i=ds.length:=by omega
  subst ei;refine⟨(wk H' (D::O) ds.length E'.all sH).2 rfl,?_⟩;rw[Rg]at hrest;cases hrest;rw[Qa]at htot;subst htot;exact q D H' _ acc rfl (s1.trans sm) (s1.free hD) hacc hdn
theorem HA(tk:oT ix g):∀σ H Q,tF X (dA ix G g C Fe) σ H Q->LW (Ni X G) (LU X.K g) (Ja X.K C) (Nu X.K Fe) ix σ H Q:=λσ H Q h=>D4 tk σ H Q (M1 σ H Q h)
end
structure Ks where
 nx:aq->R D
 bk:aq->R D:=λ_=>un
 ct:aq->R D:=λ_=>un
 ex:Ex->aq->R D:=λx _=>.error (some x)
noncomputable abbrev bH:=Ks->aq->R D
noncomputable def o7{α:Type}(r:R α)(k:Ks)(ρ:aq)(f:α->R D):R D:=match r with
 |.ok a=>f a
 |.error (some x)=>k.ex x ρ
 |.error none=>un
structure Base(Hb:Hp)(Ob:az)(H:Hp)(O:az):Prop where
 same:aR Hb H
 sub:∀a∈Ob,a∈O
 new:∀a∈O,a∈Ob\/Hb a=none
noncomputable def jj(K:SH)(H:Hp)(O:az):az->List D->Prop
 |[],[]=>True
 |b::bs,x::xs=>cD K H O b x/\jj K H O bs xs
 |_,_=>False
noncomputable def qN(K:SH)(H:Hp)(O:az)(a:T5)(bs:az)(d:D):Prop:=
 ∃xs,jj K H O bs xs/\((d=.lst xs/\H a=some (.lst (bs.map .ref)))\/(∃kvs:List (List Key×V),d=.dct (kvs.map λp=>.tup (p.1.map bg)) xs/\H a=some (.dT kvs)/\kvs.map (·.2)=bs.map .ref)\/(d=.dct [] xs/\bs=[]/\H a=some (.dK [])))
noncomputable def y8(K:SH)(Hb:Hp)(Ob O:az)(H:Hp)(ρ:aq)(σ:St)(i:Nat)(d:D):Prop:=
 ∃a bs,σ[i]?=some (some (.ref a))/\qN K H O a bs d/\(a::bs).Nodup/\(∀b∈a::bs,b∈O/\Hb b=none/\b∉Ob/\∀(j:Nat) d',ρ[j]?=some (some (.own d'))->σ[j]?≠some (some (.ref b)))/\∀(j:Nat) d',ρ[j]?=some (some (.nest d'))->j=i
theorem jj.mono{K:SH}{H H':Hp}{O O':az}(s:aR (hid H O) (hid H' O')):∀{bs:az}{xs:List D},jj K H O bs xs->(∀b∈bs,(∃o,H b=some o)->H' b=H b)->jj K H' O' bs xs
 |[],[],_,_=>trivial
 |b::bs,x::xs,h,e=>⟨h.1.mono (e b PJ h.1.some).symm s,jj.mono s h.2 λb' hb=>e b' (PL _ hb)⟩
 |[],_::_,h,_=>h.elim
 |_::_,[],h,_=>h.elim
theorem jj.some{K:SH}{H:Hp}{O:az}:∀{bs:az}{xs:List D},jj K H O bs xs->∀b∈bs,∃o,H b=some o
 |[],_,_,_,hb=>nomatch hb
 |b::bs,x::xs,h,b',hb=>by
  rcases List.mem_cons.mp hb with z|z
  ·rw[z];exact h.1.some
  ·exact jj.some h.2 b' z
 |_::_,[],h,_,_=>h.elim
theorem qN.some{K:SH}{H:Hp}{O:az}{a:T5}{bs:az}{d:D}(h:qN K H O a bs d):∀b∈a::bs,∃o,H b=some o:=λb hb=>by
 obtain⟨xs,h1,h2⟩:=h;rcases List.mem_cons.mp hb with z|z
 ·rw[z];rcases h2 with⟨_,q⟩|⟨_,_,q,_⟩|⟨_,_,q⟩<;>exact⟨_,q⟩
 ·exact h1.some b z
theorem qN.mono{K:SH}{H H':Hp}{O O':az}{a:T5}{bs:az}{d:D}(h:qN K H O a bs d)(s:aR (hid H O) (hid H' O'))(e:∀b∈a::bs,(∃o,H b=Option.some o)->H' b=H b):qN K H' O' a bs d:=by
 have ea:=e a PJ (h.some a PJ);obtain⟨xs,h1,h2⟩:=h;refine⟨xs,h1.mono s λb hb=>e b (PL _ hb),?_⟩;rw[ea];exact h2
theorem y8.to{K:SH}{Hb Hb':Hp}{Ob O O':az}{H H':Hp}{ρ ρ':aq}{σ σ':St}{i:Nat}{d:D}(h:y8 K Hb Ob O H ρ σ i d)(hσ:σ'[i]?=σ[i]?)(s:aR (hid H O) (hid H' O'))
  (k:∀b,b∈O->Hb b=none->b∉Ob->(∀(j:Nat) d',ρ[j]?=some (some (.own d'))->σ[j]?≠some (some (.ref b)))->(∃o,H b=some o)->H' b=H b/\b∈O'/\Hb' b=none/\∀(j:Nat) d',ρ'[j]?=some (some (.own d'))->σ'[j]?≠some (some (.ref b)))
  (n:∀(j:Nat) d',ρ'[j]?=some (some (.nest d'))->∃d2,ρ[j]?=some (some (.nest d2))):y8 K Hb' Ob O' H' ρ' σ' i d:=by
 obtain⟨a,bs,h1,h2,h3,h4,h5⟩:=h;refine⟨a,bs,hσ.trans h1,h2.mono s λb hb ho=>?_,h3,λb hb=>?_,λj d' q=>?_⟩
 ·obtain⟨q1,q2,q3,q4⟩:=h4 b hb;exact(k b q1 q2 q3 q4 ho).1
 ·obtain⟨q1,q2,q3,q4⟩:=h4 b hb;obtain⟨_,w2,w3,w4⟩:=k b q1 q2 q3 q4 (h2.some b hb);exact⟨w2,w3,q3,w4⟩
 ·obtain⟨d2,q⟩:=n j d' q;exact h5 j d2 q
structure cY(K:SH)(Hb:Hp)(Ob O:az)(H:Hp)(ρ:aq)(σ:St):Prop where
 env:dE K O H ρ σ
 base:Base Hb Ob H O
 mine:∀(i:Nat) xs a,ρ[i]?=some (some (.own xs))->σ[i]?=some (some (.ref a))->Hb a=none/\a∉Ob
 nst:∀(i:Nat) d,ρ[i]?=some (some (.nest d))->y8 K Hb Ob O H ρ σ i d
theorem Base.same'{Hb:Hp}{Ob:az}{H H':Hp}{O:az}(b:Base Hb Ob H O)(s:aR H H'):Base Hb Ob H' O:=⟨b.same.trans s,b.sub,b.new⟩
theorem cY.same{K:SH}{Hb:Hp}{Ob O:az}{H H':Hp}{ρ:aq}{σ:St}(h:cY K Hb Ob O H ρ σ)(s:aR H H'):cY K Hb Ob O H' ρ σ:=⟨h.env.same s,h.base.same' s,h.mine,λi d q=>(h.nst i d q).to rfl (bq s) (λb q1 q2 q3 q4 ⟨o,ho⟩=>⟨by rw[ho,s _ _ ho],q1,q2,q4⟩) λj d' z=>⟨d',z⟩⟩
theorem cY.after{K:SH}{Hb:Hp}{Ob O:az}{H:Hp}{ρ ρ':aq}{σ σ':St}(S:cY K Hb Ob O H ρ σ)(E':dE K O H ρ' σ')(own:∀(i:Nat) x,ρ'[i]?=some (some x)->(∀d,x≠.val d)->σ'[i]?=σ[i]?/\ρ[i]?=some (some x)):cY K Hb Ob O H ρ' σ':=
 ⟨E',S.base,fun i xs a q1 q2=>by
  obtain⟨w1,w2⟩:=own i _ q1 (λ_ z=>nomatch z);rw[w1]at q2;exact S.mine i xs a w2 q2,λi d q=>by
  obtain⟨w1,w2⟩:=own i _ q (λ_ z=>nomatch z);refine(S.nst i d w2).to w1 (λ_ _ z=>z) (λb q1 q2 q3 q4 _=>⟨rfl,q1,q2,λl d' w=>?_⟩) λl d' w=>⟨d',(own l _ w (λ_ z=>nomatch z)).2⟩
  obtain⟨z1,z2⟩:=own l _ w (λ_ z=>nomatch z);rw[z1];exact q4 l d' z2⟩
structure L9(X:Cx)(Hb:Hp)(Ob:az)(E:Ends)(k:Ks)(r:R D):Prop where
 ne:r≠un
 nx:∀O ρ σ H,cY X.K Hb Ob O H ρ σ->k.nx ρ=r->E.nx σ H
 bk:∀O ρ σ H,cY X.K Hb Ob O H ρ σ->k.bk ρ=r->E.bk σ H
 ct:∀O ρ σ H,cY X.K Hb Ob O H ρ σ->k.ct ρ=r->E.ct σ H
 rt:∀d O v H,r=.ok d->Base Hb Ob H O->cu X.K (hid H O) d v->E.rt v H
 ex:∀O ρ σ H x,cY X.K Hb Ob O H ρ σ->k.ex x ρ=r->J3 X σ O H x
noncomputable def Mq(X:Cx)(Hb:Hp)(Ob:az)(F:bH):TS:=λE σ H=>∃O ρ k r,cY X.K Hb Ob O H ρ σ/\F k ρ=r/\L9 X Hb Ob E k r
noncomputable def FS(X:Cx)(st:T7)(F:bH):Prop:=∀Hb Ob,PS X st (Mq X Hb Ob F)
noncomputable def MS(X:Cx)(st:eJ)(F:bH):Prop:=∀Hb Ob,wy X st (Mq X Hb Ob F)
theorem gW.on{X:Cx}{Hb:Hp}{Ob O:az}{H:Hp}{ρ:aq}{σ:St}{E:Ends}{k:Ks}{r:R D}{α:Type}{fr:R α}{G:α->R D}{Q:α->Prop}(h:o7 fr k ρ G=r)(hk:L9 X Hb Ob E k r)(S:cY X.K Hb Ob O H ρ σ)(q:∀a,G a=r->Q a):gW X σ O H fr Q:=by
 match fr,h with
 |.ok a,h=>exact q a h
 |.error (some x),h=>exact hk.ex O ρ σ H x S h
 |.error none,h=>exact absurd h.symm hk.ne
section
variable{X:Cx}{st:T7}{rest body:eJ}{pos:Pos}
noncomputable def bC:bH:=λk ρ=>k.nx ρ
noncomputable def ai(F1 F2:bH):bH:=λk ρ=>F1 {k with nx:=F2 k} ρ
noncomputable def aN(f:FX):bH:=λk ρ=>o7 (f ρ) k ρ .ok
noncomputable def KY:bH:=λ_ _=>.ok .non
noncomputable def fF(c:bT)(A B:bH):bH:=λk ρ=>o7 (c ρ) k ρ λb=>if b then A k ρ else B k ρ
noncomputable def aM(i:Nat)(f:FX):bH:=λk ρ=>o7 (f ρ) k ρ λd=>k.nx (setV i d ρ)
theorem cY.setV{K:SH}{Hb:Hp}{Ob O:az}{H:Hp}{ρ:aq}{σ:St}(E:cY K Hb Ob O H ρ σ){i:Nat}{d:D}{v:V}(hi:i<σ.length)(hd:cu K (hid H O) d v):cY K Hb Ob O H (setV i d ρ) (σ.set i (some v)):=
  ⟨E.env.setV hi hd,E.base,fun j xs a e1 e2=>by
    rcases aI e1 with⟨_,q⟩|⟨ne,q⟩
    ·cases q
    · rw[PQ (Ne.symm ne)]at e2
      exact E.mine j xs a q e2,
   λj dn e=>by
    rcases aI e with⟨_,q⟩|⟨ne,q⟩
    ·cases q
    · refine(E.nst j dn q).to (PQ (Ne.symm ne)) (λ_ _ z=>z) (λb q1 q2 q3 q4 _=>⟨rfl,q1,q2,λl d' w=>?_⟩) λl d' w=>?_
      · rcases aI w with⟨_,z⟩|⟨nl,z⟩
        ·cases z
        ·rw[PQ (Ne.symm nl)];exact q4 l d' z
      · rcases aI w with⟨_,z⟩|⟨_,z⟩
        ·cases z
        ·exact⟨d',z⟩⟩
theorem sS{f:FX}{i:Nat}(hi:i<X.N.length)(h:PS X st (Bq (tF X f) (tR i))):FS X st (aM i f):=λHb Ob pins s σ H E I ⟨O,ρ,k,r,S,hF,hk⟩=>
 h pins s σ H E I ⟨O,ρ,S.env,gW.on hF hk S λd e v H1 s1 d1=>hk.nx O _ _ H1 ((S.same s1).setV (by rw[I.len];exact hi) d1) e⟩
noncomputable def Fq(f:FX)(g:GF):bH:=λk ρ=>o7 (f ρ) k ρ λd=>(rO (g d ρ)).bind k.nx
noncomputable def lJ:bH:=λ_ _=>un
noncomputable def kill(is:List Nat)(ρ:aq):aq:=is.foldl (λρ i=>ρ.set i none) ρ
theorem jo:∀(is:List Nat)(ρ:aq)(i:Nat)(x:S),(kill is ρ)[i]?=some (some x)->ρ[i]?=some (some x)
 |[],ρ,i,x,e=>e
 |j::is,ρ,i,x,e=>by
  rcases aI (jo is (ρ.set j none) i x e)with⟨_,q⟩|⟨_,q⟩
  ·cases q
  ·exact q
theorem cY.kill{K:SH}{Hb:Hp}{Ob O:az}{H:Hp}{ρ:aq}{σ:St}(E:cY K Hb Ob O H ρ σ)(is:List Nat):cY K Hb Ob O H (kill is ρ) σ:=
 ⟨E.env.forget (jo is ρ),E.base,λi xs a e1 e2=>E.mine i xs a (jo is ρ i _ e1) e2,λi d q=>(E.nst i d (jo is ρ i _ q)).to rfl (λ_ _ z=>z) (λb q1 q2 q3 q4 _=>⟨rfl,q1,q2,λl d' w=>q4 l d' (jo is ρ l _ w)⟩) λl d' w=>⟨d',jo is ρ l _ w⟩⟩
noncomputable def dC(is:List Nat)(F:bH):bH:=λk ρ=>F k (kill is ρ)
end
noncomputable def iu(g:GF)(B:bH)(k:Ks):List D->aq->R D
 |[],ρ=>k.nx ρ
 |d::ds,ρ=>(rO (g d ρ)).bind λρ1=>B ⟨iu g B k ds,k.nx,iu g B k ds,k.ex⟩ ρ1
noncomputable def iE(G:bE)(g:GF)(B:bH):bH:=λk ρ=>o7 (G ρ) k ρ λds=>iu g B k ds ρ
noncomputable def lb(H:Hp)(O Ob:az):Hp:=λb=>if b∈O/\b∉Ob then none else H b
theorem uk{H:Hp}{O Ob:az}{b:T5}(h1:b∈O)(h2:b∉Ob):lb H O Ob b=none:=by unfold lb;rw[if_pos ⟨h1,h2⟩]
theorem FV{H:Hp}{O Ob:az}{b:T5}{o:HO}(h:lb H O Ob b=some o):H b=some o/\¬(b∈O/\b∉Ob):=by
 unfold lb at h;split at h
 ·cases h
 ·rename_i n;exact⟨h,n⟩
theorem Bp{H:Hp}{O Ob:az}{b:T5}{o:HO}(h:H b=some o)(n:¬(b∈O/\b∉Ob)):lb H O Ob b=some o:=by unfold lb;rw[if_neg n];exact h
theorem Base.loop{Hb:Hp}{Ob:az}{H:Hp}{O:az}(b:Base Hb Ob H O):Base (lb H O Ob) Ob H O:=
 ⟨fun c o h=>(FV h).1,b.sub,fun a ha=>by
  by_cases h:a∈Ob
  ·exact .inl h
  ·exact .inr (uk ha h)⟩
theorem Base.back{Hb:Hp}{Ob:az}{H H':Hp}{O O':az}(b:Base Hb Ob H O)(b':Base (lb H O Ob) Ob H' O'):Base Hb Ob H' O':=by
 have up:aR Hb (lb H O Ob):=λc o h=>Bp (b.same c o h) λ⟨z1,z2⟩=>by
  rcases b.new c z1 with z|z
  ·exact z2 z
  ·rw[z]at h;cases h
 exact⟨up.trans b'.same,b'.sub,λa ha=>(b'.new a ha).imp id up.free⟩
theorem cY.loop{K:SH}{Hb:Hp}{Ob O:az}{H:Hp}{ρ:aq}{σ:St}(E:cY K Hb Ob O H ρ σ):cY K (lb H O Ob) Ob O H ρ σ:=
 ⟨E.env,E.base.loop,fun i xs a e1 e2=>by
  obtain⟨_,n⟩:=E.mine i xs a e1 e2;obtain⟨a',e3,e4,_⟩:=E.env.own i xs e1;rw[e2]at e3;cases e3;exact⟨uk e4 n,n⟩,λi d q=>(E.nst i d q).to rfl (λ_ _ z=>z) (λb q1 q2 q3 q4 _=>⟨rfl,q1,uk q1 q3,q4⟩) λl d' w=>⟨d',w⟩⟩
theorem cY.back{K:SH}{Hb:Hp}{Ob O O':az}{H H':Hp}{ρ':aq}{σ':St}(b:Base Hb Ob H O)(E:cY K (lb H O Ob) Ob O' H' ρ' σ'):cY K Hb Ob O' H' ρ' σ':=
 have up:aR Hb (lb H O Ob):=λc o h=>Bp (b.same c o h) λ⟨z1,z2⟩=>by
  rcases b.new c z1 with z|z
  ·exact z2 z
  ·rw[z]at h;cases h
 ⟨E.env,b.back E.base,fun i xs a e1 e2=>by
  obtain⟨z,n⟩:=E.mine i xs a e1 e2;exact⟨up.free z,n⟩,λi d q=>(E.nst i d q).to rfl (λ_ _ z=>z) (λb q1 q2 q3 q4 _=>⟨rfl,q1,up.free q2,q4⟩) λl d' w=>⟨d',w⟩⟩
theorem Dc{Hb:Hp}{Ob O O':az}{H H':Hp}(b:Base Hb Ob H O)(b':Base (lb H O Ob) Ob H' O'):aR (hid H O) (hid H' O'):=λc o h=>by
 unfold hid at h ⊢;by_cases hc:c∈O
 ·rw[if_pos hc]at h;cases h
 ·rw[if_neg hc]at h;have h1:lb H O Ob c=some o:=Bp h λz=>hc z.1;rw[if_neg]
  ·exact b'.same _ _ h1
  ·intro z;rcases b'.new c z with z|z
   ·exact hc (b.sub c z)
   ·rw[h1]at z;cases z
theorem L9.loop{X:Cx}{Hb:Hp}{Ob O:az}{H:Hp}{E E':Ends}{k k':Ks}{r:R D}(hk:L9 X Hb Ob E k r)(b:Base Hb Ob H O)(hn:∀O' ρ' σ' H',cY X.K (lb H O Ob) Ob O' H' ρ' σ'->k'.nx ρ'=r->E'.nx σ' H')(hc:∀O' ρ' σ' H',cY X.K (lb H O Ob) Ob O' H' ρ' σ'->k'.ct ρ'=r->E'.ct σ' H')
    (eb:k'.bk=k.nx) (ee:k'.ex=k.ex) (Eb:E'.bk=E.nx) (Er:E'.rt=E.rt):L9 X (lb H O Ob) Ob E' k' r:=
  ⟨hk.ne,hn,fun O' ρ' σ' H' S e=>by rw [Eb]; exact hk.nx O' ρ' σ' H' (S.back b) (by rw [<- eb]; exact e),hc,fun d O' v H' e b' dv=>by rw [Er]; exact hk.rt d O' v H' e (b.back b') dv,
   λO' ρ' σ' H' x S e=>hk.ex O' ρ' σ' H' x (S.back b) (by rw[<-ee];exact e)⟩
section
variable{X:Cx}{st:T7}{rest body:eJ}{pos:Pos}
end
end TG
namespace TG
open PySem PySem.Spec L2
variable[aB]
theorem cY.setO{K:SH}{Hb:Hp}{Ob O:az}{H:Hp}{ρ:aq}{σ:St}(E:cY K Hb Ob O H ρ σ){i:Nat}{d d':D}{a:T5}{o:HO}(hi:ρ[i]?=some (some (.own d)))(ha:σ[i]?=some (some (.ref a)))(m:oV o)(new:cD K (upd H a o) O a d'):
  cY K Hb Ob O (upd H a o) (ρ.set i (some (.own d'))) σ:=by
 obtain⟨a',ha',haO,hat⟩:=E.env.own i d hi;rw[ha]at ha';cases ha';obtain⟨m1,m2⟩:=E.mine i d a hi ha;have s:aR (hid H O) (hid (upd H a o) O):=eM haO;have own:∀(j:Nat) ys,(ρ.set i (some (.own d')))[j]?=some (some (.own ys))->∃ys',ρ[j]?=some (some (.own ys')):=λj ys q=>by
  rcases aI q with⟨hj,_⟩|⟨_,q⟩
  ·rw[hj];exact⟨d,hi⟩
  ·exact⟨ys,q⟩
 refine⟨⟨λj d1 e=>?_,λj ys e=>?_,λj l ys zs b q1 q2 q3 q4=>?_,E.env.all.upd haO m⟩,⟨λb u h=>?_,E.base.sub,E.base.new⟩,λj ys b q1 q2=>?_,λj dn q=>?_⟩
 ·rcases aI e with⟨_,q⟩|⟨ne,q⟩
  ·cases q
  ·obtain⟨w,q1,q2⟩:=E.env.val j d1 q;exact⟨w,q1,q2.mono s⟩
 ·rcases aI e with⟨hj,q⟩|⟨ne,q⟩
  ·cases q;rw[hj];exact⟨a,ha,haO,new⟩
  ·obtain⟨b,q1,q2,q3⟩:=E.env.own j ys q;have nb:b≠a:=λz=>ne (E.env.one j i ys d a q hi (by rw[<-z];exact q1) ha);exact⟨b,q1,q2,q3.mono (by rw[ao nb]) s⟩
 ·obtain⟨_,q1'⟩:=own j ys q1;obtain⟨_,q2'⟩:=own l zs q2;exact E.env.one j l _ _ b q1' q2' q3 q4
 ·have nb:b≠a:=λz=>by rw[z,m1]at h;cases h
  rw[ao nb];exact E.base.same b u h
 ·obtain⟨ys',q⟩:=own j ys q1;exact E.mine j ys' b q q2
 ·have q:ρ[j]?=some (some (.nest dn)):=by
   rcases aI q with⟨_,z⟩|⟨_,z⟩
   ·cases z
   ·exact z
  refine(E.nst j dn q).to rfl s (λb q1 q2 q3 q4 _=>⟨ao λz=>q4 i d hi (by rw[z];exact ha),q1,q2,λl d1 w=>?_⟩) λl d1 w=>?_
  ·obtain⟨_,w'⟩:=own l d1 w;exact q4 l _ w'
  ·rcases aI w with⟨_,z⟩|⟨_,z⟩
   ·cases z
   ·exact⟨d1,z⟩
theorem cY.setNew{K:SH}{Hb:Hp}{Ob O:az}{H H':Hp}{ρ:aq}{σ:St}(E:cY K Hb Ob O H ρ σ){i:Nat}{d:D}{p:T5}(hi:i<σ.length)(sm:aR H H')(hp:H p=none)(m:∃o,H' p=some o/\oV o)(new:cD K H' (p::O) p d):
  cY K Hb Ob (p::O) H' (ρ.set i (some (.own d))) (σ.set i (some (.ref p))):=by
 have hpO:p∉O:=E.env.all.not hp;have s:aR (hid H O) (hid H' (p::O)):=λb o h=>by
  unfold hid at h ⊢;by_cases hb:b∈O
  ·rw[if_pos hb]at h;cases h
  ·rw[if_neg hb]at h;have ne:=aE h hp;rw[if_neg (by intro z;rcases List.mem_cons.mp z with z|z;exact ne z;exact hb z)];exact sm _ _ h
 have other:∀(j:Nat) xs,ρ[j]?=some (some (.own xs))->σ[j]?≠some (some (.ref p)):=λj xs e z=>by
  obtain⟨a,e1,e2,e3⟩:=E.env.own j xs e;rw[z]at e1;cases e1;obtain⟨o,e3⟩:=e3.some;rw[hp]at e3;cases e3
 refine⟨⟨λj d' e=>?_,λj xs e=>?_,λj k xs ys a e1 e2 e3 e4=>?_,⟨(E.env.all.same sm).1,λa ha=>?_⟩⟩,⟨E.base.same.trans sm,λa ha=>PL _ (E.base.sub a ha),λa ha=>?_⟩,λj xs a e1 e2=>?_,λj dn e=>?_⟩
 ·rcases aI e with⟨_,q⟩|⟨ne,q⟩
  ·cases q
  ·obtain⟨v,q1,q2⟩:=E.env.val j d' q;exact⟨v,by rw[PQ (Ne.symm ne)];exact q1,q2.mono s⟩
 ·rcases aI e with⟨hj,q⟩|⟨ne,q⟩
  ·cases q;rw[hj];exact⟨p,PP hi,PJ,new⟩
  ·obtain⟨a,q1,q2,q3⟩:=E.env.own j xs q;obtain⟨o,ho⟩:=q3.some;exact⟨a,by rw[PQ (Ne.symm ne)];exact q1,PL _ q2,q3.mono (o5 sm ho) s⟩
 ·rcases aI e1 with⟨hj,q1⟩|⟨nj,q1⟩
  ·rcases aI e2 with⟨hk,q2⟩|⟨nk,q2⟩
   ·exact hj.trans hk.symm
   ·rw[hj,PP hi]at e3;cases e3;rw[PQ (Ne.symm nk)]at e4;exact absurd e4 (other k ys q2)
  ·rcases aI e2 with⟨hk,q2⟩|⟨nk,q2⟩
   ·rw[hk,PP hi]at e4;cases e4;rw[PQ (Ne.symm nj)]at e3;exact absurd e3 (other j xs q1)
   ·rw[PQ (Ne.symm nj)]at e3;rw[PQ (Ne.symm nk)]at e4;exact E.env.one j k xs ys a q1 q2 e3 e4
 ·rcases List.mem_cons.mp ha with rfl|ha
  ·exact m
  ·exact(E.env.all.same sm).2 a ha
 ·rcases List.mem_cons.mp ha with rfl|ha
  ·exact .inr (E.base.same.free hp)
  ·exact E.base.new a ha
 ·rcases aI e1 with⟨hj,q1⟩|⟨nj,q1⟩
  ·rw[hj,PP hi]at e2;cases e2;exact⟨E.base.same.free hp,λz=>hpO (E.base.sub p z)⟩
  ·rw[PQ (Ne.symm nj)]at e2;exact E.mine j xs a q1 e2
 ·rcases aI e with⟨_,q⟩|⟨ne,q⟩
  ·cases q
  ·refine(E.nst j dn q).to (PQ (Ne.symm ne)) s (λb q1 q2 q3 q4 ⟨o,ho⟩=>⟨by rw[ho,sm _ _ ho],PL _ q1,q2,λl d1 w=>?_⟩) λl d1 w=>?_
   ·rcases aI w with⟨hl,z⟩|⟨nl,z⟩
    ·rw[hl,PP hi];intro z;cases z;rw[hp]at ho;cases ho
    ·rw[PQ (Ne.symm nl)];exact q4 l d1 z
   ·rcases aI w with⟨_,z⟩|⟨_,z⟩
    ·cases z
    ·exact⟨d1,z⟩
noncomputable def MO(X:Cx)(F:FX):TE:=λσ H Q=>∃O ρ,dE X.K O H ρ σ/\gW X σ O H (F ρ) λd=>∀p H',aR H H'->H p=none->(∃o,H' p=some o/\oV o)->cD X.K H' (p::O) p d->Q (.ref p) H'
noncomputable def FN(X:Cx)(e:T6)(F:FX):Prop:=PE X e (MO X F)
section
variable{X:Cx}{pos:Pos}
theorem j5{K:SH}{H:Hp}{O:az}{p:T5}{ds:List D}{vs:aJ}(hp:H p=none)(d:aK K (hid H O) ds vs):cD K (upd H p (.lst vs)) (p::O) p (.lst ds):=⟨_,vs,ay,rfl,d.mono (mC hp)⟩
noncomputable def pL:FX:=λ_=>.ok (.dct [] [])
theorem DJ:FN X (.Dict [] [] pos) pL:=PE.weak BR λσ H Q ⟨O,ρ,E,q⟩ p hp=>q p _ (bj hp _) hp ⟨_,ay,trivial⟩ ⟨_,[],ay,cn.mpr rfl,.inr ⟨[],rfl,rfl,rfl⟩⟩
noncomputable def iY(i:Nat)(f:FX):bH:=λk ρ=>o7 (f ρ) k ρ λd=>k.nx (ρ.set i (some (.own d)))
theorem rY{st:T7}{f:FX}{i:Nat}(hi:i<X.N.length)(h:PS X st (Bq (MO X f) (tR i))):FS X st (iY i f):=λHb Ob pins s σ H E I ⟨O,ρ,k,r,S,hF,hk⟩=>
 h pins s σ H E I ⟨O,ρ,S.env,gW.on hF hk S λd e p H1 s1 hp m o=>hk.nx _ _ _ H1 (S.setNew (by rw[I.len];exact hi) s1 hp m o) e⟩
end
theorem Ha{X:Cx}{F:FX}:∀σ H Q,MO X F σ H Q->MV X F σ H Q:=λσ H Q ⟨O,ρ,E,hF⟩=>⟨O,ρ,E,hF.imp λd q D H' total acc e sm hD hD' dn=>by
 subst e;exact q D H' sm hD ⟨_,hD',trivial⟩ ⟨_,acc,hD',rfl,dn⟩⟩
noncomputable def xV(i:Nat)(u:List D->List D->Option (List D))(f:bE):bH:=λk ρ=>match ρ[i]? with
 |some (some (.own (.lst xs)))=>o7 (f ρ) k ρ λds=>(rO (u xs ds)).bind λys=>k.nx (ρ.set i (some (.own (.lst ys))))
 |_=>un
noncomputable def G8(K:SH)(r:V->aJ->Hp->VK->Prop)(u:List D->List D->Option (List D)):Prop:=
 ∀(H:Hp)(O:az)(a:T5)(xs ys as:List D)(ws vs:aJ)(Q:VK),dN H O->a∈O->H a=some (.lst ws)->aK K (hid H O) xs ws->aK K (hid H O) as vs->u xs as=some ys->(∀ws' v,aK K (hid H O) ys ws'->Q v (upd H a (.lst ws')))->r (.ref a) vs H Q
theorem oP{K:SH}{H:Hp}{O:az}{a:T5}{ys:List D}{ws:aJ}(ha:a∈O)(h:aK K (hid H O) ys ws):cD K (upd H a (.lst ws)) O a (.lst ys):=⟨_,ws,ay,rfl,h.mono (eM ha)⟩
noncomputable def eK(xs:List D)(ds:List D):Option (List D):=match ds with
 |[y]=>if small (xs.length+1)then some (xs++[y])else none
 |_=>none
theorem Ac{K:SH}:G8 K uI eK:=λH O a xs ys as ws vs Q hO haO ha dx da hu q=>by
 unfold eK at hu;split at hu
 ·rename_i y;obtain⟨h1,h2⟩:=bD hu;subst h2;obtain⟨v,rfl,dv⟩:=da.one
  have:=dJ h1
  rw[dx.length]at this;exact⟨a,ws,v,rfl,rfl,ha,by omega,q _ _ (dx.snoc dv)⟩
 ·cases hu
noncomputable def frz(i:Nat)(ρ:aq):aq:=match ρ[i]? with
 |some (some (.own d))=>setV i d ρ
 |_=>ρ
theorem dE.frz{K:SH}{O:az}{H:Hp}{ρ:aq}{σ:St}(E:dE K O H ρ σ)(i:Nat):∃O',dE K O' H (frz i ρ) σ/\(∀b∈O',b∈O)/\∀b∈O,b∉O'->∃d,ρ[i]?=some (some (.own d))/\σ[i]?=some (some (.ref b)):=by
 unfold TG.frz;split
 ·rename_i d hd;obtain⟨a,ha,haO,hat⟩:=E.own i d hd;have sub:∀b∈O.filter (λb=>decide (b≠a)),b∈O:=λb hb=>(List.mem_filter.mp hb).1;have s:aR (hid H O) (hid H (O.filter λb=>decide (b≠a))):=fw sub;have na:a∉O.filter λb=>decide (b≠a):=λz=>absurd rfl (of_decide_eq_true (List.mem_filter.mp z).2);refine⟨O.filter λb=>decide (b≠a),⟨λj d' e=>?_,λj ys e=>?_,λj l ys zs b q1 q2 q3 q4=>?_,⟨E.all.1,λb hb=>E.all.2 b (sub b hb)⟩⟩,sub,λb hb nb=>?_⟩
  ·rcases aI e with⟨hj,q⟩|⟨ne,q⟩
   ·cases q;rw[hj];exact⟨.ref a,ha,hat.den s na⟩
   ·obtain⟨w,q1,q2⟩:=E.val j d' q;exact⟨w,q1,q2.mono s⟩
  ·rcases aI e with⟨_,q⟩|⟨ne,q⟩
   ·cases q
   ·obtain⟨b,q1,q2,q3⟩:=E.own j ys q;have nb:b≠a:=λz=>ne (E.one j i ys d a q hd (by rw[<-z];exact q1) ha);exact⟨b,q1,List.mem_filter.mpr ⟨q2,decide_eq_true nb⟩,q3.mono rfl s⟩
  ·rcases aI q1 with⟨_,q⟩|⟨_,q⟩
   ·cases q
   ·rcases aI q2 with⟨_,q'⟩|⟨_,q'⟩
    ·cases q'
    ·exact E.one j l ys zs b q q' q3 q4
  ·by_cases z:b=a
   ·exact⟨d,hd,by rw[z];exact ha⟩
   ·exact absurd (List.mem_filter.mpr ⟨hb,decide_eq_true z⟩) nb
 ·exact⟨O,E,λ_ z=>z,λb hb nb=>absurd hb nb⟩
theorem cY.frz{K:SH}{Hb:Hp}{Ob O:az}{H:Hp}{ρ:aq}{σ:St}(E:cY K Hb Ob O H ρ σ)(i:Nat):∃O',cY K Hb Ob O' H (frz i ρ) σ:=by
 obtain⟨O',E',sub,gone⟩:=E.env.frz i;refine⟨O',E',⟨E.base.same,λa ha=>?_,λa ha=>E.base.new a (sub a ha)⟩,λj xs a q1 q2=>?_,λj dn q1=>?_⟩
 ·by_cases z:a∈O'
  ·exact z
  ·obtain⟨d,e1,e2⟩:=gone a (E.base.sub a ha) z;exact absurd ha (E.mine i d a e1 e2).2
 ·have q:ρ[j]?=some (some (.own xs)):=by
   unfold TG.frz at q1;split at q1
   ·rcases aI q1 with⟨_,q⟩|⟨_,q⟩
    ·cases q
    ·exact q
   ·exact q1
  exact E.mine j xs a q q2
 ·have bk:∀(l:Nat) x,(TG.frz i ρ)[l]?=some (some x)->(∀d,x≠.val d)->ρ[l]?=some (some x):=λl x e nv=>by
   unfold TG.frz at e;split at e
   ·rcases aI e with⟨_,q⟩|⟨_,q⟩
    ·cases q;exact absurd rfl (nv _)
    ·exact q
   ·exact e
  refine(E.nst j dn (bk j _ q1 (λ_ z=>nomatch z))).to rfl (fw sub) (λb w1 w2 w3 w4 _=>⟨rfl,?_,w2,λl d1 w=>w4 l d1 (bk l _ w (λ_ z=>nomatch z))⟩) λl d1 w=>⟨d1,bk l _ w (λ_ z=>nomatch z)⟩
  by_cases z:b∈O'
  ·exact z
  ·obtain⟨d,e1,e2⟩:=gone b w1 z;exact absurd e2 (w4 i d e1)
noncomputable def fA(i:Nat)(F:bH):bH:=λk ρ=>F k (frz i ρ)
noncomputable def frzs(is:List Nat)(ρ:aq):aq:=is.foldl (λρ i=>frz i ρ) ρ
theorem dE.frzs{K:SH}{H:Hp}{σ:St}:∀(is:List Nat){O:az}{ρ:aq},dE K O H ρ σ->∃O',dE K O' H (frzs is ρ) σ
 |[],O,_,E=>⟨O,E⟩
 |i::is,_,_,E=>by
  obtain⟨O',E',_⟩:=E.frz i;exact dE.frzs is E'
noncomputable def ky(is:List Nat)(f:bT):bT:=λρ=>xj (f (frzs is ρ))
end TG
namespace TG
open PySem PySem.Spec L2
variable[aB]
noncomputable def zV(K:SH)(n:Nat)(g:cO):Sp:=λvs H Q E=>∃O ds,vs.length=n/\dN H O/\aK K (hid H O) ds vs/\match g ds with
 |.ok d=>∀v H',aR H H'->cu K (hid H' O) d v->Q v H'
 |.error (some x)=>NR K H O x E
 |.error none=>False
section
variable{X:Cx}{k:Nat}{f C:T5}{fd:UM}{ps:ax}{sp:Sp}{x m:Str}{p pos apos:Pos}{e o:T6}{es:bx}{ta:TE}{t:TA}
theorem t9{pins:bf}{σ:St}{H:Hp}{s:T8}{Q:VK}{E:XK}{us:aU}{vs:aJ}(F:ir X.prog X.w X.K X.mg X.base (j3 X.prog X.w) k f fd ps sp)(hr:eY k X.A)(hb:Binds X.K fd ps [])(hx:j7 (j3 X.prog X.w) X σ E)
  (I:Inv X pins σ H s) (r:Vals vs us) (h:sp vs H Q E):Ul (model X.prog X.w) X.A (call (.ref f) us) (EP X pins σ Q) X.xe s:=by
 have hl:(us++[]).length=ps.length:=by rw[Qa,<-r.length];exact F.len _ _ _ _ h
 have hb':=hb s us I.kIn hl;rw[Qa]at hb';refine UO (UP (F.run X.A X.stack s H ⟨us,[]⟩ us vs Q E hr I.env0 hb' r h) λr s' hq=>?_);cases r with
 |error e=>exact hx pins H s e s' I hq
 |ok fl=>
  cases fl with
  |ret u=>exact I.after hq
  |next=>exact False.elim hq
  |brk=>exact False.elim hq
  |cont=>exact False.elim hq
noncomputable def B3(X:Cx)(sp:Sp)(t:TA):TE:=λσ H Q=>t σ H λvs H1=>∃E,j7 (j3 X.prog X.w) X σ E/\sp vs H1 Q E
theorem CZ(F:ir X.prog X.w X.K X.mg X.base (j3 X.prog X.w) k f fd ps sp)(hr:eY k X.A)(hg:Gl X x)(hm:X.mg x=some (.ref f))(hk:S0 X.K (.ref f)=true)(hb:Binds X.K fd ps [])
  (ha:PA X (e::es) t) (hdb:(x==("__debug__":Str))=false:=by decide) (he:Um (e::es) X.env=(false,eval e X.env)::Um es X.env:=by rfl) (hpl:(backTo pos (Um es X.env)).any (·.1)=false:=by rfl):
  PE X (.Call (.Name x p) (e::es) [] pos) (B3 X sp t):=by
 intro pins s σ H Q I h;refine UQ (uE I hg hm ?_ hdb);refine S4 (h₀:=X.base) I.ok.mod.kin hk (cN (ha pos pins s σ H _ I h) λus s1 ⟨vs,H1,I1,r,E,hx,q⟩=>⟨I1.kIn,?_⟩) he hpl;exact t9 F hr hb hx I1 r q
theorem Be{n:Nat}{g:cO}{f:bE}(hn:∀ds,g ds≠un->ds.length=n):∀σ H Q,tF X (fR g f) σ H Q->B3 X (zV X.K n g) (L5 X f) σ H Q:=λσ H Q ⟨O,ρ,E,hF⟩=>
 ⟨O,ρ,E,(gW.bind hF).imp fun ds hF vs H1 s1 d1=>by
  cases hg:g ds with
  |ok d=>
   rw[hg]at hF;refine⟨E0,y9,O,ds,by rw[<-d1.length];exact hn ds (by rw[hg];intro z;cases z),E.all.same s1,d1,?_⟩;rw[hg];exact λv H2 s2 d2=>hF v H2 (s1.trans s2) d2
  |error z=>
   rw[hg]at hF;cases z with
   |none=>exact hF.elim
   |some x=>
    refine⟨yO X O H1 x,zb (J3.mono hF s1),O,ds,by rw[<-d1.length];exact hn ds (by rw[hg];intro z;cases z),E.all.same s1,d1,?_⟩;rw[hg];exact v8⟩
end
noncomputable def Callee(P:Ua)(w:T9)(K:SH)(mg:cB)(base:Uc)(k:Nat)(x:Str)(ps:ax)(g:cO):Prop:=
 ∃f fd,ir P w K mg base (j3 P w) k f fd ps (zV K ps.length g)/\Binds K fd ps []/\S0 K (.ref f)=true/\mg x=some (.ref f)
noncomputable def Ar(n:Nat)(g:cO):Prop:=∀ds,g ds≠un->ds.length=n
noncomputable def K0:Ks:={nx:=λ_=>.ok .non}
noncomputable def env0(n:Nat)(ds:List D):aq:=ds.map (λd=>some (.val d))++List.replicate (n-ds.length) none
noncomputable def aC(B:bH)(np n:Nat):cO:=λds=>if ds.length=np then B K0 (env0 n ds)else un
theorem gD{B:bH}{np n:Nat}:Ar np (aC B np n):=λds h=>by
 unfold aC at h;split at h
 ·assumption
 ·exact absurd rfl h
theorem ik{n:Nat}{ds:List D}(i:Nat)(x:S)(e:(env0 n ds)[i]?=some (some x)):∃d,ds[i]?=some d/\x=.val d:=by
 unfold env0 at e;by_cases hi:i<ds.length
 ·rw[Qg (by rw[P7];exact hi),Qh,QO hi]at e;have e':some (S.val ds[i])=some x:=Option.some.inj e;exact⟨ds[i],by rw[QO hi],(Option.some.inj e').symm⟩
 ·rw[Qe (by rw[P7];omega),P7,Qf]at e;split at e
  ·cases e
  ·cases e
theorem qo{K:SH}{O:az}{H:Hp}{N:ax}{ds:List D}{vs:aJ}(hO:dN H O)(h:aK K (hid H O) ds vs):dE K O H (env0 N.length ds) (L2.start N vs):=by
 refine⟨λi d e=>?_,λi xs e=>?_,λi j xs ys a e=>?_,hO⟩
 ·obtain⟨d',e1,e2⟩:=ik i _ e;cases e2;obtain⟨v,e3,e4⟩:=h.get e1;refine⟨v,?_,e4⟩;unfold L2.start;have hi:i<vs.length:=(List.getElem?_eq_some_iff.mp e3).1;rw[Qg (by rw[P7];exact hi),Qh,e3];rfl
 ·obtain⟨d',_,e2⟩:=ik i _ e;cases e2
 ·obtain⟨d',_,e2⟩:=ik i _ e;cases e2
section
variable{P:Ua}{w:T9}{K:SH}{mg:cB}{base:Uc}
structure BodyOk(P:Ua)(w:T9)(K:SH)(mg:cB)(base:Uc)(k:Nat)(N:ax)(qual:Str)(st:T7)(f:T5)(B:bH):Prop where
 h:∀(cdv:T2)(A:Uj)(outer:List Env)(s:T8)(H:Hp)(E:XK),eY k (A.deeper (TC qual (aw st) s.heap.objs.size f cdv))->Uw (model P w) (A.deeper (TC qual (aw st) s.heap.objs.size f cdv)) (TC qual (aw st) s.heap.objs.size f cdv) (ie (j3 P w) P w K mg base N qual (aw st) f cdv A outer s H E).xe->
  MS (ie (j3 P w) P w K mg base N qual (aw st) f cdv A outer s H E) (dF st) B
theorem Mx{x qual:Str}{st:T7}{f:T5}{fd:UM}{N ps:ax}{k:Nat}{sp:Sp}{CX:wC}(F:uQ K x qual st f fd)(S:dD N ps (aw st))(len:∀vs H Q E,sp vs H Q E->vs.length=ps.length)
  (hbody:∀ (cdv:T2) (A:Uj) (outer:List Env) (s:T8) (H:Hp) (vs:aJ) (Q:VK) (E:XK),eY k (A.deeper (TC qual (aw st) s.heap.objs.size f cdv))->sp vs H Q E ->
   ∃t,wy (ie CX P w K mg base N qual (aw st) f cdv A outer s H E) (dF st) t/\t {nx:=λ_ H'=>Q .non H',rt:=Q} (L2.start N vs) H):ir P w K mg base CX (k+1) f fd ps sp:=by
 obtain⟨oc,od,kV,doc,pm,an,cdv,ct,osl,rfl,lk,hcd⟩:=F.ex;exact De lk hcd S len λA outer s H vs Q E hr hsp=>hbody cdv A outer s H vs Q E hr hsp
theorem ir.any{CX:wC}{k:Nat}{f:T5}{fd:UM}{ps:ax}{sp:Sp}(F:ir P w K mg base L7 k f fd ps sp):ir P w K mg base CX k f fd ps sp:=
 ⟨F.len,fun A outer s H args us vs Q E hr he hb hv hs=>UP (F.run A outer s H args us vs Q E hr he hb hv hs) fun r s' h=>by
  cases r with
  |error e=>exact False.elim h
  |ok fl=>cases fl<;>exact h⟩
theorem tY{x qual:Str}{st:T7}{f:T5}{fd:UM}{N ps:ax}{k:Nat}{B:bH}(F:uQ K x qual st f fd)(SC:dD N ps (aw st))(hb:BodyOk P w K mg base k N qual st f B):
  ir P w K mg base (j3 P w) (k+1) f fd ps (zV K ps.length (aC B ps.length N.length)):=by
 refine Mx F SC (λvs H Q E h=>?_) λcdv A outer s H vs Q E hr h=>?_
 ·obtain⟨O,ds,h1,_⟩:=h;exact h1
 ·obtain⟨O,ds,h1,h2,h3,h4⟩:=h;have hl:ds.length=ps.length:=h3.length.trans h1;have e4:aC B ps.length N.length ds=B K0 (env0 N.length ds):=by unfold aC;rw[if_pos hl]
  rw[e4]at h4;refine⟨_,hb.h cdv A outer s H E hr PassesOwn.leaving H O,O,env0 N.length ds,K0,_,⟨qo h2 h3,⟨aR.refl H,λ_ z=>z,λa z=>.inl z⟩,λi xs a e=>?_,λi d e=>by obtain⟨d',_,e2⟩:=ik i _ e;cases e2⟩,rfl,?_⟩
  ·obtain⟨d',_,e2⟩:=ik i _ e;cases e2
  ·generalize B K0 (env0 N.length ds)=r at h4;refine⟨λz=>by rw[z]at h4;exact h4,λO' ρ' σ' H' S e=>?_,λO' ρ' σ' H' S e=>?_,λO' ρ' σ' H' S e=>?_,λd O' v H' e b dv=>?_,λO' ρ' σ' H' x S e=>?_⟩
   ·have e:(.ok .non:R D)=r:=e;subst e;exact h4 .non H' S.base.same (jB.mpr rfl)
   ·have e:(un:R D)=r:=e;subst e;exact h4.elim
   ·have e:(un:R D)=r:=e;subst e;exact h4.elim
   ·subst e;exact h4 v H' b.same (dv.mono (fw b.sub))
   ·have e:(.error (some x):R D)=r:=e;subst e;exact Br h4 S.base.same S.base.sub
theorem Ba{x qual:Str}{st:T7}{f:T5}{fd:UM}{N ps:ax}{k:Nat}{B:bH}(F:uQ K x qual st f fd)(b:Binds K fd ps [])(m:mg x=some (.ref f))(SC:dD N ps (aw st))(hb:BodyOk P w K mg base k N qual st f B):
  Callee P w K mg base (k+1) x ps (aC B ps.length N.length):=⟨f,fd,tY F SC hb,b,F.kp,m⟩
theorem u5{x qual:Str}{st:T7}{f:T5}{fd:UM}{ps:ax}(k:Nat)(F:uQ K x qual st f fd)(b:Binds K fd ps [])(m:mg x=some (.ref f)):Callee P w K mg base k x ps (λ_=>un):=by
 have no:∀vs H Q E,¬zV K ps.length (λ_=>un) vs H Q E:=λvs H Q E ⟨O,ds,_,_,_,e⟩=>e;exact⟨f,fd,⟨λvs H Q E h=>absurd h (no vs H Q E),λA outer s H args us vs Q E _ _ _ _ h=>absurd h (no vs H Q E)⟩,b,F.kp,m⟩
end
theorem ph{K:SH}{T:String}(h1:S9 K (.type "NoneType") (.type T)=some (T=="NoneType"))(h2:S9 K (.type "bool") (.type T)=some (T=="bool"||T=="int"))(h3:S9 K (.type "int") (.type T)=some (T=="int"))(h4:S9 K (.type "str") (.type T)=some (T=="str"))
  (h5:S9 K (.type "tuple") (.type T)=some (T=="tuple")) (h6:S9 K (.type "list") (.type T)=some (T=="list")):yj K T:=λd hd=>by
 cases d with
 |dct _ _=>cases hd
 |obj _ _ _=>cases hd
 |exc _ _ _=>cases hd
 |non=>exact h1
 |bl _=>exact h2
 |int _=>exact h3
 |str _=>exact h4
 |tup _=>exact h5
 |lst _=>exact h6
theorem B8{K:SH}:yj K "int":=ph rfl rfl rfl rfl rfl rfl
theorem AR{K:SH}:yj K "bool":=ph rfl rfl rfl rfl rfl rfl
theorem DG{K:SH}:yj K "str":=ph rfl rfl rfl rfl rfl rfl
theorem xo{K:SH}:yj K "tuple":=ph rfl rfl rfl rfl rfl rfl
end TG
namespace TG
open PySem PySem.Spec L2
variable[aB]
section
variable{X:Cx}{a b c:T6}{fa fb fc:FX}{pos:Pos}
theorem IU{r:V->Hp->VK->Prop}{g:D->bG}(s:EA X.K r g):∀σ H Q,tF X (f1 g fa) σ H Q->N8 r (tF X fa) σ H Q:=λσ H Q ⟨O,ρ,E,hF⟩=>⟨O,ρ,E,(gW.bind hF).imp λa hF x H1 s1 d1=>by
 obtain⟨d,e,q⟩:=gW.rO hF;exact s a d x O H1 Q (E.all.same s1) e d1 λv H2 s2 d2=>q v H2 (s1.trans s2) d2⟩
noncomputable def lX(g g':D->D->bG)(fa fb fc:FX):FX:=λρ=>(fa ρ).bind λx=>(fb ρ).bind λy=>(rO (g x y)).bind λz=>xg z ((fc ρ).bind λw=>rO (g' y w))
theorem rP{r r':R2}{g g':D->D->bG}(s:cW X.K r g)(s':cW X.K r' g'):∀σ H Q,tF X (lX g g' fa fb fc) σ H Q->xW r r' (tF X fa) (tF X fb) (tF X fc) σ H Q:=λσ H Q ⟨O,ρ,E,hF⟩=>
 ⟨O,ρ,E,(gW.bind hF).imp fun x hF v1 H1 s1 d1=>⟨O,ρ,E.same s1,((gW.bind hF).mono s1).imp fun y hF v2 H2 s2 d2=>by
  obtain⟨z,e3,hF⟩:=gW.rO (gW.bind hF);refine s x y z v1 v2 O H2 _ (E.all.same (s1.trans s2)) e3 (d1.mono (bq s2)) d2 λv3 H3 s3 d3=>?_;cases z with
  |bl k=>
   refine⟨k,ju.mp d3,?_⟩;cases k with
   |false=>exact uT (hF _ H3 ((s1.trans s2).trans s3) (ju.mpr rfl))
   |true=>
    refine wf ⟨O,ρ,E.same ((s1.trans s2).trans s3),((gW.bind (show gW X σ O H ((fc ρ).bind λw=>rO (g' y w)) _ from hF)).mono ((s1.trans s2).trans s3)).imp λw hF v4 H4 s4 d4=>?_⟩;obtain⟨d,e5,q⟩:=gW.rO hF;exact s' y w d v2 v4 O H4 Q (E.all.same (((s1.trans s2).trans s3).trans s4)) e5 (d2.mono (bq (s3.trans s4))) d4 λv5 H5 s5 d5=>q v5 H5 ((((s1.trans s2).trans s3).trans s4).trans s5) d5
  |_=>exact hF.elim⟩⟩
noncomputable def IX:D->bG
 |.int i=>some (.int (-i))
 |_=>none
noncomputable def lD(f:FX):FX:=f1 IX f
noncomputable def OL:List D->bG
 |[.int i]=>if decide (i.natAbs.log2<1920)then some (.str (toString i))else none
 |_=>none
noncomputable def C7:D->bG
 |.str x=>if small x.length then some (.str (Txt.upper x))else none
 |_=>none
noncomputable def HS(f:FX):FX:=f1 C7 f
noncomputable def Jc:D->bG
 |.lst xs=>some (.lst xs.reverse)
 |.tup xs=>some (.tup xs.reverse)
 |_=>none
noncomputable def NU(f:FX):FX:=f1 Jc f
noncomputable def allB:List D->Option Bool
 |[]=>some true
 |.bl b::r=>(allB r).bind λc=>some (b&&c)
 |_=>none
noncomputable def uW:List D->bG
 |[.lst xs]=>(allB xs).bind λb=>some (.bl b)
 |_=>none
theorem wo:∀{xs:List D}{b:Bool},allB xs=some b->∃bs:bQ,xs=bs.map .bl/\b=bs.all id
 |[],b,h=>by cases h;exact⟨[],rfl,rfl⟩
 |.bl x::r,b,h=>by
  obtain⟨c,e1,e2⟩:=bind_some (show((allB r).bind λc=>some (x&&c))=some b from h);cases e2;obtain⟨bs,e3,e4⟩:=wo e1;exact⟨x::bs,by rw[P6,e3],by rw[QL,e4];rfl⟩
 |.non::_,_,h=>by cases h
 |.int _::_,_,h=>by cases h
 |.str _::_,_,h=>by cases h
 |.tup _::_,_,h=>by cases h
 |.lst _::_,_,h=>by cases h
 |.dct _ _::_,_,h=>by cases h
 |.obj _ _ _::_,_,h=>by cases h
 |.exc _ _ _::_,_,h=>by cases h
theorem qP{K:SH}{H:Hp}:∀{bs:bQ}{vs:aJ}{us:aU},aK K H (bs.map .bl) vs->Vals vs us->us=bs.map Value.bool
 |[],vs,us,h,r=>by
  rw[Qq,cn]at h;subst h;cases r;rfl
 |b::bs,vs,us,h,r=>by
  rw[P6,aX]at h;obtain⟨v,r',e,h1,h2⟩:=h;subst e;cases r with
  |cons q1 q2=>
   rw[ju]at h1;subst h1;cases q1;rw[P6,qP h2 q2]
theorem range_all(bs:bQ):((List.range bs.length).all λi=>(bs[i]?).getD true)=bs.all id:=by
 induction bs with
 |nil=>rfl
 |cons b bs ih=>
  rw[P5,QM,QL,QN,QL,<-ih];rfl
theorem z5(hc:X.calm=true):dW X (.builtin "all") (xO X.K uW):=by
 rintro pins s σ H xs us Q I r ⟨O,ds,d,hO,hd,hg,q⟩;unfold uW at hg;split at hg
 ·rename_i ys;obtain⟨bv,e1,e2⟩:=bind_some hg;cases e2;obtain⟨bs,eb,ev⟩:=wo e1;subst eb ev;obtain⟨v,evv,h1⟩:=hd.one;subst evv;obtain⟨p,vs,ep,g1,g2⟩:=bX.mp h1;subst ep;obtain⟨u,eu,ru⟩:=vals1 r;subst eu;cases ru;obtain⟨its,rv,pl,hz⟩:=I.list ((aj H O).seq g1);have ei:=qP g2 rv;have hl:=pl.isList;have hlt:p<s.heap.objs.size:=by obtain⟨_,e,_⟩:=hl;exact Tj e
  refine call_all_walk (Uv hl ?_);refine⟨s.heap.objs.size,[s.heap.objs.size,p],[s.heap.objs.size],its.toArray.size,_,_,λi=>(bs[i]?).getD true,rfl,Walks.list (A:=X.A.in1) (I.ok.hd hc) _ p (PC hlt) its.toArray,
   ⟨⟨_,Tp _ rfl,rfl,rfl⟩,hl.push _⟩,λi v s' Q' E' hP hQ=>?_,λh' tk hk=>?_⟩
  ·have e:bs[i]?.map Value.bool=some v:=by
    rw[<-Qh,<-ei]
    simpa using hP
   cases eb:bs[i]? with
   |none=>rw[eb]at e;cases e
   |some b=>
    rw[eb]at e;cases e;simp only[eb,Option.getD_some]at hQ;exact Ur hQ
  ·have e:((List.range its.toArray.size).all λi=>(bs[i]?).getD true)=bs.all id:=by
    have:its.toArray.size=bs.length:=(by rw[P0,ei,P7]);rw[this];exact range_all bs
   rw[e];have k:∀b x,s.heap.get? b=some x->h'.get? b=some x:=λb x e=>hk b x (λhm=>by rw[List.mem_singleton.mp hm]at e;exact PB _ (Tj e)) (To _ e);exact⟨.bl _,H,I.kept k,rfl,q _ H (aR.refl H) (ju.mpr rfl)⟩
 ·cases hg
end
end TG
namespace ZI
open PySem PySem.Spec PyProof.Rows
section
variable{prog:Ua}{w:T9}{A:Uj}{E:T2->T8->Prop}{s:T8}
theorem yf{it t:T5}{i:Nat}{its:Array T2}{x:T2}{Q:T2->T8->Prop}(hit:s.heap.IsTupleIter it t i)(ht:s.heap.IsTuple t its)(hx:its[i]?=some x)
  (hQ:∀g,g.IsTupleIter it t (i+1)->Tn it s.heap g->Q x {s with heap:=g}):Ul (model prog w) A (Builtin.SmallTypes.nextOf (.ref it)) Q E s:=by
 obtain⟨ob,h1,h2,h3⟩:=id hit;obtain⟨ol,g1,_,n,g2⟩:=ht;unfold Builtin.SmallTypes.nextOf;refine Uu (U1 (name:=Str.ofString "__next__") hit.typeIs F.slot_tuple_iterator_next (U2 F.slot_tuple_iterator_next hit.typeIs F.entry_tuple_iterator_next ?_ (F.args_tuple_iterator_next_1 _)));show Ul _ _ (field (.ref it) 0 >>= _) _ _ s;refine Uu (UZ h1 h3 (x:=.ref t) rfl ?_);show Ul _ _ (if(Value.ref t==Value.none)=true then _ else _) _ _ s;rw[if_neg (show¬((Value.ref t==Value.none)=true)from λz=>P4 z)];show Ul _ _ (field (.ref it) 1 >>= _) _ _ s;refine Uu (UZ h1 h3 (x:=.int i 0) rfl ?_);show Ul _ _ (seqItems? (.ref t) >>= _) _ _ s;refine Uu (Vc g1 g2 ?_);simp only[Qk,hx];refine Uu (Ve h1 h3 (by simp) (Ut ⟨x,rfl,Ut (hQ _ ⟨_,Ts _ h1 (Obj.isFreed_of_fields (Obj.data_mapFields h3 _)),(Obj.cls_mapFields ..).trans h2,by rw[Obj.data_mapFields h3];simp[rawInt]⟩ (Heap.SameBut.update ..))⟩))
theorem zy{it t:T5}{i:Nat}{its:Array T2}{Q:T2->T8->Prop}(hh:A.handled=none)(hit:s.heap.IsTupleIter it t i)(ht:s.heap.IsTuple t its)(hx:its[i]?=none)
  (hE:∀g e,Tt it s.heap g->(∃o,g.get? e=some o/\o.cls=.type "StopIteration")->E (.ref e) {s with heap:=g}):Ul (model prog w) A (Builtin.SmallTypes.nextOf (.ref it)) Q E s:=by
 obtain⟨ob,h1,h2,h3⟩:=id hit;obtain⟨ol,g1,_,n,g2⟩:=ht;unfold Builtin.SmallTypes.nextOf;refine Uu (U1 (name:=Str.ofString "__next__") hit.typeIs F.slot_tuple_iterator_next (U2 F.slot_tuple_iterator_next hit.typeIs F.entry_tuple_iterator_next ?_ (F.args_tuple_iterator_next_1 _)));show Ul _ _ (field (.ref it) 0 >>= _) _ _ s;refine Uu (UZ h1 h3 (x:=.ref t) rfl ?_);show Ul _ _ (if(Value.ref t==Value.none)=true then _ else _) _ _ s;rw[if_neg (show¬((Value.ref t==Value.none)=true)from λz=>P4 z)];show Ul _ _ (field (.ref it) 1 >>= _) _ _ s;refine Uu (UZ h1 h3 (x:=.int i 0) rfl ?_);show Ul _ _ (seqItems? (.ref t) >>= _) _ _ s;refine Uu (Vc g1 g2 ?_);simp only[Qk,hx];refine Uu (U9 (Uu (Ve h1 h3 (by simp) ?_)));show Ul _ _ (newExc (.type "StopIteration") [] >>= _) _ _ _;refine Uu ?_;simp only[newExc,newTuple];refine Uu (U4 ?_ (by size_fits));refine Uu (m:=firstArgMember _ _) (Vf (a:=Value.none) (by first|rfl|(simp only[firstArgMember];rfl)) ?_);refine U4 ?_ (by size_fits);simp only[raiseNew];refine Uu (Vg ?_)
 first|rw[show A.in1.handled=none from hh]|rw[hh]
 refine Uu (Ut (wpAny_throw ?_));exact hE _ _ (((Heap.SameBut.update ..).extBut.push _).push _) ⟨_,Tp _ rfl,rfl⟩
end
theorem JV{prog:Ua}{w:T9}{A:Uj}(hh:A.handled=none)(it t:T5)(hne:t≠it)(its:Array T2):Draws prog w A it [it,t] its.size (λi v=>its[i]?=some v) (λi h=>h.IsTupleIter it t i/\h.IsTuple t its)where
 live:=λi h ⟨⟨o,e,_⟩,_⟩=>⟨o,e⟩
 frame:=λi h h' ⟨x,y⟩ k=>⟨x.at λo e=>k it (by simp) o e,let ⟨o,e,r⟩:=y;⟨o,k t (by simp) o e,r⟩⟩
 item:=λi s Q E hi ⟨x,y⟩ hQ=>yf x y (Array.getElem?_eq_getElem hi) λg hg hs=>hQ _ g s.toks (Array.getElem?_eq_getElem hi) ⟨hg,let ⟨o,e,r⟩:=y;⟨o,(hs.2 t hne).trans e,r⟩⟩ hs
 done:=λs Q E ⟨x,y⟩ hE=>zy hh x y (by simp) hE
structure Apart(z TI TO i1 i2:T5)(fp1 fp2:List T5):Prop where
 a1:TI≠z
 a2:TO≠z
 a3:TI≠TO
 b1:z∉fp1
 b2:TO∉fp1
 b3:i2∉fp1
 c1:z∉fp2
 c2:TO∉fp2
 c3:i1∉fp2
 d1:TI≠i1
 d2:TI≠i2
 e1:i1∈fp1
 e2:i2∈fp2
section
variable{prog:Ua}{w:T9}{A:Uj}{E:T2->T8->Prop}{s:T8}{z TI TO i1 i2:T5}{fp1 fp2:List T5}{n1 n2 i:Nat}{P1 P2:Nat->T2->Prop}{S1 S2:Nat->Uc->Prop}{a b:T2}
theorem next_item{Q:T2->T8->Prop}(Ap:Apart z TI TO i1 i2 fp1 fp2)(D1:Draws prog w A i1 fp1 n1 P1 S1)(D2:Draws prog w A i2 fp2 n2 P2 S2)(hz:Vh s.heap z TI TO .none)(hTI:Vi s.heap TI (.ref i1) (.ref i2))(hTO:Vi s.heap TO a b)(st1:S1 i s.heap)(st2:S2 i s.heap)(l1:i<n1)(l2:i<n2)
  (hQ:∀ x y g tk,P1 i x->P2 i y->Vh g z TI TO (rawInt s.heap.objs.size)->Vi g TO x y->S1 (i+1) g->S2 (i+1) g->Vi g s.heap.objs.size x y->g.objs.size=s.heap.objs.size+1 ->
   (∀c o,c≠z->c≠TO->c≠i1->c≠i2->s.heap.get? c=some o->g.get? c=some o)->Q (.ref s.heap.objs.size) {s with heap:=g,toks:=tk}):
  Ul (model prog w) A (Builtin.«zip.__next__» ⟨[.ref z],[]⟩) (λfin s'=>∃v,fin=.done (.ret v)/\Q v s') E s:=by
 have n1z:i1≠z:=λe=>Ap.b1 (e ▸ Ap.e1);have n2z:i2≠z:=λe=>Ap.c1 (e ▸ Ap.e2);have n1T:i1≠TO:=λe=>Ap.b2 (e ▸ Ap.e1);have n2T:i2≠TO:=λe=>Ap.c2 (e ▸ Ap.e2);show Ul _ _ (field (.ref z) 2 >>= _) _ _ _;refine Uu (UZ hz rfl (x:=.bool false) rfl ?_);show Ul _ _ (field (.ref z) 3 >>= _) _ _ _;refine Uu (UZ hz rfl (x:=.ref TI) rfl ?_);refine Uu (Vc hTI rfl ?_);show Ul _ _ (Builtin.SmallTypes.ownedTupleIsFree (.ref z) >>= _) _ _ _;refine Uu ?_;unfold Builtin.SmallTypes.ownedTupleIsFree;refine Uu (UZ hz rfl (x:=.none) rfl (Ut ?_));simp only[if_true];refine Uu (U9 ?_);refine Uu (UZ hz rfl (x:=.ref TO) rfl ?_);refine Uu (Vj hz (by simp) λg1 hz1 k1=>?_);have hz1:Vh g1 z TI TO .ellipsis:=hz1;refine Uu ?_;simp only[Rh,List.zipIdx_nil,QA,List.forIn_nil];refine Uu (Uu (Vk ?_));show Ul _ _ (Builtin.SmallTypes.nextOf (.ref i1) >>= _) _ _ _;have q1:S1 i g1:=D1.frame _ _ _ st1 λb hb o e=>k1.extBut _ _ (λz'=>Ap.b1 (z' ▸ hb)) e;refine Uu (D1.item i {s with heap:=g1} _ _ l1 q1 λx g2 tk2 p1 q2 k2=>Ut ?_);have t2:Vi g2 TO a b:=k2.extBut _ _ n1T.symm (k1.extBut _ _ Ap.a2 hTO);refine Uu (Vc t2 rfl ?_);refine Uu (Vl t2 λg3 t3 k3=>?_);have t3:Vi g3 TO x b:=t3;refine Uu (Vm (Ut ?_));refine Uu (Uu (Vk ?_));show Ul _ _ (Builtin.SmallTypes.nextOf (.ref i2) >>= _) _ _ _;have q3:S2 i g3:=D2.frame _ _ _ st2 λb hb o e=>k3.extBut _ _ (λz'=>Ap.c2 (z' ▸ hb)) (k2.extBut _ _ (λz'=>Ap.c3 (z' ▸ hb)) (k1.extBut _ _ (λz'=>Ap.c1 (z' ▸ hb)) e));refine Uu (D2.item i {s with heap:=g3,toks:=tk2} _ _ l2 q3 λy g4 tk4 p2 q4 k4=>Ut ?_);have t4:Vi g4 TO x b:=k4.extBut _ _ n2T.symm t3;refine Uu (Vc t4 rfl ?_);refine Uu (Vl t4 λg5 t5 k5=>?_);have t5:Vi g5 TO x y:=t5;refine Uu (Vm (Ut (Ut ?_)));refine Uu (Vc t5 rfl ?_);refine Uu (Vn ?_);have hsz:g5.objs.size=s.heap.objs.size:=by rw[k5.1,k4.1,k3.1,k2.1,k1.1]
 have hz5:Vh g5 z TI TO .ellipsis:=k5.extBut _ _ Ap.a2.symm (k4.extBut _ _ n2z.symm (k3.extBut _ _ Ap.a2.symm (k2.extBut _ _ n1z.symm hz1)));have k15:∀c o,c≠z->c≠TO->c≠i1->c≠i2->s.heap.get? c=some o->g5.get? c=some o:=λc o c1 c2 c3 c4 e=>k5.extBut _ _ c2 (k4.extBut _ _ c4 (k3.extBut _ _ c2 (k2.extBut _ _ c3 (k1.extBut _ _ c1 e))));have r1:S1 (i+1) g5:=D1.frame _ _ _ q2 λb hb o e=>k5.extBut _ _ (λz'=>Ap.b2 (z' ▸ hb)) (k4.extBut _ _ (λz'=>Ap.b3 (z' ▸ hb)) (k3.extBut _ _ (λz'=>Ap.b2 (z' ▸ hb)) e));have r2:S2 (i+1) g5:=D2.frame _ _ _ q4 λb hb o e=>k5.extBut _ _ (λz'=>Ap.c2 (z' ▸ hb)) e;have lz:z<g5.objs.size:=Tj hz5;show Ul _ _ (Builtin.SmallTypes.ownedTupleHandOut (.ref z) (.ref g5.objs.size) >>= _) _ _ _;refine Uu ?_;unfold Builtin.SmallTypes.ownedTupleHandOut;have hz6:Vh (g5.push {cls:=.type "tuple",data:=.seq #[x,y]}) z TI TO .ellipsis:=To _ hz5;refine Uu (Vj hz6 (by simp) λg7 hz7 k7=>?_);have hz7:Vh g7 z TI TO (rawInt g5.objs.size):=hz7;refine Vj hz7 (by simp) λg8 hz8 k8=>?_;have hz8:Vh g8 z TI TO (rawInt g5.objs.size):=hz8;have up:∀c o,c≠z->g5.get? c=some o->g8.get? c=some o:=λc o c1 e=>k8.extBut _ _ c1 (k7.extBut _ _ c1 (To _ e));have t8:Vi g8 g5.objs.size x y:=k8.extBut _ _ (PR lz) (k7.extBut _ _ (PR lz) (Tp _ rfl));have s8:g8.objs.size=g5.objs.size+1:=by rw[k8.1,k7.1,Tq]
 rw[hsz]at hz8 t8 s8;refine Ut ⟨_,rfl,?_⟩;show Q (.ref g5.objs.size) _;rw[hsz];exact hQ x y g8 tk4 p1 p2 hz8 (up _ _ Ap.a2 t5) (D1.frame _ _ _ r1 λb hb o e=>up b o (λz'=>Ap.b1 (z' ▸ hb)) e) (D2.frame _ _ _ r2 λb hb o e=>up b o (λz'=>Ap.c1 (z' ▸ hb)) e) t8 s8 λc o c1 c2 c3 c4 e=>up c o c1 (k15 c o c1 c2 c3 c4 e)
theorem next_end{Q:Fin->T8->Prop}(Ap:Apart z TI TO i1 i2 fp1 fp2)(D1:Draws prog w A i1 fp1 n1 P1 S1)(D2:Draws prog w A i2 fp2 n2 P2 S2)(hz:Vh s.heap z TI TO .none)(hTI:Vi s.heap TI (.ref i1) (.ref i2))(hTO:Vi s.heap TO a b)(st1:S1 i s.heap)(st2:S2 i s.heap)(hend:i=n1\/(i<n1/\i=n2))
  (hE:∀g e tk,(∀c o,c≠z->c≠TO->c≠i1->c≠i2->s.heap.get? c=some o->g.get? c=some o)->(∃o,g.get? e=some o/\o.cls=.type "StopIteration")->E (.ref e) {s with heap:=g,toks:=tk}):
  Ul (model prog w) A (Builtin.«zip.__next__» ⟨[.ref z],[]⟩) Q E s:=by
 have n1z:i1≠z:=λe=>Ap.b1 (e ▸ Ap.e1);have n2z:i2≠z:=λe=>Ap.c1 (e ▸ Ap.e2);have n1T:i1≠TO:=λe=>Ap.b2 (e ▸ Ap.e1);show Ul _ _ (field (.ref z) 2 >>= _) _ _ _;refine Uu (UZ hz rfl (x:=.bool false) rfl ?_);show Ul _ _ (field (.ref z) 3 >>= _) _ _ _;refine Uu (UZ hz rfl (x:=.ref TI) rfl ?_);refine Uu (Vc hTI rfl ?_);show Ul _ _ (Builtin.SmallTypes.ownedTupleIsFree (.ref z) >>= _) _ _ _;refine Uu ?_;unfold Builtin.SmallTypes.ownedTupleIsFree;refine Uu (UZ hz rfl (x:=.none) rfl (Ut ?_));simp only[if_true];refine Uu (U9 ?_);refine Uu (UZ hz rfl (x:=.ref TO) rfl ?_);refine Uu (Vj hz (by simp) λg1 hz1 k1=>?_);have hz1:Vh g1 z TI TO .ellipsis:=hz1;refine Uu ?_;simp only[Rh,List.zipIdx_nil,QA,List.forIn_nil];refine Uu (Uu (Vk ?_));show Ul _ _ (Builtin.SmallTypes.nextOf (.ref i1) >>= _) _ _ _;have q1:S1 i g1:=D1.frame _ _ _ st1 λb hb o e=>k1.extBut _ _ (λz'=>Ap.b1 (z' ▸ hb)) e;rcases hend with hend|⟨l1,hend⟩
 ·subst hend;refine Uu (D1.done {s with heap:=g1} _ _ q1 λg2 e k2 he=>?_);obtain⟨oe,hoe,hce⟩:=he;have hz2:Vh g2 z TI TO .ellipsis:=k2 _ _ n1z.symm hz1;have hez:e≠z:=λx=>by rw[x,hz2]at hoe;cases hoe;simp at hce
  exact Vj hz2 (by simp) λg3 _ k3=>hE g3 e s.toks (λc o c1 _ c3 _ x=>k3.extBut _ _ c1 (k2 _ _ c3 (k1.extBut _ _ c1 x))) ⟨oe,k3.extBut _ _ hez hoe,hce⟩
 ·refine Uu (D1.item i {s with heap:=g1} _ _ l1 q1 λx g2 tk2 p1 q2 k2=>Ut ?_);have t2:Vi g2 TO a b:=k2.extBut _ _ n1T.symm (k1.extBut _ _ Ap.a2 hTO);refine Uu (Vc t2 rfl ?_);refine Uu (Vl t2 λg3 t3 k3=>?_);refine Uu (Vm (Ut ?_));refine Uu (Uu (Vk ?_));show Ul _ _ (Builtin.SmallTypes.nextOf (.ref i2) >>= _) _ _ _;have q3:S2 i g3:=D2.frame _ _ _ st2 λb hb o e=>k3.extBut _ _ (λz'=>Ap.c2 (z' ▸ hb)) (k2.extBut _ _ (λz'=>Ap.c3 (z' ▸ hb)) (k1.extBut _ _ (λz'=>Ap.c1 (z' ▸ hb)) e));subst hend;refine Uu (D2.done {s with heap:=g3,toks:=tk2} _ _ q3 λg4 e k4 he=>?_);obtain⟨oe,hoe,hce⟩:=he;have hz4:Vh g4 z TI TO .ellipsis:=k4 _ _ n2z.symm (k3.extBut _ _ Ap.a2.symm (k2.extBut _ _ n1z.symm hz1));have hez:e≠z:=λx=>by rw[x,hz4]at hoe;cases hoe;simp at hce
  exact Vj hz4 (by simp) λg5 _ k5=>hE g5 e tk2 (λc o c1 c2 c3 c4 x=>k5.extBut _ _ c1 (k4 _ _ c4 (k3.extBut _ _ c2 (k2.extBut _ _ c3 (k1.extBut _ _ c1 x))))) ⟨oe,k5.extBut _ _ hez hoe,hce⟩
end
noncomputable def SQ(b:Bool)(h:Uc)(l:T5)(xs:Array T2):Prop:=if b then h.IsList l xs else h.IsTuple l xs
noncomputable def SI(b:Bool)(h:Uc)(i l:T5)(k:Nat):Prop:=if b then h.IsListIter i l k else h.IsTupleIter i l k
noncomputable def LR(b:Bool):String:=if b then"list_iterator"else"tuple_iterator"
theorem SQ.keep{b:Bool}{h h':Uc}{l:T5}{xs:Array T2}(x:SQ b h l xs)(k:∀o,h.get? l=some o->h'.get? l=some o):SQ b h' l xs:=by
 cases b with
 |true=>exact Heap.IsList.at x k
 |false=>obtain⟨o,e,r⟩:=(show h.IsTuple l xs from x);exact(show h'.IsTuple l xs from⟨o,k o e,r⟩)
theorem SI.keep{b:Bool}{h h':Uc}{i l:T5}{n:Nat}(x:SI b h i l n)(k:∀o,h.get? i=some o->h'.get? i=some o):SI b h' i l n:=by
 cases b with
 |true=>exact Heap.IsListIter.at x k
 |false=>exact Heap.IsTupleIter.at x k
theorem SQ.lt{b:Bool}{h:Uc}{l:T5}{xs:Array T2}(x:SQ b h l xs):l<h.objs.size:=by
 cases b with
 |true=>obtain⟨o,e,_⟩:=(show h.IsList l xs from x);exact Tj e
 |false=>obtain⟨o,e,_⟩:=(show h.IsTuple l xs from x);exact Tj e
theorem SI.get{b:Bool}{h:Uc}{i l:T5}{n:Nat}(x:SI b h i l n):∃o,h.get? i=some o/\∀v,o.data≠.cell v:=by
 cases b with
 |true=>obtain⟨o,e,_,d⟩:=(show h.IsListIter i l n from x);exact⟨o,e,λv z=>by rw[d]at z;cases z⟩
 |false=>obtain⟨o,e,_,d⟩:=(show h.IsTupleIter i l n from x);exact⟨o,e,λv z=>by rw[d]at z;cases z⟩
theorem SI.new{b:Bool}{h:Uc}{l:T5}:SI b (h.push {cls:=.type (LR b),data:=.fields #[.ref l,.int 0 0]}) h.objs.size l 0:=by
 cases b with
 |true=>exact⟨_,Tp _ rfl,rfl,rfl⟩
 |false=>exact⟨_,Tp _ rfl,rfl,rfl⟩
theorem qw{b:Bool}{prog:Ua}{w:T9}{A:Uj}{E:T2->T8->Prop}{s:T8}{l:T5}{xs:Array T2}{Q:T2->T8->Prop}(h:SQ b s.heap l xs)
  (hQ:Q (.ref s.heap.objs.size) {s with heap:=s.heap.push {cls:=.type (LR b),data:=.fields #[.ref l,.int 0 0]}}):Ul (model prog w) A (pyIter (.ref l)) Q E s:=by
 cases b with
 |true=>exact Uv h hQ
 |false=>exact wpAny_pyIter_tuple h hQ
theorem kT{prog:Ua}{w:T9}{A:Uj}(b:Bool)(hh:A.handled=none)(it l:T5)(hne:l≠it)(its:Array T2):Draws prog w A it [it,l] its.size (λi v=>its[i]?=some v) (λi h=>SI b h it l i/\SQ b h l its):=by
 cases b with
 |true=>exact Draws.list hh it l hne its
 |false=>exact JV hh it l hne its
noncomputable abbrev Bi(b1:Bool)(h:Uc)(l1:T5):Uc:=h.push {cls:=.type (LR b1),data:=.fields #[.ref l1,.int 0 0]}
noncomputable abbrev Lq(b1 b2:Bool)(h:Uc)(l1 l2:T5):Uc:=(Bi b1 h l1).push {cls:=.type (LR b2),data:=.fields #[.ref l2,.int 0 0]}
noncomputable abbrev LY(b1 b2:Bool)(h:Uc)(l1 l2:T5):Uc:=(Lq b1 b2 h l1 l2).push {cls:=.type "tuple",data:=.seq #[.ref h.objs.size,.ref (Bi b1 h l1).objs.size]}
noncomputable abbrev LQ(b1 b2:Bool)(h:Uc)(l1 l2:T5):Uc:=(LY b1 b2 h l1 l2).push {cls:=.type "tuple",data:=.seq #[.none,.none]}
noncomputable abbrev HC(b1 b2:Bool)(h:Uc)(l1 l2:T5):Uc:=(LQ b1 b2 h l1 l2).push {cls:=.type "zip",data:=.fields #[.none,.bool false,.bool false,.ref (Lq b1 b2 h l1 l2).objs.size,.ref (LY b1 b2 h l1 l2).objs.size]}
theorem DS(b1 b2:Bool)(l1 l2:T5)(xs ys:Array T2):Meets (Builtin.«zip.__new__» ⟨[.type "zip",.ref l1,.ref l2],[]⟩) (λ_ R s=>SQ b1 s.heap l1 xs/\SQ b2 s.heap l2 ys/\R (.ok (.ret (.ref (LQ b1 b2 s.heap l1 l2).objs.size))) {s with heap:=HC b1 b2 s.heap l1 l2}):=
 .of_wp λprog w A R s h=>by
  obtain⟨hp,g,d,tk,os⟩:=s;obtain⟨q1,q2,h⟩:=h;have hsub:=sub_zip;have e1:SQ b1 (Shared.heap ⟨hp,g,d,tk,os⟩) l1 xs:=q1;have e2:SQ b2 (Shared.heap ⟨Bi b1 hp l1,g,d,tk,os⟩) l2 ys:=q2.keep λo e=>To _ e
  wp_walk using qw e1,qw e2
  exact⟨_,rfl,h⟩
theorem Dk{prog:Ua}{w:T9}{A:Uj}{E:T2->T8->Prop}{s:T8}{b1 b2:Bool}{l1 l2:T5}{xs ys:Array T2}{Q:T2->T8->Prop}(h1:SQ b1 s.heap l1 xs)(h2:SQ b2 s.heap l2 ys)
  (h:∀ g,Vh g (s.heap.objs.size+4) (s.heap.objs.size+2) (s.heap.objs.size+3) .none->Vi g (s.heap.objs.size+2) (.ref s.heap.objs.size) (.ref (s.heap.objs.size+1))->Vi g (s.heap.objs.size+3) .none .none->SI b1 g s.heap.objs.size l1 0->SI b2 g (s.heap.objs.size+1) l2 0 ->
   (∀c o,s.heap.get? c=some o->g.get? c=some o)->Q (.ref (s.heap.objs.size+4)) {s with heap:=g}):Ul (model prog w) A (call (.type "zip") [.ref l1,.ref l2]) Q E s:=by
 refine callType_new F.called_zip (by decide) (F.typeCall_zip_2 _ _) (F.newCall_zip_2 _ _) (λobj=>F.args_object_init_3 obj _ _) F.entry_zip_new (DS b1 b2 l1 l2 xs ys) ⟨h1,h2,?_⟩;have z1:(Bi b1 s.heap l1).objs.size=s.heap.objs.size+1:=Tq ..
 have z2:(Lq b1 b2 s.heap l1 l2).objs.size=s.heap.objs.size+2:=by rw[Tq,z1]
 have z3:(LY b1 b2 s.heap l1 l2).objs.size=s.heap.objs.size+3:=by rw[Tq,z2]
 have z4:(LQ b1 b2 s.heap l1 l2).objs.size=s.heap.objs.size+4:=by rw[Tq,z3]
 have u1:∀c o,(Bi b1 s.heap l1).get? c=some o->(HC b1 b2 s.heap l1 l2).get? c=some o:=λc o e=>To _ (To _ (To _ (To _ e)));have u2:∀c o,(Lq b1 b2 s.heap l1 l2).get? c=some o->(HC b1 b2 s.heap l1 l2).get? c=some o:=λc o e=>To _ (To _ (To _ e));have g5:(HC b1 b2 s.heap l1 l2).get? (LQ b1 b2 s.heap l1 l2).objs.size=some _:=Tp _ rfl;have g4:(HC b1 b2 s.heap l1 l2).get? (LY b1 b2 s.heap l1 l2).objs.size=some _:=To _ (Tp _ rfl);have g3:(HC b1 b2 s.heap l1 l2).get? (Lq b1 b2 s.heap l1 l2).objs.size=some _:=To _ (To _ (Tp _ rfl));have g2:SI b2 (HC b1 b2 s.heap l1 l2) (Bi b1 s.heap l1).objs.size l2 0:=SI.keep (SI.new (h:=Bi b1 s.heap l1)) λo e=>u2 _ o e;have g1:SI b1 (HC b1 b2 s.heap l1 l2) s.heap.objs.size l1 0:=SI.keep SI.new λo e=>u1 _ o e;show _/\_;rw[z2,z3,z4]at g5;rw[z1,z2]at g3;rw[z3]at g4;rw[z1]at g2;rw[z4];exact⟨⟨_,g5,rfl⟩,h _ g5 g3 g4 g1 g2 λc o e=>u1 c o (To _ e)⟩
theorem Ao(b : Bool)(l : T5)(xs : Array T2): Meets (Builtin.«enumerate.__new__» ⟨[.type "enumerate", .ref l], []⟩) (fun _ R s => SQ b s.heap l xs /\
      R (.ok (.ret (.ref (Bi b s.heap l).objs.size))) {s with heap:=(Bi b s.heap l).push {cls:=.type "enumerate",data:=.fields #[.none,.bool false,.ref s.heap.objs.size,rawInt 0,.none,.none]}}):=
  .of_wp λprog w A R s h=>by
    obtain⟨hp,g,d,tk,os⟩:=s;obtain⟨q1,h⟩:=h;have hsub:=sub_enumerate;have e1:SQ b (Shared.heap ⟨hp,g,d,tk,os⟩) l xs:=q1
    wp_walk using qw e1
    refine wpAny_stack_any λst=>Ut ?_;split
    · rename_i c _ _ _ _ _
      cases(c==Value.type "enumerate")<;>(wp_walk using qw e1;exact⟨_,rfl,h⟩)
    · wp_walk using qw e1
      exact⟨_,rfl,h⟩
end ZI
namespace TG
open PySem PySem.Spec L2 ZI
variable[aB]
section
variable{X:Cx}{pins:bf}{σ:St}{H:Hp}{s:T8}{h':Uc}
theorem Inv.turnedL{ch:az}{p:T5}{o:HO}{t':Nat}(I:Inv X pins σ H s)(hf:∀b∈ch,rp X pins H b)(k:∀b u,b∉ch->s.heap.get? b=some u->h'.get? b=some u)(hp:s.heap.objs.size<=p)(new:b9 X.prog X.w (upd H p o) h' p o):
  Inv X pins σ (upd H p o) {s with heap:=h',toks:=t'}:=by
 have hn:=I.hok.fresh hp;have nch:∀b u,H b=some u->b∉ch:=λb u e z=>by rw[(hf b z).1]at e;cases e
 refine I.step (g':=s.gens) (d':=s.drawn) (ch:=ch) (λb hb=>?_) (λb o _ _ hc e _=>k b o hc e) (λb o _ _ hc e _=>⟨o.slots,k b o hc e⟩) (λb u _ q n=>by rw[ao (PC (Pz (Tj q) hp))];exact n)
  (λb o hc e=>⟨o,k b o hc e⟩) (λb xs q=>by rw[ao (aE q hn)];exact q) (λb u xs q=>by rw[ao (aE q hn)];exact q) (λb ps q=>⟨#[],by rw[ao (aE q hn),q];simp⟩) (λm hm=>?_) (λb u e=>?_) I.bare
 ·obtain⟨_,f1,_,f3,f4,f5⟩:=hf b hb;exact⟨f3,f1,f4,f5⟩
 ·obtain⟨o,es,ep,ho,r⟩:=hm;exact⟨o,es,ep,k _ o (λz=>(hf _ z).2.1 rfl) ho,r⟩
 ·by_cases hb:b=p
  ·subst hb;rw[ay]at e;cases e;exact new
  ·rw[ao hb]at e;refine(I.hok b u e).stay (λc v hc q=>k c v ?_ q) (λc q=>by rw[ao (aE q hn)];exact q) λc xs q=>by rw[ao (aE q hn)];exact q
   rcases hc with z|z
   ·rw[z];exact nch b u e
   ·exact nch c _ z
theorem Inv.turned0{ch:az}{t':Nat}(I:Inv X pins σ H s)(hf:∀b∈ch,rp X pins H b)(k:∀b u,b∉ch->s.heap.get? b=some u->h'.get? b=some u):Inv X pins σ H {s with heap:=h',toks:=t'}:=by
 have nch:∀b u,H b=some u->b∉ch:=λb u e z=>by rw[(hf b z).1]at e;cases e
 refine I.step (g':=s.gens) (d':=s.drawn) (ch:=ch) (λb hb=>?_) (λb o _ _ hc e _=>k b o hc e) (λb o _ _ hc e _=>⟨o.slots,k b o hc e⟩) (λ_ _ _ _ n=>n)
  (λb o hc e=>⟨o,k b o hc e⟩) (λ_ _ e=>e) (λ_ _ _ e=>e) (λb ps e=>⟨#[],by rw[e];simp⟩) (λm hm=>?_) (λb u e=>?_) I.bare
 ·obtain⟨_,f1,_,f3,f4,f5⟩:=hf b hb;exact⟨f3,f1,f4,f5⟩
 ·obtain⟨o,es,ep,ho,r⟩:=hm;exact⟨o,es,ep,k _ o (λz=>(hf _ z).2.1 rfl) ho,r⟩
 ·refine(I.hok b u e).stay (λc v hc q=>k c v ?_ q) (λ_ q=>q) λ_ _ q=>q;rcases hc with z|z
  ·rw[z];exact nch b u e
  ·exact nch c _ z
end
noncomputable def SX(K:SH)(b:Bool)(H:Hp)(a:T5)(xs:aJ):Prop:=if b then md K H a xs else nA K H a xs
theorem SX.same{K:SH}{b:Bool}{H H':Hp}{a:T5}{xs:aJ}(e:aR H H')(h:SX K b H a xs):SX K b H' a xs:=by
 cases b with
 |true=>exact e.seq (show md K H a xs from h)
 |false=>exact Bh e (show nA K H a xs from h)
section
variable{X:Cx}{pins:bf}{σ:St}{H:Hp}{s:T8}
theorem Inv.sx(I:Inv X pins σ H s){b:Bool}{a:T5}{xs:aJ}(h:SX X.K b H a xs):∃its:aU,Vals xs its/\SQ b s.heap a its.toArray/\xs.length<=Ud:=by
 cases b with
 |true=>obtain⟨its,r,p,z⟩:=I.list (show md X.K H a xs from h);exact⟨its,r,p.isList,z⟩
 |false=>obtain⟨its,r,p,z⟩:=I.tuple (show nA X.K H a xs from h);exact⟨its,r,p,z⟩
theorem Inv.sx_inj(I:Inv X pins σ H s){b:Bool}{a:T5}{xs ys:aJ}(h:SX X.K b H a xs)(h':SX X.K b H a ys):xs=ys:=by
 cases b with
 |true=>exact I.list_inj h h'
 |false=>exact I.tuple_inj h h'
end
noncomputable def Oa(K:SH)(b1 b2:Bool)(a1 a2:T5):It:=
  ⟨fun i H=>∃ xs ys,SX K b1 H a1 xs/\SX K b2 H a2 ys/\i < xs.length/\i < ys.length,
   λi H v H'=>∃p x y,v=.ref p/\H p=none/\H'=upd H p (.tup [x,y])/\(∀xs,SX K b1 H a1 xs->xs[i]?=some x)/\∀ys,SX K b2 H a2 ys->ys[i]?=some y,
   λi H=>∃xs ys,SX K b1 H a1 xs/\SX K b2 H a2 ys/\(i=xs.length\/(i<xs.length/\i=ys.length))⟩
theorem Cm{P:Ua}{w:T9}{K:SH}{es:bx}{k:Nat}{pos:Pos}{b1 b2:Bool}{a1 a2 z TI TO i1 i2:T5}(Ap:Apart z TI TO i1 i2 [i1,a1] [i2,a2])(n1:a1≠i1)(n2:a2≠i2)(n3:z≠i1)(n4:z≠i2):Turn P w K (.Tuple es k pos) (Oa K b1 b2 a1 a2) [z,TI,TO,i1,i2] z
  (λi h=>Vh h z TI TO .none/\Vi h TI (.ref i1) (.ref i2)/\(∃a b,Vi h TO a b)/\SI b1 h i1 a1 i/\SI b2 h i2 a2 i)where
 mem:=by simp
 obj:=λi h ⟨hz,hI,⟨a,b,hO⟩,s1,s2⟩ c hc=>by
  simp only[Ri,Rj,or_false]at hc;rcases hc with rfl|rfl|rfl|rfl|rfl
  ·exact⟨_,hz,λv q=>by cases q⟩
  ·exact⟨_,hI,λv q=>by cases q⟩
  ·exact⟨_,hO,λv q=>by cases q⟩
  ·exact s1.get
  ·exact s2.get
 keep:=λi h h' ⟨hz,hI,⟨a,b,hO⟩,s1,s2⟩ kp=>⟨kp z (by simp) _ hz,kp TI (by simp) _ hI,⟨a,b,kp TO (by simp) _ hO⟩,s1.keep λo e=>kp i1 (by simp) o e,s2.keep λo e=>kp i2 (by simp) o e⟩
 item:=by
  rintro X hP hw hK hc i pins s σ H E I hf ⟨hz,hI,⟨a,b,hO⟩,s1,s2⟩ hg;subst hP hw hK;obtain⟨xs,ys,g1,g2,l1,l2⟩:=hg;obtain⟨its1,r1,q1,z1⟩:=Inv.sx I g1;obtain⟨its2,r2,q2,z2⟩:=Inv.sx I g2;have hh:X.A.in1.handled=none:=I.ok.hd hc;have hT:s.TypeIs (.ref z) "zip":=⟨_,hz,rfl⟩
  unfold pyNext;refine Uu (Vo (U1 (name:=Str.ofString "__next__") hT F.slot_zip_next (U2 F.slot_zip_next hT F.entry_zip_next
   (next_item Ap (kT (A:=X.A.in1) b1 hh i1 a1 n1 its1.toArray) (kT (A:=X.A.in1) b2 hh i2 a2 n2 its2.toArray) hz hI hO ⟨s1,q1⟩ ⟨s2,q2⟩ (by rw[P0,<-r1.length];exact l1) (by rw[P0,<-r2.length];exact l2) λu v g tk p1 p2 hz' hO' t1 t2 hp sz kp=>?_) (F.args_zip_next_1 _))))
  have e1:its1[i]?=some u:=by simpa using p1
  have e2:its2[i]?=some v:=by simpa using p2
  have hx:∃x,xs[i]?=some x/\RelV x u:=by
   obtain⟨u',hu,ru⟩:=r1.get (i:=i) (x:=xs[i]) (by simp[l1]);rw[e1]at hu;cases hu;exact⟨xs[i],by simp[l1],ru⟩
  have hy:∃y,ys[i]?=some y/\RelV y v:=by
   obtain⟨u',hu,ru⟩:=r2.get (i:=i) (x:=ys[i]) (by simp[l2]);rw[e2]at hu;cases hu;exact⟨ys[i],by simp[l2],ru⟩
  obtain⟨x,ex,rx⟩:=hx;obtain⟨y,ey,ry⟩:=hy;refine Ut ⟨_,rfl,?_⟩;refine wpAny_letOwnedTupleGo_zip hz' λg' hz2 sb=>?_;have hpz:s.heap.objs.size≠z:=PR (Tj hz);have hp':Vi g' s.heap.objs.size u v:=sb.extBut _ _ hpz hp;have I':Inv X pins σ (upd H s.heap.objs.size (.tup [x,y])) {s with heap:=g',toks:=tk}:=Inv.turnedL (ch:=[z,TI,TO,i1,i2]) I hf (λc o hc e=>by
   simp only[Ri,Rj,or_false,not_or]at hc;exact sb.extBut _ _ hc.1 (kp c o hc.1 hc.2.2.1 hc.2.2.2.1 hc.2.2.2.2 e)) (PX _) ⟨by show 2<=Ud;decide,[u,v],.cons rx (.cons ry .nil),_,hp',rfl,_,rfl⟩
  have fr:H s.heap.objs.size=none:=I.fresh;have ne:∀c∈[z,TI,TO,i1,i2],c≠s.heap.objs.size:=λc hc e=>by
   simp only[Ri,Rj,or_false]at hc;rcases hc with rfl|rfl|rfl|rfl|rfl
   ·exact hpz e.symm
   ·exact absurd (Tj hI) (by rw[e];exact PB _)
   ·exact absurd (Tj hO) (by rw[e];exact PB _)
   ·obtain⟨o,q,_⟩:=s1.get;exact absurd (Tj q) (by rw[e];exact PB _)
   ·obtain⟨o,q,_⟩:=s2.get;exact absurd (Tj q) (by rw[e];exact PB _)
  refine⟨.ref s.heap.objs.size,_,I',rfl,⟨_,x,y,rfl,fr,rfl,λxs' h=>by rw[Inv.sx_inj I h g1];exact ex,λys' h=>by rw[Inv.sx_inj I h g2];exact ey⟩,⟨hz2,?_,⟨u,v,sb.extBut _ _ Ap.a2 hO'⟩,?_,?_⟩,λc hc=>by rw[ao (ne c hc)];exact(hf c hc).1⟩
  ·exact sb.extBut _ _ Ap.a1 (kp TI _ Ap.a1 Ap.a3 Ap.d1 Ap.d2 hI)
  ·exact t1.1.keep λo e=>sb.extBut _ _ n3.symm e
  ·exact t2.1.keep λo e=>sb.extBut _ _ n4.symm e
 done:=by
  rintro X hP hw hK hc i pins s σ H E I hf ⟨hz,hI,⟨a,b,hO⟩,s1,s2⟩ hg;subst hP hw hK;obtain⟨xs,ys,g1,g2,hl⟩:=hg;obtain⟨its1,r1,q1,z1⟩:=Inv.sx I g1;obtain⟨its2,r2,q2,z2⟩:=Inv.sx I g2;have hh:X.A.in1.handled=none:=I.ok.hd hc;have hT:s.TypeIs (.ref z) "zip":=⟨_,hz,rfl⟩
  unfold pyNext;refine Uu (Vo (U1 (name:=Str.ofString "__next__") hT F.slot_zip_next (U2 F.slot_zip_next hT F.entry_zip_next
   (next_end (i:=i) Ap (kT (A:=X.A.in1) b1 hh i1 a1 n1 its1.toArray) (kT (A:=X.A.in1) b2 hh i2 a2 n2 its2.toArray) hz hI hO ⟨s1,q1⟩ ⟨s2,q2⟩ (by rw[P0,P0,<-r1.length,<-r2.length];exact hl) λg e tk kp he=>?_) (F.args_zip_next_1 _))))
  obtain⟨o,ho,hce⟩:=he;refine Uu (Vp (T:="StopIteration") (b:=true) ⟨o,ho,hce⟩ Vq ?_);refine Ut ⟨rfl,Inv.turned0 (ch:=[z,TI,TO,i1,i2]) I hf λc o hc e=>?_⟩;simp only[Ri,Rj,or_false,not_or]at hc;exact kp c o hc.1 hc.2.2.1 hc.2.2.2.1 hc.2.2.2.2 e
 self:=λ_ _ _ _ _ ⟨hz,_⟩ h=>wpAny_pyIter_zip hz h
noncomputable def FQ:D->Option (Bool×List D)
 |.lst xs=>some (true,xs)
 |.tup xs=>some (false,xs)
 |_=>none
theorem pV{K:SH}{H:Hp}{d:D}{b:Bool}{xs:List D}{v:V}(e:FQ d=some (b,xs))(h:cu K H d v):∃a vs,v=.ref a/\SX K b H a vs/\aK K H xs vs:=by
 cases d with
 |lst ys=>cases e;exact bX.mp h
 |tup ys=>cases e;obtain⟨a,vs,e1,e2,e3⟩:=bY.mp h;exact⟨a,vs,e1,nA.of e2,e3⟩
 |_=>cases e
noncomputable def gR:List D->List D->List D
 |x::xs,y::ys=>.tup [x,y]::gR xs ys
 |_,_=>[]
theorem oE:∀xs ys:List D,(gR xs ys).length=min xs.length ys.length
 |[],_=>by simp[gR]
 |_::_,[]=>by simp[gR]
 |x::xs,y::ys=>by
  rw[gR,P5,oE xs ys,P5,P5];omega
theorem wj:∀{xs ys:List D}{i:Nat}{d:D},(gR xs ys)[i]?=some d->∃x y,xs[i]?=some x/\ys[i]?=some y/\d=.tup [x,y]
 |[],_,i,d,h=>by simp[gR]at h
 |_::_,[],i,d,h=>by simp[gR]at h
 |x::xs,y::ys,0,d,h=>by
  rw[gR,Rl]at h;cases h;exact⟨x,y,rfl,rfl,rfl⟩
 |x::xs,y::ys,i+1,d,h=>by
  rw[gR,Rm]at h;obtain⟨a,b,h1,h2,h3⟩:=wj h;exact⟨a,b,by rw[Rm];exact h1,by rw[Rm];exact h2,h3⟩
theorem CK{K:SH}{Hd:Hp}{b1 b2:Bool}{a1 a2:T5}{ds es:List D}{vs ws:aJ}(h1:SX K b1 Hd a1 vs)(g1:aK K Hd ds vs)(h2:SX K b2 Hd a2 ws)(g2:aK K Hd es ws):Walk K Hd (Oa K b1 b2 a1 a2) (gR ds es):=λHn O' i hO sm=>
  have s':aR Hd Hn:=sm.trans (aj Hn O')
  ⟨fun d e=>by
    obtain⟨x,y,e1,e2,rfl⟩:=wj e;have l1:i<ds.length:=(List.getElem?_eq_some_iff.mp e1).1;have l2:i<es.length:=(List.getElem?_eq_some_iff.mp e2).1;obtain⟨v,ev,dv⟩:=g1.get e1;obtain⟨w,ew,dw⟩:=g2.get e2;refine⟨⟨vs,ws,h1.same s',h2.same s',by rw[<-g1.length];exact l1,by rw[<-g2.length];exact l2⟩,λu H2 ⟨p,x',y',eu,hp,eH,q1,q2⟩=>?_⟩;have z1:=q1 vs (h1.same s');rw[ev]at z1;cases z1;have z2:=q2 ws (h2.same s');rw[ew]at z2;cases z2;subst eH eu;exact⟨bj hp _,dY hO hp (aX.mpr ⟨v,_,rfl,dv.mono sm,aX.mpr ⟨w,_,rfl,dw.mono sm,cn.mpr rfl⟩⟩)⟩,
   λhl=>by
    rw[oE]at hl;refine⟨vs,ws,h1.same s',h2.same s',?_⟩;rw[<-g1.length,<-g2.length]
    omega⟩
noncomputable def rk:List D->Option (List D)
 |[a,b]=>(FQ a).bind λx=>(FQ b).bind λy=>some (gR x.2 y.2)
 |_=>none
noncomputable def oU(f:bE):bE:=λρ=>(f ρ).bind λds=>rO (rk ds)
section
variable{X:Cx}
theorem HK{a b c:T5}(h1:a≠b)(h2:a≠c):a∉[b,c]:=λh=>by
 rcases List.mem_cons.mp h with z|z
 ·exact h1 z
 ·exact h2 (List.mem_singleton.mp z)
theorem A0{n a1 a2:T5}(h1:a1<n)(h2:a2<n):Apart (n+4) (n+2) (n+3) n (n+1) [n,a1] [n+1,a2]:=by
 have lt:∀{a b:Nat},a<b->(b:T5)≠(a:T5):=λh=>PR h;have lt':∀{a b:Nat},a<b->(a:T5)≠(b:T5):=λh=>PC h;have g:∀k:Nat,a1<n+k:=λk=>Pz h1 (Rn _ _);have g':∀k:Nat,a2<n+k:=λk=>Pz h2 (Rn _ _);have p:∀{j k:Nat},j<k->n+j<n+k:=λh=>Ro h n;have p0:∀{k:Nat},0<k->n<n+k:=λh=>Rp h;exact⟨lt' (p (by decide)),lt' (p (by decide)),lt' (p (by decide)),HK (lt (p0 (by decide))) (lt (g 4)),HK (lt (p0 (by decide))) (lt (g 3)),HK (lt (p0 (by decide))) (lt (g 1)),
  HK (lt (p (by decide))) (lt (g' 4)),HK (lt (p (by decide))) (lt (g' 3)),HK (lt' (p0 (by decide))) (lt h2),lt (p0 (by decide)),lt (p (by decide)),PJ,PJ⟩
theorem Jy{pins:bf}{s:T8}{σ:St}{H:Hp}{O:az}{es:bx}{k:Nat}{tpos:Pos}{ds r:List D}{vs:aJ}{us:aU}{RR:It->Hp->Prop}(I:Inv X pins σ H s)(hc:rk ds=some r)(d1:aK X.K (hid H O) ds vs)(rv:Vals vs us)(q:∀J,Walk X.K (hid H O) J r->RR J H):
  Ul (model X.prog X.w) X.A (call (.type "zip") us) (λv s1=>Ul (model X.prog X.w) X.A (pyIter v) (PIE X pins σ (.Tuple es k tpos) RR) X.xe s1) X.xe s:=by
 unfold rk at hc;split at hc
 ·rename_i a b;obtain⟨⟨b1,xs⟩,e1,hc⟩:=bind_some hc;obtain⟨⟨b2,ys⟩,e2,hc⟩:=bind_some hc;cases hc;obtain⟨va,vb,rfl,da,db⟩:=d1.two;obtain⟨u1,u2,rfl,r1,r2⟩:=vals2 rv;obtain⟨a1,ws1,rfl,x1,y1⟩:=pV e1 da;obtain⟨a2,ws2,rfl,x2,y2⟩:=pV e2 db;cases r1;cases r2;obtain⟨its1,rr1,q1,_⟩:=Inv.sx I (x1.same (aj H O));obtain⟨its2,rr2,q2,_⟩:=Inv.sx I (x2.same (aj H O));refine Dk q1 q2 λg hz hI hO s1 s2 kp=>wpAny_pyIter_zip hz ?_;have Ap:=A0 q1.lt q2.lt;refine⟨_,_,_,_,H,rfl,I.kept (t':=s.toks) kp,Cm (b1:=b1) (b2:=b2) Ap (PC q1.lt) (PC (Pz q2.lt (Rn _ 1))) (PR (Rp (by decide))) (PR (Ro (by decide) _)),⟨hz,hI,⟨_,_,hO⟩,s1,s2⟩,λb hb=>?_,q _ (CK x1 y1 x2 y2)⟩;have le:s.heap.objs.size<=b:=by
   simp only[Ri,Rj,or_false]at hb;rcases hb with rfl|rfl|rfl|rfl|rfl
   ·exact Rn _ _
   ·exact Rn _ _
   ·exact Rn _ _
   ·exact PX _
   ·exact Rn _ _
  exact I.fpOk le (I.hok.fresh le)
 ·cases hc
end
noncomputable def N4(K:SH)(b:Bool)(a:T5):It:=
  ⟨fun i H=>∃ xs,SX K b H a xs/\i < xs.length,
   λi H v H'=>∃p x,v=.ref p/\H p=none/\H'=upd H p (.tup [.int i,x])/\∀xs,SX K b H a xs->xs[i]?=some x,
   λi H=>∃xs,SX K b H a xs/\i=xs.length⟩
theorem Aa{P:Ua}{w:T9}{K:SH}{es:bx}{k:Nat}{pos:Pos}{b:Bool}{a e it:T5}(n1:a≠it)(n2:e≠it)(n3:e≠a):Turn P w K (.Tuple es k pos) (N4 K b a) [e,it] e (λi h=>(∃old,IsEnum h e it i old)/\SI b h it a i)where
 mem:=by simp
 obj:=λi h ⟨⟨old,he⟩,s1⟩ c hc=>by
  simp only[Ri,Rj,or_false]at hc;rcases hc with rfl|rfl
  ·exact⟨_,he,λv q=>by cases q⟩
  ·exact s1.get
 keep:=λi h h' ⟨⟨old,he⟩,s1⟩ kp=>⟨⟨old,kp e (by simp) _ he⟩,s1.keep λo q=>kp it (by simp) o q⟩
 item:=by
  rintro X hP hw hK hc i pins s σ H E I hf ⟨⟨old,he⟩,s1⟩ hg;subst hP hw hK;obtain⟨xs,g1,l1⟩:=hg;obtain⟨its,r1,q1,z1⟩:=Inv.sx I g1;have hh:X.A.in1.handled=none:=I.ok.hd hc;refine wpAny_pyNext_enum_itemD (kT (A:=X.A.in1) b hh it a n1 its.toArray) he ⟨s1,q1⟩ (by rw[P0,<-r1.length];exact l1) n2 (HK n2 n3) λu g tk p1 ho t1 hp sz kp=>?_;have e1:its[i]?=some u:=by simpa using p1
  obtain⟨u',hu,ru⟩:=r1.get (i:=i) (x:=xs[i]) (by simp[l1]);rw[e1]at hu;cases hu;refine⟨_,rfl,wpAny_letOwnedTupleGo_enum ho λg' he' sb=>?_⟩;have hpe:s.heap.objs.size≠e:=PR (Tj he);have hp':=sb.extBut _ _ hpe hp;have I':Inv X pins σ (upd H s.heap.objs.size (.tup [.int i,xs[i]])) {s with heap:=g',toks:=tk+1}:=Inv.turnedL (ch:=[e,it]) I hf (λc o hc q=>by
   simp only[Ri,Rj,or_false,not_or]at hc;exact sb.extBut _ _ hc.1 (kp c o hc.1 hc.2 q)) (PX _) ⟨by show 2<=Ud;decide,[.int i tk,u],.cons ⟨_,rfl⟩ (.cons ru .nil),_,hp',rfl,_,rfl⟩
  have ne:∀c∈[e,it],c≠s.heap.objs.size:=λc hc q=>by
   simp only[Ri,Rj,or_false]at hc;rcases hc with rfl|rfl
   ·exact hpe q.symm
   ·obtain⟨o,q',_⟩:=s1.get;exact absurd (Tj q') (by rw[q];exact PB _)
  refine⟨.ref s.heap.objs.size,_,I',rfl,⟨_,xs[i],rfl,I.fresh,rfl,λxs' h=>by rw[Inv.sx_inj I h g1];simp[l1]⟩,⟨⟨u,?_⟩,t1.1.keep λo q=>sb.extBut _ _ n2.symm q⟩,λc hc=>by rw[ao (ne c hc)];exact(hf c hc).1⟩;have ei:((i+1:Nat):Int)=(i:Int)+1:=by omega
  rw[ei];exact he'
 done:=by
  rintro X hP hw hK hc i pins s σ H E I hf ⟨⟨old,he⟩,s1⟩ hg;subst hP hw hK;obtain⟨xs,g1,l1⟩:=hg;obtain⟨its,r1,q1,z1⟩:=Inv.sx I g1;have hh:X.A.in1.handled=none:=I.ok.hd hc;have el:i=its.toArray.size:=by rw[P0,<-r1.length];exact l1
  refine wpAny_pyNext_enum_endD (kT (A:=X.A.in1) b hh it a n1 its.toArray) he ⟨by rw[<-el];exact s1,q1⟩ λg kp=>⟨rfl,Inv.turned0 (ch:=[e,it]) I hf λc o hc q=>?_⟩
  simp only[Ri,Rj,or_false,not_or]at hc;exact kp c o hc.2 q
 self:=λ_ _ _ _ _ ⟨⟨old,he⟩,_⟩ h=>wpAny_pyIter_enum he h
noncomputable def jQ(i:Nat):List D->List D
 |[]=>[]
 |x::xs=>.tup [.int i,x]::jQ (i+1) xs
theorem mr:∀(i:Nat)(xs:List D),(jQ i xs).length=xs.length
 |_,[]=>rfl
 |i,x::xs=>by rw[jQ,P5,mr (i+1) xs,P5]
theorem sL:∀{xs:List D}{k i:Nat}{d:D},(jQ k xs)[i]?=some d->∃x,xs[i]?=some x/\d=.tup [.int ((k+i:Nat):Int),x]
 |[],k,i,d,h=>by simp[jQ]at h
 |x::xs,k,0,d,h=>by
  rw[jQ,Rl]at h;cases h;exact⟨x,rfl,rfl⟩
 |x::xs,k,i+1,d,h=>by
  rw[jQ,Rm]at h;obtain⟨y,h1,h2⟩:=sL h;refine⟨y,by rw[Rm];exact h1,?_⟩;rw[h2];congr 4;omega
theorem AA{K:SH}{Hd:Hp}{b:Bool}{a:T5}{ds:List D}{vs:aJ}(h1:SX K b Hd a vs)(g1:aK K Hd ds vs):Walk K Hd (N4 K b a) (jQ 0 ds):=λHn O' i hO sm=>
  have s':aR Hd Hn:=sm.trans (aj Hn O')
  ⟨fun d e=>by
    obtain⟨x,e1,rfl⟩:=sL e;have l1:i<ds.length:=(List.getElem?_eq_some_iff.mp e1).1;obtain⟨v,ev,dv⟩:=g1.get e1;refine⟨⟨vs,h1.same s',by rw[<-g1.length];exact l1⟩,λu H2 ⟨p,x',eu,hp,eH,q1⟩=>?_⟩;have z1:=q1 vs (h1.same s');rw[ev]at z1;cases z1;subst eH eu;rw[Rq];exact⟨bj hp _,dY hO hp (aX.mpr ⟨.int i,_,rfl,eF.mpr rfl,aX.mpr ⟨v,_,rfl,dv.mono sm,cn.mpr rfl⟩⟩)⟩,
   λhl=>by
    rw[mr]at hl;exact⟨vs,h1.same s',by rw[<-g1.length];exact hl⟩⟩
noncomputable def tE:List D->Option (List D)
 |[a]=>(FQ a).bind λx=>some (jQ 0 x.2)
 |_=>none
noncomputable def gb(f:bE):bE:=λρ=>(f ρ).bind λds=>rO (tE ds)
section
variable{X:Cx}
theorem z7{prog:Ua}{w:T9}{A:Uj}{E:bh}{s:T8}{b:Bool}{l:T5}{xs:dX}{Q:bh}(h1:SQ b s.heap l xs)
  (h:∀g,IsEnum g (s.heap.objs.size+1) s.heap.objs.size 0 .none->SI b g s.heap.objs.size l 0->(∀c o,s.heap.get? c=some o->g.get? c=some o)->Q (.ref (s.heap.objs.size+1)) {s with heap:=g}):Ul (model prog w) A (call (.type "enumerate") [.ref l]) Q E s:=by
 refine callType_new F.called_enumerate (by decide) (F.typeCall_enumerate_1 _) (F.newCall_enumerate_1 _) (λobj=>F.args_object_init_2 obj _) F.entry_enumerate_new (Ao b l xs) ⟨h1,?_⟩;have z1:(Bi b s.heap l).objs.size=s.heap.objs.size+1:=Tq ..
 have g2:=Tp (Bi b s.heap l) (o:={cls:=.type "enumerate",data:=.fields #[.none,.bool false,.ref s.heap.objs.size,rawInt 0,.none,.none]}) rfl;have g1:SI b ((Bi b s.heap l).push {cls:=.type "enumerate",data:=.fields #[.none,.bool false,.ref s.heap.objs.size,rawInt 0,.none,.none]}) s.heap.objs.size l 0:=SI.keep SI.new λo e=>To _ e;show _/\_;rw[z1]at g2 ⊢;exact⟨⟨_,g2,rfl⟩,h _ g2 g1 λc o e=>To _ (To _ e)⟩
theorem Eo{pins:bf}{s:T8}{σ:St}{H:Hp}{O:az}{es:bx}{k:Nat}{tpos:Pos}{ds r:List D}{vs:aJ}{us:aU}{RR:It->Hp->Prop}(I:Inv X pins σ H s)(hc:tE ds=some r)(d1:aK X.K (hid H O) ds vs)(rv:Vals vs us)(q:∀J,Walk X.K (hid H O) J r->RR J H):
  Ul (model X.prog X.w) X.A (call (.type "enumerate") us) (λv s1=>Ul (model X.prog X.w) X.A (pyIter v) (PIE X pins σ (.Tuple es k tpos) RR) X.xe s1) X.xe s:=by
 unfold tE at hc;split at hc
 ·rename_i a;obtain⟨⟨b1,xs⟩,e1,hc⟩:=bind_some hc;cases hc;obtain⟨va,rfl,da⟩:=d1.one;obtain⟨u1,rfl,r1⟩:=vals1 rv;obtain⟨a1,ws1,rfl,x1,y1⟩:=pV e1 da;cases r1;obtain⟨its1,rr1,q1,_⟩:=Inv.sx I (x1.same (aj H O));refine z7 q1 λg he s1 kp=>wpAny_pyIter_enum he ?_;refine⟨_,_,_,_,H,rfl,I.kept (t':=s.toks) kp,Aa (b:=b1) (PC q1.lt) (PR (Rp (by decide))) (PR (Pz q1.lt (Rn _ 1))),⟨⟨_,he⟩,s1⟩,λb hb=>?_,q _ (AA x1 y1)⟩;have le:s.heap.objs.size<=b:=by
   simp only[Ri,Rj,or_false]at hb;rcases hb with rfl|rfl
   ·exact Rn _ _
   ·exact PX _
  exact I.fpOk le (I.hok.fresh le)
 ·cases hc
end
end TG
namespace TG
open PySem PySem.Spec L2
variable[aB]
theorem tN{K:SH}{c:Str}{C C':T5}(h:clsAt K c C)(h':clsAt K c C'):C=C':=by
 unfold clsAt at h h';rw[h]at h';cases h';rfl
theorem p5{K:SH}{H:Hp}{f:Str}:∀{fs:ax}{ds:List D}{vs:aJ}{d:D},aK K H ds vs->(fs.zip ds).lookup f=some d->∃v,(fs.zip vs).lookup f=some v/\cu K H d v
 |[],_,_,_,_,e=>by simp at e
 |_::_,[],_,_,_,e=>by simp at e
 |g::fs,x::ds,vs,d,h,e=>by
  rw[aX]at h;obtain⟨v,r,rfl,h1,h2⟩:=h;rw[Rr,Qz]at e ⊢;cases hg:f==g with
  |true=>rw[hg]at e;cases e;exact⟨v,rfl,h1⟩
  |false=>rw[hg]at e;exact p5 h2 e
theorem rM{f:Str}:∀{fs:ax}{vs:aJ},fs.contains f=false->(fs.zip vs).lookup f=none
 |[],_,_=>by simp
 |_::_,[],_=>by simp
 |g::fs,x::vs,h=>by
  rw[Rt,Ru]at h;rw[Rr,Qz,h.1];exact rM h.2
noncomputable def x9(f:Str)(cs:ax)(d:D):bG:=match d with
 |.obj c fs vs=>if cs.contains c then(fs.zip vs).lookup f else none
 |_=>none
noncomputable def D6(K:SH)(f:Str)(cs:ax):Prop:=∀c∈cs,∀C,clsAt K c C->wB K C/\jL K C f
section
variable{X:Cx}{a o e:T6}{es:bx}{fa fo:FX}{fas:bE}{f m x:Str}{cs:ax}{pos apos p:Pos}{k k':Nat}{ps:ax}
noncomputable def MethAt(P:Ua)(w:T9)(K:SH)(mg:cB)(base:Uc)(k:Nat)(c m:Str)(ps:ax)(g:cO):Prop:=
 ∃C f fd,clsAt K c C/\wB K C/\Meth K C m f/\ir P w K mg base (j3 P w) k f fd ps (zV K ps.length g)/\Binds K fd ps []
noncomputable def dL(m:Str)(tbl:List (Str×(cO)))(fo:FX)(fas:bE):FX:=λρ=>(fo ρ).bind λo=>match o with
 |.obj c fs vs=>match tbl.lookup c with
  |some g=>if fs.contains m then un else(fas ρ).bind λas=>g (o::as)
  |none=>un
 |_=>un
noncomputable def qQ(P:Ua)(w:T9)(K:SH)(mg:cB)(base:Uc)(k:Nat)(m:Str)(ps:ax)(tbl:List (Str×(cO))):Prop:=
 ∀c g,tbl.lookup c=some g->MethAt P w K mg base k c m ps g/\Ar ps.length g
theorem Fj{P:Ua}{w:T9}{K:SH}{mg:cB}{base:Uc}:qQ P w K mg base k m ps []:=λ_ _ h=>nomatch h
theorem D7{P:Ua}{w:T9}{K:SH}{mg:cB}{base:Uc}{c:Str}{g:cO}{tbl:List (Str×(cO))}(h:MethAt P w K mg base k c m ps g)(hn:Ar ps.length g)(t:qQ P w K mg base k m ps tbl):qQ P w K mg base k m ps ((c,g)::tbl):=λc' g' e=>by
 rw[Qz]at e;cases hc:c'==c with
 |true=>
  rw[hc]at e;cases e
  have:c'=c:=by simpa using hc
  subst this;exact⟨h,hn⟩
 |false=>rw[hc]at e;exact t c' g' e
theorem MethAt.mono{P:Ua}{w:T9}{K:SH}{mg:cB}{base:Uc}{c:Str}{g:cO}(h:MethAt P w K mg base k c m ps g)(hk:k<=k'):MethAt P w K mg base k' c m ps g:=by
 obtain⟨C,f,fd,h1,h2,h3,h4,h5⟩:=h;exact⟨C,f,fd,h1,h2,h3,h4.mono hk,h5⟩
theorem vJ{tbl:List (Str×(cO))}{args:bx}{pl:Sem Bool}(tb:qQ X.prog X.w X.K X.mg X.base k m ps tbl)(hr:eY k X.A)(ho:FE X o fo)
  (hc:∀ (pins:bf) (s1:T8) (σ:St) (H1:Hp) (O:az) (ρ:aq) (a f:T5) (od:D) (Q:VK) (g:cO) (fd:UM) (w0:V),S0 X.K (.ref f)=true->ir X.prog X.w X.K X.mg X.base (j3 X.prog X.w) k f fd ps (zV X.K ps.length g)->Binds X.K fd ps []->Ar ps.length g->Inv X pins σ H1 s1->dE X.K O H1 ρ σ->cu X.K (hid H1 O) od (.ref a) ->
   (gW X σ O H1 ((fas ρ).bind λas=>g (od::as)) λd=>∀v H',aR H1 H'->cu X.K (hid H' O) d v->Q v H')->
   Ul (model X.prog X.w) X.A (UI pos (.ref f) [.ref a] (backTo pos (Um args X.env)) (backToKw pos (UJ [] X.env))) (EP X pins σ Q) X.xe s1)
  (ht:eval (.Call (.Attribute o m apos) args [] pos) X.env=(do
   let ov<-eval o X.env
   standAt apos.atName
   let (f,first)<-holding [ov] (getMethod ov m pl)
   UI pos f first (backTo pos (Um args X.env)) (backToKw pos (UJ [] X.env)))):
  FE X (.Call (.Attribute o m apos) args [] pos) (dL m tbl fo fas):=by
 rintro pins s σ H Q I ⟨O,ρ,E,hF⟩;refine v7 ho I ?_ ht;refine⟨O,ρ,E,(gW.bind hF).imp λd hF v H1 s1 d1=>?_⟩;cases d with
 |obj c fs vs=>
  have hF':gW X σ O H (match tbl.lookup c with|some g=>if fs.contains m then un else(fas ρ).bind λas=>g (.obj c fs vs::as)|none=>un) _:=hF;cases hg:tbl.lookup c with
  |none=>rw[hg]at hF';exact hF'.elim
  |some g=>
   rw[hg]at hF';have hF2:gW X σ O H (if fs.contains m then un else(fas ρ).bind λas=>g (.obj c fs vs::as)) _:=hF';cases hm:fs.contains m with
   |true=>rw[hm]at hF2;exact hF2.elim
   |false=>
    rw[hm]at hF2;have hF3:gW X σ O H ((fas ρ).bind λas=>g (.obj c fs vs::as)) _:=hF2;have d0:=d1;obtain⟨a,ws,ev,g1,g2,C,dx,g3,g4⟩:=LN.mp d1;obtain⟨⟨C',f,fd,m1,m2,m3,m4,m5⟩,ar⟩:=tb c g hg;have eC:=tN g3 m1;subst eC;subst ev;refine⟨a,C,dx,_,f,rfl,aj H1 O _ _ g4,m2,m3,rM hm,λs2 I2=>?_⟩;exact hc pins s2 σ H1 O ρ a f _ Q g fd (.ref a) m3.kp m4 m5 ar I2 (E.same s1) d0 ((hF3.mono s1).imp λd q v H2 s2 d2=>q v H2 (s1.trans s2) d2)
 |_=>exact hF.elim
theorem pM{σ:St}{O:az}{H:Hp}{g:cO}{ds:List D}{vs:aJ}{Q:VK}{n:Nat}(ar:Ar n g)(hO:dN H O)(d1:aK X.K (hid H O) ds vs)(h:gW X σ O H (g ds) λd=>∀v H',aR H H'->cu X.K (hid H' O) d v->Q v H'):∃E,j7 (j3 X.prog X.w) X σ E/\zV X.K n g vs H Q E:=by
 cases hg:g ds with
 |ok d=>
  rw[hg]at h;refine⟨E0,y9,O,ds,by rw[<-d1.length];exact ar ds (by rw[hg];intro z;cases z),hO,d1,?_⟩;rw[hg];exact h
 |error z=>
  rw[hg]at h;cases z with
  |none=>exact h.elim
  |some x=>
   refine⟨yO X O H x,zb h,O,ds,by rw[<-d1.length];exact ar ds (by rw[hg];intro z;cases z),hO,d1,?_⟩;rw[hg];exact v8
theorem Am{P:Ua}{w:T9}{K:SH}{mg:cB}{base:Uc}{c y qual:Str}{C f:T5}{fd:UM}{st:T7}{N:ax}{B:bH}(h1:clsAt K c C)(h2:wB K C)(h3:Meth K C m f)(F:uQ K y qual st f fd)(b:Binds K fd ps [])(SC:dD N ps (aw st))(hb:BodyOk P w K mg base k N qual st f B):
  MethAt P w K mg base (k+1) c m ps (aC B ps.length N.length):=⟨C,f,fd,h1,h2,h3,tY F SC hb,b⟩
noncomputable def Oz(C:T5)(fs:ax):Sp:=λvs H Q _=>∃x dx as,vs=.ref x::as/\as.length=fs.length/\H x=some (.ins C dx [])/\Q .non (upd H x (.ins C dx (fs.zip as)))
noncomputable def uP(P:Ua)(w:T9)(K:SH)(mg:cB)(base:Uc)(k:Nat)(c:Str)(ps fs:ax):Prop:=
 ∃C f fd,clsAt K c C/\Mk K C f/\ir P w K mg base (j3 P w) k f fd ps (Oz C fs)/\Binds K fd ps []/\mg c=some (.ref C)
noncomputable def fNew(c:Str)(fs:ax)(fas:bE):FX:=λρ=>(fas ρ).bind λas=>if as.length=fs.length then .ok (.obj c fs as)else un
theorem vo{K:SH}{H1:Hp}{O:az}{c:Str}{fs:ax}{as:List D}{vs:aJ}{C x dx:T5}(hc:clsAt K c C)(hl:as.length=fs.length)(d1:aK K (hid H1 O) as vs)(hO:dN H1 O)(hx:H1 x=none)(hd:H1 dx=none)(ne:dx≠x):
  aR H1 (upd (upd (upd H1 dx (.own x)) x (.ins C dx [])) x (.ins C dx (fs.zip vs)))/\cu K (hid (upd (upd (upd H1 dx (.own x)) x (.ins C dx [])) x (.ins C dx (fs.zip vs))) O) (.obj c fs as) (.ref x):=by
 have sm:aR H1 (upd (upd (upd H1 dx (.own x)) x (.ins C dx [])) x (.ins C dx (fs.zip vs))):=λb o h=>by
  have n1:=aE h hx;have n2:=aE h hd;rw[ao n1,ao n1,ao n2];exact h
 exact⟨sm,LN.mpr ⟨x,vs,rfl,d1.mono (bq sm),by rw[<-d1.length,hl],C,dx,hc,by rw[gJ (hO.not hx),ay]⟩⟩
theorem K7{X:Cx}:xf (j3 X.prog X.w) X E0:=λ_ _ _ _ _ _ _ h=>by
 obtain⟨_,_,_,_,_,_,_,_,_,_,_,_,_,z⟩:=h;exact z.elim
theorem uS(f:Str)(v:V):∀{fs:List (Str×V)},(fs.map (·.1)).contains f=false->jT f v fs=fs++[(f,v)]
 |[],_=>rfl
 |(g,w)::fs,h=>by
  rw[P6,Rt,Ru]at h;have ne:¬g=f:=λz=>by
   have:=h.1
   rw[z]at this;simp at this
  have:=uS f v (fs:=fs) h.2
  unfold jT;simp only[ne,if_false,this,QE]
noncomputable def Hr(X:Cx)(cs:ax)(body:eJ)(fs:ax)(i:Nat):Prop:=
 ∃t,wy X body t/\∀(D:Ends)(σ:St)(H:Hp)(x dx C:T5)(done:List (Str×V))(as:aJ),σ[0]?=some (some (.ref x))->(∀j v,as[j]?=some v->σ[i+j]?=some (some v))->as.length=fs.length->wB X.K C->(∀f∈fs,jL X.K C f)->done.length+fs.length<1000->(done.map (·.1)++fs).Nodup->H x=some (.ins C dx done)->
  D.nx σ (upd H x (.ins C dx (done++fs.zip as)))->t D σ H
theorem zL{st:T7}{f:Str}{i:Nat}{o v:T6}{p1 p2:Pos}(hst:st=.Assign [.Attribute o f p1] v p2)(ho:PE X o (C3 0))(hv:PE X v (C3 i))(hs:swapsWith v (some (.Attribute o f p1)) p2.line X.env=pure false):Hr X cs [st] [f] i:=by
 subst hst;refine⟨_,yz (Jz ho hv hs),λD σ H x dx C done as h0 ha hl cl na hz nd hx q=>?_⟩;obtain⟨a,rfl⟩:∃a,as=[a]:=by
  match as,hl with
  |[a],_=>exact⟨a,rfl⟩
 refine⟨a,ha 0 a rfl,.ref x,h0,x,C,dx,done,rfl,hx,cl,na f (List.mem_singleton.mpr rfl),by simp at hz;omega,?_⟩;rw[uS f a (by
  have:=nd
  rw[Rv]at this;have h3:=this.2.2;cases hc:(done.map (·.1)).contains f with
  |false=>rfl
  |true=>exact absurd rfl (h3 f (List.contains_iff_mem.mp hc) f (List.mem_singleton.mpr rfl)))]
 exact q
theorem Bf{P:Ua}{w:T9}{K:SH}{mg:cB}{base:Uc}{c qual:Str}{C f:T5}{fd:UM}{st:T7}{fs:ax}(h1:clsAt K c C)(hM:Mk K C f)(cl:wB K C)(na:∀g∈fs,jL K C g)(F:uQ K "__init__" qual st f fd)(b:Binds K fd ps [])(hmg:mg c=some (.ref C))(SC:dD ps ps (aw st))(hps:ps.length=fs.length+1)(hnd:fs.Nodup)(hlen:fs.length<1000)
  (hb:∀(cdv:T2)(A:Uj)(outer:List Env)(s:T8)(H:Hp)(E:XK),Hr (ie L7 P w K mg base ps qual (aw st) f cdv A outer s H E).nox [] (dF st) fs 1):uP P w K mg base (k+1) c ps fs:=by
 refine⟨C,f,fd,h1,hM,?_,b,hmg⟩;refine ir.any (F.ok SC (λvs H Q E h=>?_) λcdv A outer s H vs Q E hr h=>?_)
 ·obtain⟨x,dx,as,rfl,hl,_⟩:=h;rw[P5,hl,hps]
 ·obtain⟨t,ht,hq⟩:=hb cdv A outer s H E;obtain⟨x,dx,as,rfl,hl,hx,q⟩:=h;have hst:L2.start ps (.ref x::as)=(.ref x::as).map some:=by
   unfold L2.start;rw[P5,hl,hps,Rx,Ry,Qa]
  refine⟨t,ht,hq _ _ H x dx C [] as (by rw[hst];rfl) (λj v e=>?_) hl cl na (by simpa using hlen) (by simpa using hnd) hx q⟩;rw[hst,Nat.add_comm,P6,Rm,Qh,e];rfl
end
end TG
namespace TG
open PySem PySem.Spec L2
variable[aB]
section
variable{X:Cx}
noncomputable def Oh:D->Option Str
 |.str z=>some z
 |_=>none
noncomputable def Nt(a b:D):bG:=match a,b with
 |.bl c,.bl d=>some (.bl (c==d))
 |_,_=>none
noncomputable def Ft(a b:D):bG:=match a,b with
 |.bl c,.bl d=>some (.bl (!(c==d)))
 |_,_=>none
end
section
variable{X:Cx}{C:T5}{pins:bf}{σ:St}{H:Hp}{s:T8}{Q:VK}
end
end TG
namespace TG
open PySem PySem.Spec PyProof.Rows L2
variable[aB]
noncomputable def cV:List D->List D->Option Bool
 |[],[]=>some false
 |[],_::_=>some true
 |_::_,[]=>some false
 |a::as,b::bs=>match a,b with
  |.int i,.int j=>if i=j then cV as bs else some (decide (i<j))
  |.str x,.str y=>if x=y then cV as bs else some (decide (x.cps.toList<y.cps.toList))
  |_,_=>none
inductive fE:aU->List D->Prop where
 |nil:fE [] []
 |int (i:Int) (t:Tok) {vs:aU} {ds:List D} (h:fE vs ds):fE (.int i t::vs) (.int i::ds)
 |str (x:Str) (t:Tok) {vs:aU} {ds:List D} (h:fE vs ds):fE (.str x t::vs) (.str x::ds)
theorem fE.length:∀{vs:aU}{ds:List D},fE vs ds->vs.length=ds.length
 |_,_,.nil=>rfl
 |_,_,.int _ _ h=>by rw[P5,P5,h.length]
 |_,_,.str _ _ h=>by rw[P5,P5,h.length]
theorem Hq(A:Uj)(s:T8)(a:Int)(t:Tok)(c:Int)(u:Tok):∃e,SeqAt.EqAt A s (.int a t) (.int c u) e/\(e=true↔a=c):=
 ⟨(a==c),SeqAt.EqAt.int_int a t c u,by simp⟩
theorem G6(A:Uj)(s:T8)(a:Str)(t:Tok)(c:Str)(u:Tok):∃e,SeqAt.EqAt A s (.str a t) (.str c u) e/\(e=true↔a=c):=
 ⟨(a==c),SeqAt.EqAt.str_str a t c u,by simp⟩
theorem Lw(A:Uj)(s:T8)(a:Str)(t:Tok)(c:Str)(u:Tok)(prog:Ua)(w:T9)(E:bh)(Q:bh)(h:Q (.bool (decide (a.cps.toList<c.cps.toList))) s):
  Ul (model prog w) A (richCompare .Lt (.str a t) (.str c u)) Q E s:=
 (PySem.P.lt_str h:Ul (model prog w) A (UA .Lt (.str a t) (.str c u)) Q E s)
section
open PySem.SeqAt
open PySem.AutoSeq1 (wpAny_loadPart')
open PySem.MeetsSeq PySem.MeetsSeq2 PySem.MeetsSeq3
set_option maxHeartbeats 1000000 in
theorem qZ(l b:T5)(items items2:dX)(n n2:Nat)(dd dd2:Option T5)(sl sl2:Array (Option T2))(ns ms:List D)(r:Bool)(hi:fE items.toList ns)(hj:fE items2.toList ms)(hr:cV ns ms=some r):
  Meets (Builtin.«tuple.__lt__» ⟨[.ref l,.ref b],[]⟩)
   (fun _ R s=>s.heap.get? l=some { cls:=.type "tuple",dict:=dd,data:=.seq items n,slots:=sl }/\s.heap.get? b=some { cls:=.type "tuple",dict:=dd2,data:=.seq items2 n2,slots:=sl2 } /\
    R (.ok (.ret (.bool r))) s):=
 .of_wp λprog w A R s h=>by
  obtain⟨hp,g,d,tk,os⟩:=s;obtain⟨hl,hb,h⟩:=h;have f2:=AutoSeq1.sub_tuple_tuple;have z1:items.size=ns.length:=by rw[<-hi.length];simp
  have z2:items2.size=ms.length:=by rw[<-hj.length];simp
  wp_walk using wpAny_loadPart' hl,wpAny_loadPart' hb,wpAny_forIn_list _ (λrest b s'=>b.1=none/\s'=⟨hp,g,d,tk,os⟩/\∃(vs ws:aU)(ns' ms':List D),rest=vs.zip ws/\
   fE vs ns'/\fE ws ms'/\ns'.length+items2.size=ms'.length+items.size/\cV ns' ms'=some r/\R (.ok (.ret (.bool r))) ⟨hp,g,d,tk,os⟩) _
  case turn=>
   rintro⟨y,x⟩ rest b s' ⟨hb',rfl,vs,ws,ns',ms',hz,hvi,hwi,hlen,hL,hR⟩;cases hvi with
   |nil=>rw[List.zip_nil_left]at hz;cases hz
   |int a t hvi'=>
    cases hwi with
    |nil=>rw[Rz]at hz;cases hz
    |str c u hwi'=>cases hL
    |int c u hwi'=>
     rw[Rr]at hz;injection hz with hyx hrest;injection hyx with hy hx;subst hy hx;have hL':(if a=c then cV _ _ else some (decide (a<c)))=some r:=hL;simp only[P5]at hlen;obtain⟨e,he,hiff⟩:=Hq A.in1 ⟨hp,g,d,tk,os⟩ a t c u;refine Uu (he prog w _ _ ?_);cases e with
     |true=>
      rw[if_pos (hiff.mp rfl)]at hL'
      wp_walk
      exact⟨rfl,rfl,_,_,_,_,hrest,hvi',hwi',by omega,hL',hR⟩
     |false=>
      rw[if_neg (λq=>absurd (hiff.mpr q) P4)]at hL';cases hL';have hri:=HT.Kp A.in1 ⟨hp,g,d,tk,os⟩ a t c u prog w
      wp_walk using hri
      exact⟨_,rfl,by simpa using hR⟩
   |str a t hvi'=>
    cases hwi with
    |nil=>rw[Rz]at hz;cases hz
    |int c u hwi'=>cases hL
    |str c u hwi'=>
     rw[Rr]at hz;injection hz with hyx hrest;injection hyx with hy hx;subst hy hx;have hL':(if a=c then cV _ _ else some (decide (a.cps.toList<c.cps.toList)))=some r:=hL;simp only[P5]at hlen;obtain⟨e,he,hiff⟩:=G6 A.in1 ⟨hp,g,d,tk,os⟩ a t c u;refine Uu (he prog w _ _ ?_);cases e with
     |true=>
      rw[if_pos (hiff.mp rfl)]at hL'
      wp_walk
      exact⟨rfl,rfl,_,_,_,_,hrest,hvi',hwi',by omega,hL',hR⟩
     |false=>
      rw[if_neg (λq=>absurd (hiff.mpr q) P4)]at hL';cases hL';have hri:=Lw A.in1 ⟨hp,g,d,tk,os⟩ a t c u prog w
      wp_walk using hri
      exact⟨_,rfl,by simpa using hR⟩
  case fin=>
   rintro⟨b1,b2⟩ s' ⟨hb',rfl,vs,ws,ns',ms',hz,hvi,hwi,hlen,hL,hR⟩;simp only at hb';subst hb';have hv:r=decide (items.size<items2.size):=by
    have l1:=hvi.length;have l2:=hwi.length;cases ns' with
    |nil=>
     cases ms' with
     |nil=>
      simp only[Qv]at hlen;cases hL;exact(decide_eq_false ‹0›).symm
     |cons c u=>
      simp only[Qv,P5]at hlen;cases hL;exact(decide_eq_true ‹0›).symm
    |cons a t=>
     cases ms' with
     |nil=>
      simp only[Qv,P5]at hlen;cases hL;exact(decide_eq_false ‹0›).symm
     |cons c u=>
      have:=congrArg List.length hz
      simp only[Qv,List.length_zip,l1,l2,P5]at this;omega
   rw[hv]at hR
   wp_walk
   exact⟨_,rfl,by simpa [Builtin.Tuple.tupleCompareSizes]using hR⟩
  case h=>
   exact⟨rfl,rfl,items.toList,items2.toList,ns,ms,rfl,hi,hj,by omega,hr,h⟩
end
section
variable{X:Cx}
theorem tG{α:Type}{c:Bool}{o:Option α}{a:α}(h:(if c then o else none)=some a):c=true/\o=some a:=by
 cases c with
 |true=>exact⟨rfl,h⟩
 |false=>cases h
theorem wJ{prog:Ua}{w:T9}{A:Uj}{E:bh}{s:T8}{l b:T5}{items items2:dX}{ns ms:List D}{r:Bool}{Q:bh}(hl:Ue s.heap l items)(hb:Ue s.heap b items2)(hi:fE items.toList ns)(hj:fE items2.toList ms)(hr:cV ns ms=some r)
  (hu:A.units<UL) (h:Q (.bool r) s):Ul (model prog w) A (UA .Lt (.ref l) (.ref b)) Q E s:=by
 obtain⟨⟨cls,dd,data,sl⟩,ho,hc,n,hd⟩:=id hl;obtain⟨⟨cls2,dd2,data2,sl2⟩,ho2,hc2,n2,hd2⟩:=id hb;simp only at hc hd hc2 hd2;subst hc hd hc2 hd2;exact richCompare_meets_room (op:=.Lt) ⟨_,ho,rfl⟩ ⟨_,ho2,rfl⟩ PySem.F.slot_tuple_lt PySem.F.entry_tuple_lt (PySem.F.args_tuple_lt_2 _ _) (qZ l b items items2 n n2 dd dd2 sl sl2 ns ms r hi hj hr)
  ⟨ho,ho2,show Value.bool r≠Value.notImplemented/\Q (.bool r) s from⟨(λx=>nomatch x),h⟩⟩ hu
noncomputable def oF:List D->Bool
 |[]=>true
 |.int _::r=>oF r
 |.str _::r=>oF r
 |_=>false
theorem jp{K:SH}{H:Hp}:∀{ds:List D}{vs:aJ}{us:aU},oF ds=true->aK K H ds vs->Vals vs us->fE us ds
 |[],vs,us,_,h,r=>by
  rw[cn]at h;subst h;cases r;exact .nil
 |d::ds,vs,us,hf,h,r=>by
  obtain⟨v,r',e,h1,h2⟩:=aX.mp h;subst e;cases r with
  |cons q1 q2=>
   cases d with
   |int i=>
    rw[eF]at h1;subst h1;obtain⟨t,rfl⟩:=q1;exact .int i t (jp hf h2 q2)
   |str x=>
    rw[eN]at h1;subst h1;obtain⟨t,rfl⟩:=q1;exact .str x t (jp hf h2 q2)
   |_=>cases hf
noncomputable def mE(a b:D):bG:=match a,b with
 |.int i,.int j=>some (.bl (decide (i<j)))
 |.str x,.str y=>some (.bl (decide (x.cps.toList<y.cps.toList)))
 |.tup xs,.tup ys=>if oF xs&&oF ys then(cV xs ys).bind λr=>some (.bl r)else none
 |_,_=>none
theorem BL(hu:X.A.units+64<UL):iL X (UA .Lt) (rD X.K mE):=by
 rintro pins s σ H x y u v Q I rx ry ⟨O,a,b,d,hO,ha,hb,hg,q⟩;cases a with
 |int i=>
  cases b with
  |int j=>
   cases hg;exact J8 pins s σ H x y u v Q I rx ry ⟨i,j,eF.mp ha,eF.mp hb,q _ H (aR.refl H) (ju.mpr rfl)⟩
  |_=>cases hg
 |str i=>
  cases b with
  |str j=>
   cases hg;exact zQ pins s σ H x y u v Q I rx ry ⟨i,j,eN.mp ha,eN.mp hb,q _ H (aR.refl H) (ju.mpr rfl)⟩
  |_=>cases hg
 |tup xs=>
  cases b with
  |tup ys=>
   obtain⟨h1,h2⟩:=tG hg;obtain⟨r,e1,e2⟩:=bind_some h2;cases e2;rw[Qm]at h1;obtain⟨p,vs,ex,g1,g2⟩:=bY.mp ha;obtain⟨p',vs',ey,g1',g2'⟩:=bY.mp hb;subst ex ey;cases rx;cases ry;obtain⟨its,r1,t1,_⟩:=I.tuple (bJ (aj H O) g1);obtain⟨its2,r2,t2,_⟩:=I.tuple (bJ (aj H O) g1');exact wJ t1 t2 (jp h1.1 g2 r1) (jp h1.2 g2' r2) e1 ‹0› (CY I (q _ H (aR.refl H) (ju.mpr rfl)) rfl)
  |_=>cases hg
 |_=>cases hg
end
end TG
namespace TG
open PySem PySem.Spec L2
variable[aB]
noncomputable def iN(x:Str)(n:Int):Str:=if(n==1||x.length==0)=true then x else⟨(List.replicate n.toNat x.cps).foldl (·++·) #[]⟩
theorem foldl_size:∀(n:Nat)(c a:Array Nat),((List.replicate n c).foldl (·++·) a).size=a.size+n*c.size
 |0,_,a=>by simp
 |n+1,c,a=>by
  rw[RA,RB,foldl_size n c,Array.size_append,Nat.succ_mul];omega
theorem vO{x:Str}{n:Int}(h:1<=n):(iN x n).length=n.toNat*x.length:=by
 unfold iN;split
 ·rename_i q;rw[QR]at q;rcases q with q|q
  ·have:n=1:=(by simpa using q);rw[this];simp
  ·have:x.length=0:=(by simpa using q);rw[this];simp
 ·show((List.replicate n.toNat x.cps).foldl (·++·) #[]).size=n.toNat*x.cps.size;rw[foldl_size];simp
noncomputable def oK(a b:D):bG:=match a,b with
 |.int i,.int j=>lE (.int i) (.int j)
 |.str x,.int n=>if decide (1<=n/\n<=1000/\x.length<=1000)then some (.str (iN x n))else none
 |_,_=>none
section
variable{X:Cx}
theorem FH:iL X (Uz .Mult) (rD X.K oK):=by
 rintro pins s σ H x y u v Q I rx ry ⟨O,a,b,d,hO,ha,hb,hg,q⟩;cases a with
 |int i=>
  cases b with
  |int j=>exact Dx pins s σ H x y u v Q I rx ry (CA (.int i) (.int j) d x y O H Q hO hg ha hb q)
  |_=>cases hg
 |str z=>
  cases b with
  |int n=>
   obtain⟨h1,h2⟩:=bD hg;subst h2;obtain⟨n1,n2,zl⟩:=of_decide_eq_true h1;rw[eN]at ha;rw[eF]at hb;subst ha hb;obtain⟨t,rfl⟩:=rx;obtain⟨t',rfl⟩:=ry;have zn:z.length*n.toNat<=1000*1000:=Nat.mul_le_mul zl ‹0›;refine P.mul_str (by rw[decide_eq_false ‹0›,decide_eq_false ‹0›];rfl) (λ_ _=>?_) (λ_ _=>?_) ?_
   ·have:(2^63-1:Int)/n>=(2^63-1)/1000:=by
     rw[ge_iff_le,Int.le_ediv_iff_mul_le ‹0›];have h3:(2^63-1:Int)/1000*n<=(2^63-1)/1000*1000:=Int.mul_le_mul_of_nonneg_left n2 (by decide);have h4:(2^63-1:Int)/1000*1000<=2^63-1:=(by decide);omega
    have h5:(2^63-1:Int)/1000=9223372036854775:=(by decide);omega
   ·unfold Builtin.Str.tooLong;rw[decide_eq_false];rw[UD];omega
   ·rw[if_neg ‹0›];have fin:∀tk,EP X pins σ Q (.str (iN z n) tk) {s with toks:=s.toks+1}/\EP X pins σ Q (.str (iN z n) tk) s:=λtk=>⟨⟨.str (iN z n),H,I.tok _,⟨_,rfl⟩,q _ H (aR.refl H) (eN.mpr rfl)⟩,⟨.str (iN z n),H,I,⟨_,rfl⟩,q _ H (aR.refl H) (eN.mpr rfl)⟩⟩
    by_cases e:(n==1||z.length==0)=true
    ·rw[if_pos e]
     have:iN z n=z:=(by unfold iN;rw[if_pos e]);rw[this]at fin;exact(fin t).2
    ·rw[if_neg e];have e2:iN z n=⟨(List.replicate n.toNat z.cps).foldl (·++·) #[]⟩:=(by unfold iN;rw[if_neg e]);rw[e2]at fin;refine⟨?_,(fin _).1⟩;have rl:=vO (x:=z) (n:=n) ‹0›;rw[e2]at rl;rw[rl,UD,Nat.mul_comm];omega
  |_=>cases hg
 |_=>cases hg
end
end TG
namespace TG
open PySem PySem.Spec PyProof.Rows PySem.W L2
variable[aB]
theorem qf:∀a:List Nat,¬a<a
 |[]=>RC _
 |x::xs=>λh=>by
  rcases List.cons_lt_cons_iff.mp h with h|⟨_,h⟩
  ·omega
  ·exact qf xs h
theorem jW:∀{a b c:List Nat},a<b->b<c->a<c
 |_,_,[],_,h=>absurd h (RC _)
 |_,[],_::_,h,_=>absurd h (RC _)
 |[],_::_,_::_,_,_=>RE _ _
 |x::xs,y::ys,z::zs,h,h'=>by
  rw[RG]at h h' ⊢;rcases h with h|⟨e,h⟩<;>rcases h' with h'|⟨e',h'⟩
  ·exact .inl ‹0›
  ·exact .inl ‹0›
  ·exact .inl ‹0›
  ·exact .inr ⟨by omega,jW h h'⟩
theorem D3:∀a b:List Nat,a<b\/a=b\/b<a
 |[],[]=>.inr (.inl rfl)
 |[],_::_=>.inl (RE _ _)
 |_::_,[]=>.inr (.inr (RE _ _))
 |x::xs,y::ys=>by
  rw[RG,RG];rcases Nat.lt_trichotomy x y with h|h|h
  ·exact .inl (.inl h)
  ·rcases D3 xs ys with q|q|q
   ·exact .inl (.inr ⟨h,q⟩)
   ·exact .inr (.inl (by rw[h,q]))
   ·exact .inr (.inr (.inr ⟨h.symm,q⟩))
  ·exact .inr (.inr (.inl h))
theorem Bx{x y:Str}(h:x.cps.toList=y.cps.toList):x=y:=by
 cases x;cases y;congr 1;exact Array.toList_inj.mp h
inductive Sh:bQ->List D->Prop where
 |nil:Sh [] []
 |int (i:Int) {bs:bQ} {ds:List D} (h:Sh bs ds):Sh (true::bs) (.int i::ds)
 |str (x:Str) {bs:bQ} {ds:List D} (h:Sh bs ds):Sh (false::bs) (.str x::ds)
theorem Sh.length:∀{σ:bQ}{a:List D},Sh σ a->a.length=σ.length
 |_,_,.nil=>rfl
 |_,_,.int _ h=>by rw[P5,P5,h.length]
 |_,_,.str _ h=>by rw[P5,P5,h.length]
theorem pD:∀{σ:bQ}{a:List D},Sh σ a->oF a=true
 |_,_,.nil=>rfl
 |_,_,.int i h=>by
  unfold oF;exact pD h
 |_,_,.str i h=>by
  unfold oF;exact pD h
theorem pU(i j:Int)(as bs:List D):cV (.int i::as) (.int j::bs)=if i=j then cV as bs else some (decide (i<j)):=by rw[cV]
theorem qq(x y:Str)(as bs:List D):cV (.str x::as) (.str y::bs)=if x=y then cV as bs else some (decide (x.cps.toList<y.cps.toList)):=by rw[cV]
theorem Cu:cV [] []=some false:=by rw[cV]
theorem kI:∀{σ:bQ}{a:List D},Sh σ a->cV a a=some false
 |_,_,.nil=>Cu
 |_,_,.int i h=>by rw[pU,if_pos rfl];exact kI h
 |_,_,.str x h=>by rw[qq,if_pos rfl];exact kI h
theorem pB{σ:bQ}{a b:List D}(h1:Sh σ a)(h2:Sh σ b):(cV a b=some true/\cV b a=some false/\a≠b)\/a=b\/(cV b a=some true/\cV a b=some false/\a≠b):=by
 induction h1 generalizing b with
 |nil=>cases h2;exact .inr (.inl rfl)
 |int i h ih=>
  cases h2 with|int j h'=>
  rw[pU,pU];by_cases e:i=j
  ·subst e;rw[if_pos rfl,if_pos rfl];rcases ih h' with⟨q1,q2,q3⟩|q|⟨q1,q2,q3⟩
   ·exact .inl ⟨q1,q2,λz=>q3 (by injection z)⟩
   ·exact .inr (.inl (by rw[q]))
   ·exact .inr (.inr ⟨q1,q2,λz=>q3 (by injection z)⟩)
  ·rw[if_neg e,if_neg (λz=>e z.symm)];rcases Int.lt_or_gt_of_ne e with q|q
   ·exact .inl ⟨by rw[decide_eq_true q],by rw[decide_eq_false ‹0›],λz=>e (by injection z with z1;injection z1)⟩
   ·exact .inr (.inr ⟨by rw[decide_eq_true q],by rw[decide_eq_false ‹0›],λz=>e (by injection z with z1;injection z1)⟩)
 |str x h ih=>
  cases h2 with|str y h'=>
  rw[qq,qq];by_cases e:x=y
  ·subst e;rw[if_pos rfl,if_pos rfl];rcases ih h' with⟨q1,q2,q3⟩|q|⟨q1,q2,q3⟩
   ·exact .inl ⟨q1,q2,λz=>q3 (by injection z)⟩
   ·exact .inr (.inl (by rw[q]))
   ·exact .inr (.inr ⟨q1,q2,λz=>q3 (by injection z)⟩)
  ·rw[if_neg e,if_neg (λz=>e z.symm)];rcases D3 x.cps.toList y.cps.toList with q|q|q
   ·exact .inl ⟨by rw[decide_eq_true q],by rw[decide_eq_false λz=>qf _ (jW q z)],λz=>e (by injection z with z1;injection z1)⟩
   ·exact absurd (Bx q) e
   ·exact .inr (.inr ⟨by rw[decide_eq_true q],by rw[decide_eq_false λz=>qf _ (jW q z)],λz=>e (by injection z with z1;injection z1)⟩)
theorem sZ{σ:bQ}{a b c:List D}(h1:Sh σ a)(h2:Sh σ b)(h3:Sh σ c)(q:cV a b=some true)(q':cV b c=some true):cV a c=some true:=by
 induction h1 generalizing b c with
 |nil=>cases h2;rw[Cu]at q;cases q
 |int i h ih=>
  cases h2 with|int j h'=>
  cases h3 with|int k h''=>
  rw[pU]at q q' ⊢;by_cases e:i=j
  ·subst e;rw[if_pos rfl]at q;by_cases e':i=k
   ·subst e';rw[if_pos rfl]at q' ⊢;exact ih h' h'' q q'
   ·rw[if_neg e']at q' ⊢;exact q'
  ·rw[if_neg e]at q;have q1:=of_decide_eq_true (Option.some.inj q);by_cases e':j=k
   ·subst e';rw[if_neg e,decide_eq_true q1]
   ·rw[if_neg e']at q';have q2:=of_decide_eq_true (Option.some.inj q');rw[if_neg ‹0›,decide_eq_true ‹0›]
 |str i h ih=>
  cases h2 with|str j h'=>
  cases h3 with|str k h''=>
  rw[qq]at q q' ⊢;by_cases e:i=j
  ·subst e;rw[if_pos rfl]at q;by_cases e':i=k
   ·subst e';rw[if_pos rfl]at q' ⊢;exact ih h' h'' q q'
   ·rw[if_neg e']at q' ⊢;exact q'
  ·rw[if_neg e]at q;have q1:=of_decide_eq_true (Option.some.inj q);by_cases e':j=k
   ·subst e';rw[if_neg e,decide_eq_true q1]
   ·rw[if_neg e']at q';have q2:=of_decide_eq_true (Option.some.inj q');rw[if_neg (show¬i=k from λz=>by rw[z]at q1;exact qf _ (jW q1 q2)),decide_eq_true (jW q1 q2)]
theorem B6{σ:bQ}{a b:List D}(h:Sh σ a)(h':Sh σ b)(q:cV a b=some true):cV b a=some false:=by
 rcases pB h h' with⟨_,q2,_⟩|e|⟨_,q2,_⟩
 ·exact q2
 ·subst e;rw[kI h]at q;cases q
 ·rw[q2]at q;cases q
noncomputable def kLt(a b:List D):Bool:=cV a b==some true
theorem Gp{a b:List D}:kLt a b=true↔cV a b=some true:=by unfold kLt;simp
section
variable{α:Type}
noncomputable def zO(key:α->List D)(x:α):List α->List α
 |[]=>[x]
 |y::ys=>if kLt (key x) (key y)then x::y::ys else y::zO key x ys
noncomputable def iy(key:α->List D):List α->List α
 |[]=>[]
 |x::xs=>zO key x (iy key xs)
theorem nh(key:α->List D)(x:α):∀ys:List α,(zO key x ys).Perm (x::ys)
 |[]=>.refl _
 |y::ys=>by
  unfold zO;split
  ·exact .refl _
  ·exact(List.Perm.cons y (nh key x ys)).trans (.swap x y ys)
theorem ga(key:α->List D):∀xs:List α,(iy key xs).Perm xs
 |[]=>.refl _
 |x::xs=>(nh key x _).trans (.cons x (ga key xs))
noncomputable def vM(key:α->List D)(xs:List α):Prop:=xs.Pairwise λx y=>cV (key x) (key y)=some true
theorem vj{key:α->List D}{σ:bQ}{x:α}(hx:Sh σ (key x)):∀{ys:List α},(∀y∈ys,Sh σ (key y)/\key x≠key y)->vM key ys->vM key (zO key x ys)
 |[],_,_=>List.pairwise_singleton _ _
 |y::ys,h,p=>by
  have p':=List.pairwise_cons.mp p;obtain⟨hy,ne⟩:=h y PJ;unfold zO;split
  ·rename_i q;have q:=Gp.mp q;refine List.pairwise_cons.mpr ⟨λz hz=>?_,p⟩;rcases List.mem_cons.mp hz with rfl|hz
   ·exact q
   ·exact sZ hx hy (h z (PL _ hz)).1 q (p'.1 z hz)
  ·rename_i q;have q:cV (key y) (key x)=some true:=by
    rcases pB hx hy with⟨z,_⟩|z|⟨z,_⟩
    ·exact absurd (Gp.mpr z) q
    ·exact absurd z ne
    ·exact z
   refine List.pairwise_cons.mpr ⟨λz hz=>?_,vj hx (λz hz=>h z (PL _ hz)) p'.2⟩;rcases List.mem_cons.mp ((nh key x ys).mem_iff.mp hz)with rfl|hz
   ·exact q
   ·exact p'.1 z hz
theorem nO{key:α->List D}{σ:bQ}:∀{xs:List α},(∀x∈xs,Sh σ (key x))->xs.Pairwise (λx y=>key x≠key y)->vM key (iy key xs)
 |[],_,_=>List.Pairwise.nil
 |x::xs,h,p=>by
  have p':=List.pairwise_cons.mp p;refine vj (h x PJ) (λy hy=>?_) (nO (λy hy=>h y (PL _ hy)) p'.2);have hy:=(ga key xs).mem_iff.mp hy;exact⟨h y (PL _ hy),p'.1 y hy⟩
theorem yI{key:α->List D}{σ:bQ}:∀{xs ys:List α},(∀x∈xs,Sh σ (key x))->vM key xs->vM key ys->xs.Perm ys->xs=ys
 |[],ys,_,_,_,e=>(List.perm_nil.mp e.symm).symm
 |x::xs,[],_,_,_,e=>List.perm_nil.mp e
 |x::xs,y::ys,h,p,q,e=>by
  have p':=List.pairwise_cons.mp p;have q':=List.pairwise_cons.mp q;have exy:x=y:=by
   rcases List.mem_cons.mp (e.mem_iff.mp PJ)with z|z
   ·exact z
   ·have w1:=q'.1 x z;rcases List.mem_cons.mp (e.symm.mem_iff.mp PJ)with z'|z'
    ·exact z'.symm
    ·have w2:=p'.1 y z'
     have:=B6 (h x PJ) (h y (PL _ z')) w2
     rw[w1]at this;cases this
  subst exy;rw[yI (λz hz=>h z (PL _ hz)) p'.2 q'.2 (List.Perm.cons_inv e)]
theorem uU{key:α->List D}{σ:bQ}{xs ys:List α}(h:∀x∈xs,Sh σ (key x))(p:xs.Pairwise λx y=>key x≠key y)(q:vM key ys)(e:ys.Perm xs):iy key xs=ys:=
 yI (λx hx=>h x ((ga key xs).mem_iff.mp hx)) (nO h p) q ((ga key xs).trans e.symm)
noncomputable def rank(ks:bB)(i:Nat):Nat:=(ks.filter λk=>kLt k (ks.getD i [])).length
theorem pq{ks:bB}{σ:bQ}(h:∀k∈ks,Sh σ k){i j:Nat}(hi:i<ks.length)(hj:j<ks.length):decide (rank ks i<rank ks j)=kLt (ks.getD i []) (ks.getD j []):=by
 have gi:ks.getD i []=ks[i]:=by simp[hi]
 have gj:ks.getD j []=ks[j]:=by simp[hj]
 have mono:∀a b:List D,Sh σ a->Sh σ b->cV a b=some true->∀l:bB,(∀k∈l,Sh σ k)->(l.filter λk=>kLt k a).length<=(l.filter λk=>kLt k b).length/\(a∈l->(l.filter λk=>kLt k a).length<(l.filter λk=>kLt k b).length):=by
  intro a b ha hb hab l
  induction l with
  |nil=>exact λ_=>⟨PX _,λz=>nomatch z⟩
  |cons k l ih=>
   intro hl;obtain⟨i1,i2⟩:=ih λz hz=>hl z (PL _ hz);have hk:=hl k PJ;by_cases q:kLt k a=true
   ·have q':kLt k b=true:=Gp.mpr (sZ hk ha hb (Gp.mp q) hab);rw[RH (p:=λk=>kLt k a) q,RH (p:=λk=>kLt k b) q',P5,P5];refine⟨by omega,λz=>?_⟩;rcases List.mem_cons.mp z with rfl|z
    ·rw[Gp,kI ha]at q;cases q
    ·have:=i2 z;omega
   ·rw[RJ (p:=λk=>kLt k a) q];by_cases q':kLt k b=true
    ·rw[RH (p:=λk=>kLt k b) q',P5];exact⟨by omega,λ_=>by omega⟩
    ·rw[RJ (p:=λk=>kLt k b) q'];refine⟨i1,λz=>?_⟩;rcases List.mem_cons.mp z with rfl|z
     ·exact absurd (Gp.mpr hab) q'
     ·exact i2 z
 unfold rank;rw[gi,gj];have hi':=h _ (RK hi);have hj':=h _ (RK hj);rcases pB hi' hj' with⟨z,_⟩|z|⟨z,z',_⟩
 ·rw[Gp.mpr z];exact decide_eq_true ((mono _ _ hi' hj' z ks h).2 (RK hi))
 ·rw[z]
  have:kLt ks[j] ks[j]=false:=by unfold kLt;rw[kI hj'];rfl
  rw[this];exact decide_eq_false (PB _)
 ·have e:kLt ks[i] ks[j]=false:=by unfold kLt;rw[z'];rfl
  rw[e];exact decide_eq_false (Nat.not_lt.mpr (mono _ _ hj' hi' z ks h).1)
end
section
variable{cmp:Nat->Nat->(Bool->cP)->cP}{r:Nat->Nat}{N:Nat}
noncomputable def km(cmp:Nat->Nat->(Bool->cP)->cP)(r:Nat->Nat)(N:Nat)(s:T8):Prop:=∀(i j:Nat)(C:Bool->cP),i<N->j<N->C (decide (r i<r j)) s->cmp i j C s
noncomputable def PM(N:Nat)(p:Array Nat):Prop:=p.Perm (List.toArray (List.range N))
theorem PM.size{p:Array Nat}(h:PM N p):p.size=N:=by
 have:=h.size_eq;simpa using this
theorem PM.lt{p:Array Nat}(h:PM N p){i:Nat}(hi:i<N):p.getD i 0<N:=by
 have hs:=h.size;have e:p.getD i 0=p[i]'‹0›:=by simp[Array.getD,hs,hi]
 rw[e];have m:p[i]'‹0›∈p:=Array.getElem_mem _
 have:=(h.mem_iff (a:=p[i]'‹0›)).mp m
 simpa using this
theorem PM.rev{p:Array Nat}(h:PM N p)(i j:Nat):PM N (kas_rev p i j):=(mirror_perm p i j _).trans h
noncomputable abbrev Rk(r:Nat->Nat)(p:Array Nat)(i:Nat):Nat:=r (p.getD i 0)
theorem uO{p:Array Nat}{i j:Nat}(hj:j<=p.size)(k:Nat):Rk r (kas_rev p i j) k=if i<=k/\k<j then Rk r p (i+j-1-k)else Rk r p k:=by
 have e:=getElem?_mirror_all (xs:=p) (i:=i) (j:=j) hj k;have g:∀(q:Array Nat)(k:Nat),q.getD k 0=(q[k]?).getD 0:=λq k=>by simp
 show r ((kas_rev p i j).getD k 0)=_;rw[g];show r (((mirror p i j ((j-i)/2))[k]?).getD 0)=_;rw[e];split
 ·show _=r (p.getD _ 0);rw[g]
 ·show _=r (p.getD _ 0);rw[g]
theorem DB{p:Array Nat}{src d:Nat}(hs:src<p.size)(hd:d<=src)(k:Nat):Rk r (bubble p src d) k=if k=src-d then Rk r p src else if src-d<k/\k<=src then Rk r p (k-1)else Rk r p k:=by
 have e:=getElem?_bubble (xs:=p) hs d hd k;have g:∀(q:Array Nat)(k:Nat),q.getD k 0=(q[k]?).getD 0:=λq k=>by simp
 show r ((bubble p src d).getD k 0)=_;rw[g,e];split
 ·show _=r (p.getD _ 0);rw[g]
 ·split
  ·show _=r (p.getD _ 0);rw[g]
  ·show _=r (p.getD _ 0);rw[g]
noncomputable def Up(r:Nat->Nat)(p:Array Nat)(k:Nat):Prop:=∀i j,i<=j->j<k->Rk r p i<=Rk r p j
noncomputable def Dn(r:Nat->Nat)(p:Array Nat)(k:Nat):Prop:=∀i j,i<=j->j<k->Rk r p j<=Rk r p i
variable{s:T8}
theorem xc(hc:km cmp r N s){p:Array Nat}(hp:PM N p){G:Nat->cP}:∀(f n:Nat),1<=n->n+f<=N->Up r p n->(∀m,n<=m->m<=n+f->Up r p m->(m=n+f\/Rk r p m<Rk r p (m-1))->G m s)->(kas_asc p f n).kasWp cmp G s
 |0,n,_,_,u,h=>h n (PX _) (PX _) u (.inl rfl)
 |f+1,n,h1,h2,u,h=>by
  refine hc _ _ _ (hp.lt ‹0›) (hp.lt ‹0›) ?_;by_cases q:Rk r p n<Rk r p (n-1)
  ·rw[decide_eq_true q];dsimp only;rw[if_pos rfl];exact h n (PX _) ‹0› u (.inr q)
  ·rw[decide_eq_false q];dsimp only;rw[if_neg P4];refine xc hc hp f (n+1) ‹0› ‹0› (λi j hij hj=>?_) λm a b=>?_
   ·by_cases hjn:j<n
    ·exact u i j hij hjn
    ·have ej:j=n:=(by omega);subst ej;by_cases ei:i=j
     ·subst ei;exact PX _
     ·have:=u i (j-1) ‹0› ‹0›
      omega
   ·intro um hm;exact h m ‹0› ‹0› um (by rcases hm with z|z;exact .inl ‹0›;exact .inr z)
theorem Dp{p:Array Nat}{n q:Nat}(hn:n<=p.size)(hq:q+1<=n)(he:∀i,n-(q+1)<=i->i<n->Rk r p i=Rk r p (n-1))(k:Nat):Rk r (kas_rev p (n-(q+1)) n) k=Rk r p k:=by
 rw[uO hn];split
 ·rename_i h;rw[he _ ‹0› ‹0›,he k h.1 h.2]
 ·rfl
theorem oZ(hc:km cmp r N s){G:Array Nat×Nat×Nat->cP}:∀(f:Nat)(p:Array Nat)(n q:Nat),PM N p->1<=n->n+f<=N->Dn r p n->q+1<=n->(∀i,n-(q+1)<=i->i<n->Rk r p i=Rk r p (n-1))->
  (∀p' m q',PM N p'->n<=m->m<=n+f->Dn r p' m->q'+1<=m->(∀i,m-(q'+1)<=i->i<m->Rk r p' i=Rk r p' (m-1))->G (p',m,q') s)->(kas_desc f p n q).kasWp cmp G s
 |0,p,n,q,hp,_,_,d,hq,he,h=>h p n q hp (PX _) (PX _) d hq he
 |f+1,p,n,q,hp,h1,h2,d,hq,he,h=>by
  have hs:=hp.size;have step:∀p',(∀k,Rk r p' k=Rk r p k)->Rk r p n<=Rk r p (n-1)->Dn r p' (n+1):=λp' hk hl i j hij hj=>by
   rw[hk,hk];by_cases hjn:j<n
   ·exact d i j hij hjn
   ·have ej:j=n:=(by omega);subst ej;by_cases ei:i=j
    ·subst ei;exact PX _
    ·have:=d i (j-1) ‹0› ‹0›
     omega
  refine hc _ _ _ (hp.lt ‹0›) (hp.lt ‹0›) ?_;by_cases q1:Rk r p n<Rk r p (n-1)
  ·rw[decide_eq_true q1];dsimp only;rw[if_pos rfl];by_cases hq0:q>0
   ·rw[if_pos hq0];refine oZ hc f _ (n+1) 0 (hp.rev _ _) ‹0› ‹0› (step _ (Dp ‹0› hq he) ‹0›) ‹0› (λi a b=>by rw[show i=n+1-1 by omega]) λp' m q' a b c=>h p' m q' a ‹0› ‹0›
   ·rw[if_neg hq0];refine oZ hc f _ (n+1) 0 hp ‹0› ‹0› (step _ (λ_=>rfl) ‹0›) ‹0› (λi a b=>by rw[show i=n+1-1 by omega]) λp' m q' a b c=>h p' m q' a ‹0› ‹0›
  ·rw[decide_eq_false q1];dsimp only;rw[if_neg P4];refine hc _ _ _ (hp.lt ‹0›) (hp.lt ‹0›) ?_;by_cases q2:Rk r p (n-1)<Rk r p n
   ·rw[decide_eq_true q2];dsimp only;rw[if_pos rfl];exact h p n q hp (PX _) ‹0› d hq he
   ·rw[decide_eq_false q2];dsimp only;rw[if_neg P4];refine oZ hc f _ (n+1) (q+1) hp ‹0› ‹0› (step _ (λ_=>rfl) ‹0›) ‹0› (λi a b=>?_) λp' m q' a b c=>h p' m q' a ‹0› ‹0›;rw[show n+1-1=n by omega];by_cases ei:i=n
    ·subst ei;rfl
    ·have:=he i ‹0› ‹0›
     omega
theorem uV(hc:km cmp r N s){p:Array Nat}(hp:PM N p){n:Nat}(h1:1<=n)(hn:n<=N)(d:Dn r p n){G:Nat×Array Nat->cP}(h:∀m p',PM N p'->1<=m->m<=N->Up r p' m->G (m,p') s):(kas_tail3 n N p).kasWp cmp G s:=by
 unfold kas_tail3;rw[KasT.kasWp_bind];have hs:=hp.size;refine xc hc (hp.rev 0 n) _ _ h1 ‹0› (λi j hij hj=>?_) λm a b u _=>h m _ (hp.rev 0 n) ‹0› ‹0› u;rw[uO ‹0›,uO ‹0›,if_pos ‹0›,if_pos ‹0›];exact d _ _ ‹0› ‹0›
theorem oJ(hc:km cmp r N s){p:Array Nat}(hp:PM N p){n:Nat}(hn:n+1<=N)(d:Dn r p (n+1)){G:Nat×Array Nat->cP}(h:∀m p',PM N p'->1<=m->m<=N->Up r p' m->G (m,p') s):(kas_descPart n N p).kasWp cmp G s:=by
 unfold kas_descPart;rw[KasT.kasWp_bind];refine oZ hc _ _ _ _ hp ‹0› ‹0› d ‹0› (λi a b=>by rw[show i=n+1-1 by omega]) λp' m q' hp' a b d' hq he=>?_;have hs:=hp'.size;dsimp only;by_cases hq0:q'>0
 ·rw[if_pos hq0];refine uV hc (hp'.rev _ _) ‹0› ‹0› (λi j hij hj=>?_) h;rw[Dp ‹0› hq he,Dp ‹0› hq he];exact d' i j hij hj
 ·rw[if_neg hq0];exact uV hc hp' ‹0› ‹0› d' h
theorem DC(hc:km cmp r N s)(h1:1<=N){p:Array Nat}(hp:PM N p){G:Nat×Array Nat->cP}(h:∀m p',PM N p'->1<=m->m<=N->Up r p' m->G (m,p') s):(kas_count N p).kasWp cmp G s:=by
 unfold kas_count;rw[KasT.kasWp_bind];have hs:=hp.size;refine xc hc hp _ _ (PX _) ‹0› (λi j hij hj=>by rw[show i=j by omega];exact PX _) λn a b u hor=>?_;by_cases hn:n=N
 ·rw[if_pos (by simpa using hn)];exact h n p hp a ‹0› u
 ·rw[if_neg (by simpa using hn)];have hlt:Rk r p n<Rk r p (n-1):=by
   rcases hor with z|z
   ·omega
   ·exact z
  by_cases hg:n>1
  ·rw[if_pos hg];refine hc _ _ _ (hp.lt ‹0›) (hp.lt ‹0›) ?_;by_cases q:Rk r p 0<Rk r p (n-1)
   ·rw[decide_eq_true q];dsimp only;rw[if_pos rfl];exact h n p hp a ‹0› u
   ·rw[decide_eq_false q];dsimp only;rw[if_neg P4];have hall:∀k,k<n->Rk r p k=Rk r p (n-1):=λk hk=>by
     have a1:=u 0 k ‹0› hk;have a2:=u k (n-1) ‹0› ‹0›;omega
    have hr:∀k,Rk r (kas_rev p 0 n) k=Rk r p k:=λk=>by
     rw[uO ‹0›];split
     ·rename_i z;rw[hall _ ‹0›,hall k z.2]
     ·rfl
    refine oJ hc (hp.rev _ _) ‹0› (λi j hij hj=>?_) h;rw[hr,hr];by_cases hjn:j<n
    ·rw[hall i ‹0›,hall j hjn];exact PX _
    ·have ej:j=n:=(by omega);subst ej;by_cases ei:i=j
     ·subst ei;exact PX _
     ·rw[hall i ‹0›];omega
  ·rw[if_neg hg];have en:n=1:=(by omega);subst en;refine oJ hc hp ‹0› (λi j hij hj=>?_) h;by_cases ei:i=j
   ·subst ei;exact PX _
   ·have e0:i=0:=(by omega);have e1:j=1:=(by omega);subst e0 e1;exact PF hlt
theorem qF(hc:km cmp r N s){p:Array Nat}(hp:PM N p){k:Nat}(hk:k<N)(u:Up r p k){G:Nat->cP}(h:∀l,l<=k->(∀i,i<l->Rk r p i<=Rk r p k)->(∀i,l<=i->i<k->Rk r p k<Rk r p i)->G l s):
  ∀(f l t:Nat),t-l<=f->l<=t->t<=k->(∀i,i<l->Rk r p i<=Rk r p k)->(∀i,t<=i->i<k->Rk r p k<Rk r p i)->(kas_place p k f l t).kasWp cmp G s
 |0,l,t,a,b,c,d,e=>h l ‹0› d λi x y=>e i ‹0› y
 |f+1,l,t,a,b,c,d,e=>by
  unfold kas_place;by_cases hl:l>=t
  ·rw[if_pos hl];exact h l ‹0› d λi x y=>e i ‹0› y
  ·rw[if_neg hl];refine hc _ _ _ (hp.lt hk) (hp.lt ‹0›) ?_;by_cases q:Rk r p k<Rk r p ((l+t)/2)
   ·rw[decide_eq_true q];dsimp only;rw[if_pos rfl];refine qF hc hp hk u h f l ((l+t)/2) ‹0› ‹0› ‹0› d λi x y=>?_
    have:=u ((l+t)/2) i x y
    omega
   ·rw[decide_eq_false q];dsimp only;rw[if_neg P4];refine qF hc hp hk u h f ((l+t)/2+1) t ‹0› ‹0› ‹0› (λi x=>?_) e
    have:=u i ((l+t)/2) ‹0› ‹0›
    omega
theorem By(hc:km cmp r N s){G:Array Nat->cP}(h:∀p,PM N p->Up r p N->G p s):∀(f:Nat)(p:Array Nat)(k:Nat),PM N p->k+f=N->Up r p k->(kas_bin f p k).kasWp cmp G s
 |0,p,k,hp,e,u=>h p hp (by rw[<-e];exact u)
 |f+1,p,k,hp,e,u=>by
  unfold kas_bin;rw[KasT.kasWp_bind];have hs:=hp.size;refine qF hc hp ‹0› u (λl hl d e'=>?_) k 0 k ‹0› (P9 _) (PX _) (λi x=>by omega) λi x y=>by omega
  refine By hc h f _ (k+1) ((bubble_perm p k _).trans hp) ‹0› λi j hij hj=>?_;rw[DB ‹0› ‹0›,DB ‹0› ‹0›,show k-(k-l)=l by omega];have U:=u;by_cases i1:i=l
  ·rw[if_pos i1];by_cases j1:j=l
   ·rw[if_pos j1];exact PX _
   ·rw[if_neg j1,if_pos ‹0›];exact PF (e' (j-1) ‹0› ‹0›)
  ·rw[if_neg i1];by_cases i2:l<i/\i<=k
   ·rw[if_pos i2,if_neg ‹0›,if_pos ‹0›];exact U _ _ ‹0› ‹0›
   ·rw[if_neg i2];by_cases j1:j=l
    ·rw[if_pos j1];exact d i ‹0›
    ·rw[if_neg j1];by_cases j2:l<j/\j<=k
     ·rw[if_pos j2];exact U _ _ ‹0› ‹0›
     ·rw[if_neg j2];exact U _ _ hij ‹0›
theorem yG(hc:km cmp r N s)(h2:1<=N){G:Array Nat->cP}(h:∀p,PM N p->Up r p N->G p s):(kas_sort N).kasWp cmp G s:=by
 unfold kas_sort;rw[KasT.kasWp_bind];refine DC hc h2 (Array.Perm.refl _) λm p' hp a b u=>?_;dsimp only;by_cases hm:m<N
 ·rw[if_pos hm,show max m 1=m by omega];exact By hc h _ p' m hp ‹0› u
 ·rw[if_neg hm];exact h p' hp (by rw[show N=m by omega];exact u)
end
section
variable{prog:Ua}{w:T9}{A:Uj}{E:bh}{s:T8}
theorem qW{a:T5}{vs:aU}{n:Nat}{P:PySem.Fin->cP}{κ:Vr}{r:Nat->Nat}(ho:s.heap.get? a=some (seqObj "list" vs.toArray n))(h64:vs.length<64)
  (hk:2<=vs.length->∀h':Uc,(∀b o,b≠a->s.heap.get? b=some o->h'.get? b=some o)->∀(Q:Vr->cP),Q κ {s with heap:=h'}->Ul (model prog w) A (keyKind' vs.toArray) Q E {s with heap:=h'})
  (hr:2<=vs.length->∀h':Uc,(∀b o,b≠a->s.heap.get? b=some o->h'.get? b=some o)->km (Vs prog w A κ vs) r vs.length {s with heap:=h'})
  (h:∀p:Array Nat,PM vs.length p->Up r p vs.length->P (.done (.ret .none)) {s with heap:=sortedHeap s.heap a vs (List.toArray (p.toList.map λi=>vs.getD i Value.none))}):
  Ul (model prog w) A (Builtin.«list.sort» ⟨[.ref a],[]⟩) P E s:=by
 rw[list_sort_plain];have ha:a<s.heap.objs.size:=Tj ho;refine Uu (listItems_at ho rfl ?_);refine Uu (Vu ho rfl ?_ (by rw[P0,UD];omega) (P9 _));obtain⟨e1,ho1⟩:∃e1,(s.heap.update a (Obj.mapSeq λ_=>(#[]:dX))).get? a=some (seqObj "list" #[] e1):=⟨_,Vv ho (λ_=>#[])⟩
 refine Uu (Vw ho1 rfl ?_);refine Uu (Vn ?_ (by show vs.length<=_;rw[UD];omega));refine Uu (Vx ?_ (P9 _));refine U0 ?_;have ho6:(((s.heap.update a (Obj.mapSeq λ_=>(#[]:dX))).push (seqObj "tuple" vs.toArray 0)).push (seqObj "list" #[] 0)).get? a=some (seqObj "list" #[] e1):=by
  rw[Tu _ _ _ (by rw[size_push',Tv];exact PC (QC ha)),Tu _ _ _ (by rw[Tv];exact PC ha)];exact ho1
 have kept:∀b o,b≠a->s.heap.get? b=some o->(((s.heap.update a (Obj.mapSeq λ_=>(#[]:dX))).push (seqObj "tuple" vs.toArray 0)).push (seqObj "list" #[] 0)).get? b=some o:=λb o hb e=>
  To _ (To _ (by rw[Tx _ _ _ _ hb];exact e))
 show Ul (model prog w) A _ P E {s with heap:=((s.heap.update a (Obj.mapSeq λ_=>(#[]:dX))).push (seqObj "tuple" vs.toArray 0)).push (seqObj "list" #[] 0)};dsimp only;have hsz:vs.toArray.size=vs.length:=by simp
 by_cases h2:vs.toArray.size<2
 ·rw[if_pos h2,if_pos h2];refine Uu (Ut ?_);rw[StateT.run_pure];refine Uu (Ut ?_);dsimp only;refine Uu (Vw ho6 rfl ?_);have hout:(arrOf (SortSt.mk' general' (vs.toArray.zip vs.toArray) #[] 7 none)).map (·.2)=List.toArray ((List.toArray (List.range vs.length)).toList.map λi=>vs.getD i Value.none):=by
   refine kat_snds rfl ?_;show vs.toArray.zip vs.toArray=_;have e:=kas_range (vs.toArray.zip vs.toArray);rw[show(vs.toArray.zip vs.toArray).size=vs.length by simp]at e;exact e.symm
  rw[hout];refine Uu (Vu ho6 rfl ?_ (P9 _) (by rw[P0,P7,UD];simp;omega));simp only[bne_self_eq_false,QB,if_false];refine Ut (h _ (Array.Perm.refl _) λi j hij hj=>?_)
  have:i=j:=by omega
  subst this;exact PX _
 ·rw[if_neg h2,if_neg h2];have h2':2<=vs.length:=by omega
  refine Uu (hk h2' _ kept _ ?_);refine Uu (Uo (kat_run (Q:=λst' s'=>∃p:Array Nat,arrOf st'=p.map (kas_item (vs.toArray.zip vs.toArray))/\failedOf st'=none/\PM vs.length p/\Up r p vs.length/\s'={s with heap:=((s.heap.update a (Obj.mapSeq λ_=>(#[]:dX))).push (seqObj "tuple" vs.toArray 0)).push (seqObj "list" #[] 0)})
   (G:=λp s'=>PM vs.length p/\Up r p vs.length/\s'={s with heap:=((s.heap.update a (Obj.mapSeq λ_=>(#[]:dX))).push (seqObj "tuple" vs.toArray 0)).push (seqObj "list" #[] 0)})
   rfl h2' h64 (λp' st' s' a1 a2 a3 a4=>⟨p',a2,a3,a4.1,a4.2.1,a4.2.2⟩) (yG (hr h2' _ kept) ‹0› λp hp hu=>⟨hp,hu,rfl⟩)) ?_ λ_ _ e=>e)
  rintro⟨⟨⟩,st'⟩ s' ⟨p,har,hf,hp,hu,rfl⟩;dsimp only;refine Uu (Vw ho6 rfl ?_);have hout:=kat_snds rfl har;rw[hout];refine Uu (Vu ho6 rfl ?_ (P9 _) (by rw[P0,P7,Array.length_toList,hp.size,UD];omega));rw[hf];simp only[bne_self_eq_false,QB,if_false];exact Ut (h p hp hu)
theorem qL{src:T2}{vs:aU}{Q:bh}{κ:Vr}{r:Nat->Nat}(h64:vs.length<64)
  (hcol:∀(Q':aU->cP),(∀h' tk,(∀b o,s.heap.get? b=some o->h'.get? b=some o)->Q' vs {s with heap:=h',toks:=tk})->Ul (model prog w) A.in1 (collect src) Q' E s)
  (hk:2<=vs.length->∀(h':Uc)(tk:Nat),(∀b o,s.heap.get? b=some o->h'.get? b=some o)->∀(Q:Vr->cP),Q κ {s with heap:=h',toks:=tk}->Ul (model prog w) A.in1.in1 (keyKind' vs.toArray) Q E {s with heap:=h',toks:=tk})
  (hr:2<=vs.length->∀(h':Uc)(tk:Nat),(∀b o,s.heap.get? b=some o->h'.get? b=some o)->km (Vs prog w A.in1.in1 κ vs) r vs.length {s with heap:=h',toks:=tk})
  (h:∀(p:Array Nat)(h1 h':Uc)(l:T5)(e tk:Nat),PM vs.length p->Up r p vs.length->(∀b o,s.heap.get? b=some o->h1.get? b=some o)->(∀b o,h1.get? b=some o->h'.get? b=some o)->h1.objs.size<=l->h'.get? l=some (seqObj "list" (List.toArray (p.toList.map λi=>vs.getD i Value.none)) e)->Q (.ref l) {s with heap:=h',toks:=tk}):
  Ul (model prog w) A (call (.builtin "sorted") [src]) Q E s:=by
 refine Calls.call_function_entry kind_sorted plain_sorted entry_sorted (args_sorted1 _) ?_;unfold Builtin.«sorted»;refine Uu (m:=checkCount "sorted" 1 1 _) (Ut ?_);refine Uu (hcol _ λh1 tk k1=>?_);refine Uu (Vx ?_ (by rw[UD];omega));have hoL:(h1.push (seqObj "list" vs.toArray 0)).get? h1.objs.size=some (seqObj "list" vs.toArray 0):=Tp _ rfl;have k2:∀b o,s.heap.get? b=some o->(h1.push (seqObj "list" vs.toArray 0)).get? b=some o:=λb o e=>To _ (k1 b o e);have ne:∀b o,s.heap.get? b=some o->b≠h1.objs.size:=λb o e=>PC (Tj (k1 b o e));refine Uu (U0 (U2 slot_list_sort ⟨_,hoL,rfl⟩ entry_list_sort (qW (s:={s with heap:=h1.push (seqObj "list" vs.toArray 0),toks:=tk}) (r:=r) (κ:=κ) hoL h64
  (λh2 h' k=>hk h2 h' tk λb o e=>k b o (ne b o e) (k2 b o e)) (λh2 h' k=>hr h2 h' tk λb o e=>k b o (ne b o e) (k2 b o e)) λp hp hu=>⟨_,rfl,?_⟩) (args_list_sort _)))
 refine Ut ⟨_,rfl,?_⟩;obtain⟨e,he⟩:=sortedHeap_at (vs:=vs) (out:=List.toArray (p.toList.map λi=>vs.getD i Value.none)) hoL;exact h p h1 _ h1.objs.size e tk hp hu k1 (λb o q=>by rw[sortedHeap_old (PC (Tj q)) (by rw[size_push'];exact QC (Tj q))];exact To _ q) (PX _) he
end
noncomputable def de:D->List D
 |.tup ks=>ks
 |_=>[]
noncomputable def oneOf(d:D):List D:=[d]
noncomputable def Jf(xs:List D):Prop:=xs.length<64/\∃σ:bQ,σ≠[]/\(∀x∈xs,∃k,x=.tup k/\Sh σ k)/\xs.Pairwise λx y=>de x≠de y
noncomputable def Ls(xs:List D):Prop:=xs.length<64/\∃b:Bool,(∀x∈xs,Sh [b] [x])/\xs.Pairwise λx y=>oneOf x≠oneOf y
open Classical in
noncomputable def oI(xs:List D):bG:=if Jf xs then some (.lst (iy de xs))else if Ls xs then some (.lst (iy oneOf xs))else none
noncomputable def eB:List D->bG
 |[.lst xs]=>oI xs
 |[.tup xs]=>oI xs
 |_=>none
theorem ow{prog:Ua}{w:T9}{A:Uj}{s:T8}{Q:Bool->cP}{fin:Bool}(hf:fin=false){σ:bQ}{ns ms:List D}{xs ys:aU}{i:Nat}(h1:Sh σ ns)(h2:Sh σ ms)(f1:fE xs ns)(f2:fE ys ms)(h:Q (kLt ns ms) s):KatLex prog w A true fin Q (xs.zip ys) i s:=by
 induction h1 generalizing ms xs ys i with
 |nil=>
  cases h2;cases f1;cases f2;subst hf;exact kat_nil (by simpa [kLt,cV]using h)
 |int a h1 ih=>
  cases h2 with|int c h2=>
  cases f1 with|int _ t f1=>
  cases f2 with|int _ u f2=>
  rw[Rr];obtain⟨e,he,hiff⟩:=Hq A s a t c u;refine kat_cons (he prog w _ _ ?_);cases e with
  |true=>
   have ac:=hiff.mp rfl;refine kat_yes (ih h2 f1 f2 ?_);unfold kLt at h ⊢;rw[pU,if_pos ac]at h;exact h
  |false=>
   have ac:¬a=c:=λq=>absurd (hiff.mpr q) P4;have h':Q (decide (a<c)) s:=by
    unfold kLt at h;rw[pU,if_neg ac]at h;cases hd:decide (a<c)<;>rw[hd]at h<;>exact h
   refine kat_no ?_;cases hi:(i==0)with
   |true=>exact oneLt_int h'
   |false=>exact kat_one _ _ (PySem.P.lt_int (show Td Q (.bool _) s from h'))
 |str a h1 ih=>
  cases h2 with|str c h2=>
  cases f1 with|str _ t f1=>
  cases f2 with|str _ u f2=>
  rw[Rr];obtain⟨e,he,hiff⟩:=G6 A s a t c u;refine kat_cons (he prog w _ _ ?_);cases e with
  |true=>
   have ac:=hiff.mp rfl;refine kat_yes (ih h2 f1 f2 ?_);unfold kLt at h ⊢;rw[qq,if_pos ac]at h;exact h
  |false=>
   have ac:¬a=c:=λq=>absurd (hiff.mpr q) P4;have h':Q (decide (a.cps.toList<c.cps.toList)) s:=by
    unfold kLt at h;rw[qq,if_neg ac]at h;cases hd:decide (a.cps.toList<c.cps.toList)<;>rw[hd]at h<;>exact h
   refine kat_no ?_;cases hi:(i==0)with
   |true=>exact oneLt_str h'
   |false=>exact kat_one _ _ (PySem.P.lt_str (show Td Q (.bool _) s from h'))
theorem lQ{h:Uc}{PT:T2->Prop}:∀{its:aU},(∀v∈its,∃a o xs n f,v=.ref a/\h.get? a=some o/\o.cls=.type "tuple"/\o.data=.seq xs n/\xs[0]?=some f/\PT f)->∃fs,KatTups h its fs/\fs.length=its.length/\∀f∈fs,PT f
 |[],_=>⟨[],.nil,rfl,λ_ h=>nomatch h⟩
 |v::its,hh=>by
  obtain⟨a,o,xs,n,f,rfl,h1,h2,h3,h4,h5⟩:=hh v PJ;obtain⟨fs,k1,k2,k3⟩:=lQ (its:=its) λu hu=>hh u (PL _ hu);refine⟨f::fs,.cons h1 h2 h3 h4 k1,by rw[P5,P5,k2],λg hg=>?_⟩;rcases List.mem_cons.mp hg with rfl|z
  ·exact h5
  ·exact k3 g z
theorem fE.first{σ:bQ}{b:Bool}{xs:aU}{ns:List D}(f:fE xs ns)(h:Sh (b::σ) ns):∃v,xs[0]?=some v/\typeOf v=pure (.type (if b then"int"else"str")):=by
 cases f with
 |nil=>cases h
 |int i t f=>cases h;exact⟨_,rfl,rfl⟩
 |str i t f=>cases h;exact⟨_,rfl,rfl⟩
theorem oG{key:D->List D}{σ:bQ}{ds:List D}(h:∀x∈ds,Sh σ (key x))(pw:ds.Pairwise λx y=>key x≠key y){p:Array Nat}(hp:PM ds.length p)(hu:Up (rank (ds.map key)) p ds.length):p.toList.map (λi=>ds.getD i .non)=iy key ds:=by
 have hr:p.toList.Perm (List.range ds.length):=by
  have:=Array.perm_iff_toList_perm.mp hp
  simpa using this
 have hmap:(List.range ds.length).map (λi=>ds.getD i .non)=ds:=by
  apply List.ext_getElem
  ·simp
  ·intro i h1 h2;simp at h1;simp[h1]
 have hperm:(p.toList.map λi=>ds.getD i .non).Perm ds:=by
  have:=hr.map (λi=>ds.getD i .non)
  rwa [hmap]at this
 have hn:p.toList.Nodup:=hr.nodup_iff.mpr List.nodup_range;refine(uU h pw ?_ hperm).symm;have hl:p.toList.length=ds.length:=by rw[hr.length_eq,QX]
 have kd:∀i,i<ds.length->(ds.map key).getD i []=key (ds.getD i .non):=λi hi=>by simp[hi]
 have hsh:∀k∈ds.map key,Sh σ k:=λk hk=>by
  obtain⟨x,hx,rfl⟩:=List.mem_map.mp hk;exact h x hx
 unfold vM;rw[RL,List.pairwise_iff_getElem];intro i j hi hj hij;have hi':p.toList[i]<ds.length:=by simpa using hr.mem_iff.mp (RK hi)
 have hj':p.toList[j]<ds.length:=by simpa using hr.mem_iff.mp (RK hj)
 have ne:p.toList[i]≠p.toList[j]:=List.pairwise_iff_getElem.mp hn i j hi hj hij;have up:=hu i j ‹0› ‹0›;have gi:p.getD i 0=p.toList[i]:=by
  have:i<p.size:=by rw[<-Array.length_toList];exact hi
  simp[Array.getD,this]
 have gj:p.getD j 0=p.toList[j]:=by
  have:j<p.size:=by rw[<-Array.length_toList];exact hj
  simp[Array.getD,this]
 unfold Rk at up;rw[gi,gj]at up;have rl:=pq hsh (i:=p.toList[j]) (j:=p.toList[i]) (by rw[P7];exact hj') (by rw[P7];exact hi');rw[kd _ hj',kd _ hi',decide_eq_false ‹0›]at rl;have ei:ds.getD p.toList[i] .non=ds[p.toList[i]]:=by rw[RM,QO hi'];rfl
 have ej:ds.getD p.toList[j] .non=ds[p.toList[j]]:=by rw[RM,QO hj'];rfl
 have s1:=h _ (show ds.getD p.toList[i] .non∈ds by rw[ei];exact RK hi');have s2:=h _ (show ds.getD p.toList[j] .non∈ds by rw[ej];exact RK hj');rcases pB s1 s2 with⟨z,_⟩|z|⟨z,_⟩
 ·exact z
 ·exfalso;have pw':=List.pairwise_iff_getElem.mp pw;rw[ei,ej]at z;rcases Nat.lt_or_gt_of_ne ne with q|q
  ·exact pw' _ _ hi' hj' q z
  ·exact pw' _ _ hj' hi' q z.symm
 ·rw[Gp.mpr z]at rl;cases rl
theorem nB{vs:aJ}{us:aU}(r:Vals vs us):∀l:List Nat,(∀i∈l,i<vs.length)->Vals (l.map λi=>vs.getD i .non) (l.map λi=>us.getD i Value.none)
 |[],_=>.nil
 |i::l,h=>by
  have hi:=h i PJ;obtain⟨u,e,q⟩:=r.get (i:=i) (x:=vs[i]) (by simp[hi]);refine .cons ?_ (nB r l λj hj=>h j (PL _ hj));have e1:vs.getD i .non=vs[i]:=by simp[hi]
  have e2:us.getD i Value.none=u:=by simp[RM,e]
  show L2.RelV (vs.getD i .non) (us.getD i Value.none);rw[e1,e2];exact q
theorem og{K:SH}{H:Hp}{ds:List D}{vs:aJ}(g:aK K H ds vs):∀l:List Nat,(∀i∈l,i<ds.length)->aK K H (l.map λi=>ds.getD i .non) (l.map λi=>vs.getD i .non)
 |[],_=>cn.mpr rfl
 |i::l,h=>by
  have hi:=h i PJ;obtain⟨v,e,q⟩:=g.get (i:=i) (d:=ds[i]) (by simp[hi]);refine aX.mpr ⟨_,_,rfl,?_,og g l λj hj=>h j (PL _ hj)⟩;have e1:ds.getD i .non=ds[i]:=by simp[hi]
  have e2:vs.getD i .non=v:=by simp[RM,e]
  show cu K H (ds.getD i .non) (vs.getD i .non);rw[e1,e2];exact q
section
variable{X:Cx}{pins:bf}{s:T8}{σ:L2.St}{H:Hp}{O:az}
theorem rG{u:T2}{ds:List D}{vs:aJ}{its:aU}{d:D}{Q:VK}(I:Inv X pins σ H s)(hO:dN H O)(dn:aK X.K (hid H O) ds vs)(rv:Vals vs its)(hs:oI ds=some d)
  (hcol:∀(Q':aU->cP),(∀h' tk,(∀b o,s.heap.get? b=some o->h'.get? b=some o)->Q' its {s with heap:=h',toks:=tk})->Ul (model X.prog X.w) X.A.in1 (collect u) Q' X.xe s)
  (q:∀v H',aR H H'->cu X.K (hid H' O) d v->Q v H'):Ul (model X.prog X.w) X.A (call (.builtin "sorted") [u]) (EP X pins σ Q) X.xe s:=by
 have l1:=dn.length;have l2:=rv.length;have fin:∀(key:D->List D)(σ':bQ),(∀x∈ds,Sh σ' (key x))->ds.Pairwise (λx y=>key x≠key y)->ds.length<64->d=.lst (iy key ds)->∀(p:Array Nat)(h1 h':Uc)(l:T5)(e tk:Nat),PM its.length p->Up (rank (ds.map key)) p its.length->(∀b o,s.heap.get? b=some o->h1.get? b=some o)->(∀b o,h1.get? b=some o->h'.get? b=some o)->h1.objs.size<=l->
   h'.get? l=some (seqObj "list" (List.toArray (p.toList.map λi=>its.getD i Value.none)) e)->EP X pins σ Q (.ref l) {s with heap:=h',toks:=tk}:=by
  intro key σ' hsh pw h64 ed p h1 h' l e tk hp hu k1 k2 hl he;have el:its.length=ds.length:=by omega
  rw[el]at hp hu;have ps:=oG hsh pw hp hu;have hr:p.toList.Perm (List.range ds.length):=by
   have:=Array.perm_iff_toList_perm.mp hp
   simpa using this
  have hlt:∀i∈p.toList,i<ds.length:=λi hi=>by simpa using hr.mem_iff.mp hi
  have I1:Inv X pins σ H {s with heap:=h1,toks:=tk}:=I.kept k1;have hn:H l=none:=I1.hok.fresh hl;have rv':=nB rv p.toList λi hi=>by have:=hlt i hi;omega
  have dn':=og dn p.toList hlt;have hlen:p.toList.length=ds.length:=by rw[hr.length_eq,QX]
  refine⟨.ref l,_,Inv.laid (s:={s with heap:=h1,toks:=tk}) (t':=tk) I1 k2 hl (show b9 X.prog X.w _ h' _ (.lst (p.toList.map λi=>vs.getD i .non))from⟨by rw[P7,hlen,UD];omega,_,e,rv',he⟩),rfl,?_⟩;refine q _ _ (bj hn _) ?_;rw[ed,<-ps];exact cS hO hn dn'
 unfold oI at hs;split at hs
 ·rename_i h;cases hs;obtain⟨h64,σ',hσ,hsh,pw⟩:=h;obtain⟨b,σ1,rfl⟩:∃b σ1,σ'=b::σ1:=by
   cases σ' with
   |nil=>exact absurd rfl hσ
   |cons b σ1=>exact⟨b,σ1,rfl⟩
  have hsh':∀x∈ds,Sh (b::σ1) (de x):=λx hx=>by
   obtain⟨k,rfl,hk⟩:=hsh x hx;exact hk
  have at':∀i (hi:i<ds.length),∃a o xs n,its[i]?=some (.ref a)/\s.heap.get? a=some o/\o.cls=.type "tuple"/\o.data=.seq xs n/\fE xs.toList (de ds[i]):=λi hi=>by
   obtain⟨v,e1,dv⟩:=dn.get (i:=i) (d:=ds[i]) (by simp[hi]);obtain⟨w,e2,rw'⟩:=rv.get e1;obtain⟨k,ek,hk⟩:=hsh _ (RK hi);rw[ek]at dv ⊢;obtain⟨a,ws,rfl,ha,dk⟩:=bY.mp dv;cases rw';obtain⟨it2,r2,⟨o,ho,hc,n,hd⟩,_⟩:=I.tuple (bJ (aj H O) ha);exact⟨a,o,_,n,e2,ho,hc,hd,by simpa [de]using jp (pD hk) dk r2⟩
  refine qL (κ:=tuples' true) (r:=rank (ds.map de)) ‹0› hcol (λh2 h' tk kp Q' hQ=>?_) (λh2 h' tk kp i j C hi hj hC=>?_) (fin de _ hsh' pw h64 rfl)
  ·obtain⟨fs,t1,t2,t3⟩:=lQ (h:=h') (PT:=λf=>typeOf f=pure (.type (if b then"int"else"str"))) (its:=its) λv hv=>by
    obtain⟨i,hi,rfl⟩:=QS hv;obtain⟨a,o,xs,n,e1,ho,hc,hd,ff⟩:=at' i ‹0›;obtain⟨f,ef,tf⟩:=ff.first (hsh' _ (RK _));refine⟨a,o,xs,n,f,?_,kp _ _ ho,hc,hd,by simpa using ef,tf⟩
    have:=QO hi
    rw[e1]at this;exact(Option.some.inj this).symm
   refine kat_kind (T:=.type (if b then"int"else"str")) t1 ‹0› (λf hf=>Looks.of_pure (t3 f hf)) (by cases b<;>rfl) ?_
   have:(Value.type (if b then"int"else"str") !=Value.type "tuple")=true:=(by cases b<;>rfl);rw[this];exact hQ
  ·obtain⟨a,o,xs,n,e1,ho,hc,hd,ff⟩:=at' i ‹0›;obtain⟨a2,o2,xs2,n2,e2,ho2,hc2,hd2,ff2⟩:=at' j ‹0›;unfold Vs;have g1:its.getD i Value.none=.ref a:=(by simp[RM,e1]);have g2:its.getD j Value.none=.ref a2:=(by simp[RM,e2]);rw[g1,g2];have hi':i<ds.length:=(by omega);have hj':j<ds.length:=(by omega);have sh1:=hsh' _ (RK hi');have sh2:=hsh' _ (RK hj');have rl:=pq (ks:=ds.map de) (σ:=b::σ1) (λk hk=>by obtain⟨x,hx,rfl⟩:=List.mem_map.mp hk;exact hsh' x hx) (i:=i) (j:=j) (by rw[P7];exact hi') (by rw[P7];exact hj');have k1:(ds.map de).getD i []=de ds[i]:=(by simp[hi']);have k2:(ds.map de).getD j []=de ds[j]:=(by simp[hj']);rw[k1,k2]at rl;rw[rl]at hC;refine kat_lt (kp _ _ ho) hd (kp _ _ ho2) hd2 (ow ?_ sh1 sh2 ff ff2 hC);have z1:xs.size=(de ds[i]).length:=(by have:=ff.length;simpa using this);have z2:xs2.size=(de ds[j]).length:=(by have:=ff2.length;simpa using this);have z3:(de ds[i]).length=(de ds[j]).length:=(by rw[Sh.length sh1,Sh.length sh2]);exact decide_eq_false ‹0›
 ·split at hs
  ·rename_i _ h;cases hs;obtain⟨h64,b,hsh,pw⟩:=h;have at':∀i (hi:i<ds.length),(∃(n:Int)(t:Tok),b=true/\its[i]?=some (.int n t)/\ds[i]=.int n)\/∃(x:Str)(t:Tok),b=false/\its[i]?=some (.str x t)/\ds[i]=.str x:=λi hi=>by
    obtain⟨v,e1,dv⟩:=dn.get (i:=i) (d:=ds[i]) (by simp[hi]);obtain⟨w,e2,rw'⟩:=rv.get e1;have hk:=hsh _ (RK hi);generalize ds[i]=di at dv hk;cases hk with
    |int n _=>
     rw[eF]at dv;subst dv;obtain⟨t,rfl⟩:=rw';exact .inl ⟨n,t,rfl,e2,rfl⟩
    |str x _=>
     rw[eN]at dv;subst dv;obtain⟨t,rfl⟩:=rw';exact .inr ⟨x,t,rfl,e2,rfl⟩
   refine qL (κ:=oneType') (r:=rank (ds.map oneOf)) ‹0› hcol (λh2 h' tk kp Q' hQ=>?_) (λh2 h' tk kp i j C hi hj hC=>?_) (fin oneOf [b] hsh pw h64 rfl)
   ·refine kas_kind (T:=.type (if b then"int"else"str")) h2 (λv hv=>?_) (by cases b<;>rfl) (by cases b<;>rfl) hQ;obtain⟨i,hi,rfl⟩:=QS hv;have hg:=QO hi;rcases at' i ‹0›with⟨n,t,rfl,e,_⟩|⟨x,t,rfl,e,_⟩
    ·rw[hg]at e;rw[Option.some.inj e];exact Looks.of_pure rfl
    ·rw[hg]at e;rw[Option.some.inj e];exact Looks.of_pure rfl
   ·have hi':i<ds.length:=(by omega);have hj':j<ds.length:=(by omega);unfold Vs;have rl:=pq (ks:=ds.map oneOf) (σ:=[b]) (λk hk=>by obtain⟨x,hx,rfl⟩:=List.mem_map.mp hk;exact hsh x hx) (i:=i) (j:=j) (by rw[P7];exact hi') (by rw[P7];exact hj');have k1:(ds.map oneOf).getD i []=[ds[i]]:=(by simp[hi',oneOf]);have k2:(ds.map oneOf).getD j []=[ds[j]]:=(by simp[hj',oneOf]);rw[k1,k2]at rl;rw[rl]at hC;rcases at' i hi' with⟨n,t,hb,e1,q1⟩|⟨x,t,hb,e1,q1⟩
    ·rcases at' j hj' with⟨n2,t2,hb2,e2,q2⟩|⟨x2,t2,hb2,e2,q2⟩
     ·have g1:its.getD i Value.none=.int n t:=(by simp[RM,e1]);have g2:its.getD j Value.none=.int n2 t2:=(by simp[RM,e2]);rw[g1,g2,keyLt'_oneType];refine oneLt_int ?_;rw[q1,q2]at hC;unfold kLt at hC;rw[pU]at hC;by_cases z:n=n2
      ·rw[if_pos z]at hC;rw[decide_eq_false ‹0›];exact hC
      ·rw[if_neg z]at hC;cases hd:decide (n<n2)<;>rw[hd]at hC<;>exact hC
     ·rw[hb]at hb2;cases hb2
    ·rcases at' j hj' with⟨n2,t2,hb2,e2,q2⟩|⟨x2,t2,hb2,e2,q2⟩
     ·rw[hb]at hb2;cases hb2
     ·have g1:its.getD i Value.none=.str x t:=(by simp[RM,e1]);have g2:its.getD j Value.none=.str x2 t2:=(by simp[RM,e2]);rw[g1,g2,keyLt'_oneType];refine oneLt_str ?_;rw[q1,q2]at hC;unfold kLt at hC;rw[qq]at hC;by_cases z:x=x2
      ·rw[if_pos z]at hC;rw[decide_eq_false (by rw[z];exact qf _)];exact hC
      ·rw[if_neg z]at hC;cases hd:decide (x.cps.toList<x2.cps.toList)<;>rw[hd]at hC<;>exact hC
  ·cases hs
theorem uD:dW X (.builtin "sorted") (xO X.K eB):=by
 rintro pins s σ H xs us Q I r ⟨O,ds,d,hO,hd,hg,q⟩;unfold eB at hg;split at hg
 ·obtain⟨v,rfl,h1⟩:=hd.one;obtain⟨p,ws,rfl,g1,g2⟩:=bX.mp h1;obtain⟨u,rfl,ru⟩:=vals1 r;cases ru;obtain⟨its,rv,pl,hz⟩:=I.list ((aj H O).seq g1);have hlen:=rv.length;obtain⟨o,ho,hc,n,hd'⟩:=pl.isList;exact rG I hO g2 rv hg (λQ' hQ=>Vy p (.inl rfl) ho hc hd' (λh' k=>by simpa using hQ h' s.toks k) (by simp only[P0]<;>omega)) q
 ·obtain⟨v,rfl,h1⟩:=hd.one;obtain⟨p,ws,rfl,g1,g2⟩:=bY.mp h1;obtain⟨u,rfl,ru⟩:=vals1 r;cases ru;obtain⟨its,rv,⟨o,ho,hc,n,hd'⟩,hz⟩:=I.tuple (bJ (aj H O) g1);have hlen:=rv.length;exact rG I hO g2 rv hg (λQ' hQ=>Vy p (.inr rfl) ho hc hd' (λh' k=>by simpa using hQ h' s.toks k) (by simp only[P0]<;>omega)) q
 ·cases hg
end
end TG
namespace TG
open PySem PySem.Spec L2
variable[aB]
section
variable{X:Cx}{tg:T6}
end
end TG
namespace TG
open PySem PySem.Spec L2
variable[aB]
end TG
namespace TG
open PySem PySem.Spec L2
variable[aB]
end TG
namespace TG
open PySem PySem.Spec L2
variable[aB]
noncomputable def keyOf:D->Option Key
 |.int i=>some (.inl i)
 |.str x=>some (.inr x)
 |_=>none
noncomputable def keysOf:List D->Option (cX)
 |[]=>some []
 |d::r=>(keyOf d).bind λk=>(keysOf r).map (k::·)
noncomputable def fK:D->Option (cX)
 |.tup ds=>keysOf ds
 |_=>none
theorem qp{d:D}{k:Key}(h:keyOf d=some k):d=bg k:=by
 cases d with
 |int i=>cases h;rfl
 |str x=>cases h;rfl
 |_=>cases h
theorem lB:∀{ds:List D}{ks:cX},keysOf ds=some ks->ds=ks.map bg
 |[],_,h=>by cases h;rfl
 |d::r,ks,h=>by
  unfold keysOf at h;cases e1:keyOf d with
  |none=>rw[e1]at h;cases h
  |some k=>
   rw[e1]at h;cases e2:keysOf r with
   |none=>rw[e2]at h;cases h
   |some ks'=>rw[e2]at h;cases h;rw[qp e1,lB e2];rfl
theorem jJ{d:D}{k:cX}(h:fK d=some k):d=.tup (k.map bg):=by
 cases d with
 |tup ds=>rw[lB (show keysOf ds=some k from h)]
 |_=>cases h
theorem bR:∀ks:cX,keysOf (ks.map bg)=some ks
 |[]=>rfl
 |k::r=>by
  show(keyOf (bg k)).bind _=_;have e:keyOf (bg k)=some k:=by cases k<;>rfl
  rw[e];show(keysOf (r.map bg)).map (k::·)=_;rw[bR r];rfl
theorem qM{K:SH}{H:Hp}{k:Key}{v:V}(h:cu K H (bg k) v):v=kV k:=by
 cases k with
 |inl i=>exact eF.mp h
 |inr x=>exact eN.mp h
theorem fZ{K:SH}{H:Hp}:∀{ks:cX}{vs:aJ},aK K H (ks.map bg) vs->vs=ks.map kV
 |[],vs,h=>by rw[Qq,cn]at h;exact h
 |k::r,vs,h=>by
  rw[P6,aX]at h;obtain⟨v,r',e1,h1,h2⟩:=h;rw[e1,qM h1,fZ h2];rfl
section
variable{P:Ua}{w:T9}{H H':Hp}{h:Uc}{a:T5}
theorem CL(x:b9 P w H h a (.dK [])):b9 P w H' h a (.dT []):=by
 obtain⟨z,hd,vs,rel,o,es,ep,h1,h2,h3,h4,h5,h6⟩:=x;have e:vs=[]:=by have:=rel.length;simpa using this.symm
 subst e;refine⟨P9 _,hd,[],.nil,o,es,ep,h1,h2,h3,?_,by simp⟩
 have:=h5.length
 simpa using this
theorem vh(x:b9 P w H h a (.dT [])):b9 P w H' h a (.dK []):=by
 obtain⟨z,hd,xs,rel,o,es,ep,h1,h2,h3,h4,h5⟩:=x;have e:xs=[]:=by have:=rel.length;simpa using this.symm
 subst e;have e2:es=#[]:=by simpa using h4
 subst e2;exact⟨P9 _,hd,[],.nil,o,#[],ep,h1,h2,h3,λe he=>by simp at he,.nil,by simp⟩
end
section
variable{X:Cx}{pins:bf}{σ:St}{H:Hp}{s:T8}{a:T5}
theorem Bc(I:Inv X pins σ H s)(h1:H a=some (.dK [])):Inv X pins σ (upd H a (.dT [])) s:=by
 have hx:=I.hok a _ h1;have hq:∃q,s.heap.get? a=some q:=by obtain⟨_,_,_,_,o,_,_,e,_⟩:=id hx;exact⟨o,e⟩
 exact kC (ob:=.dT []) (h':=s.heap) (t':=s.toks) I (by rw[h1];exact trivial) ⟨rfl,λ_ _=>rfl⟩ hq (CL hx)
theorem JP(I:Inv X pins σ H s)(h1:H a=some (.dT [])):Inv X pins σ (upd H a (.dK [])) s:=by
 have hx:=I.hok a _ h1;have hq:∃q,s.heap.get? a=some q:=by obtain⟨_,_,_,_,o,_,_,e,_⟩:=id hx;exact⟨o,e⟩
 exact kC (ob:=.dK []) (h':=s.heap) (t':=s.toks) I (by rw[h1];exact trivial) ⟨rfl,λ_ _=>rfl⟩ hq (vh hx)
end
theorem vE{H:Hp}{a:T5}{o1 o2:HO}(h:H a=some o1):upd (upd H a o2) a o1=H:=by
 funext b;by_cases e:b=a
 ·subst e;rw[ay,h]
 ·rw[ao e,ao e]
noncomputable def iM:List D->List D->Option (cx)
 |[],[]=>some []
 |k::ks,d::ds=>(fK k).bind λk=>(iM ks ds).map ((k,d)::·)
 |_,_=>none
noncomputable abbrev encK(al:cx):List D:=al.map λp=>.tup (p.1.map bg)
noncomputable abbrev bS(al:cx):D:=.dct (encK al) (al.map (·.2))
theorem gh:∀{ks ds:List D}{al:cx},iM ks ds=some al->ks=encK al/\ds=al.map (·.2)
 |[],[],_,h=>by cases h;exact⟨rfl,rfl⟩
 |k::ks,d::ds,al,h=>by
  unfold iM at h;cases e1:fK k with
  |none=>rw[e1]at h;cases h
  |some k'=>
   rw[e1]at h;cases e2:iM ks ds with
   |none=>rw[e2]at h;cases h
   |some al'=>
    rw[e2]at h;cases h;obtain⟨h1,h2⟩:=gh e2;rw[jJ e1,h1,h2];exact⟨rfl,rfl⟩
 |[],_::_,_,h=>by cases h
 |_::_,[],_,h=>by cases h
theorem gx:∀al:cx,iM (encK al) (al.map (·.2))=some al
 |[]=>rfl
 |p::r=>by
  show(fK (.tup (p.1.map bg))).bind _=_;have e:fK (.tup (p.1.map bg))=some p.1:=bR p.1;rw[e];show(iM (encK r) (r.map (·.2))).map ((p.1,p.2)::·)=_;rw[gx r];rfl
theorem jV:∀{al:cx}{ks:List cX},encK al=ks.map (λk=>.tup (k.map bg))->al.map (·.1)=ks
 |[],[],_=>rfl
 |p::r,k::ks,h=>by
  have h:D.tup (p.1.map bg)::encK r=D.tup (k.map bg)::ks.map (λk=>.tup (k.map bg)):=h;injection h with h1 h2;injection h1 with h1;have e:some p.1=some k:=by rw[<-bR p.1,h1,bR k]
  rw[P6,Option.some.inj e,jV h2]
 |[],_::_,h=>by cases h
 |_::_,[],h=>by cases h
theorem Nb{K:SH}{H:Hp}{O:az}{a:T5}{al:cx}(h:cD K H O a (bS al)):
  (∃kvs:List (List Key×V),H a=some (.dT kvs)/\kvs.map (·.1)=al.map (·.1)/\aK K (hid H O) (al.map (·.2)) (kvs.map (·.2)))\/(H a=some (.dK [])/\al=[]):=by
 obtain⟨o,vs,h1,h2,h3⟩:=h;rcases h3 with⟨kvs,e,e1,e2⟩|⟨kvs,e,e1,e2⟩
 ·subst e;cases kvs with
  |nil=>
   refine .inr ⟨h1,?_⟩
   simpa using e1
  |cons p r=>
   cases al with
   |nil=>cases e1
   |cons q r'=>
    have e1:D.tup (q.1.map bg)::encK r'=bg p.1::r.map (λp=>bg p.1):=e1;injection e1 with e1 _;rcases p with⟨k,v⟩
    cases k<;>cases e1
 ·subst e;refine .inl ⟨kvs,h1,?_,by rw[<-e2];exact h2⟩;exact(jV (ks:=kvs.map (·.1)) (by rw[RN];exact e1)).symm
theorem BP{kvs:List (List Key×V)}{ks:List cX}(e:kvs.map (·.1)=ks)(k:cX):(gF kvs k).isSome=ks.any λq=>decide (q=k):=by
 subst e
 induction kvs with
 |nil=>rfl
 |cons p r ih=>
  rw[P6,Qs,<-ih];by_cases e:p.1=k
  ·rw[iV e];simp[e]
  ·rw[ig e];simp[e]
noncomputable def oN(ks ds:List D)(k:D):bG:=(iM ks ds).bind λal=>(fK k).bind λk=>some (.bl (al.any λp=>decide (p.1=k)))
noncomputable def OJ(i:Nat)(f:FX):FX:=λρ=>(f ρ).bind λk=>match ρ[i]? with
 |some (some (.own (.dct ks ds)))=>rO (oN ks ds k)
 |_=>un
theorem wD{ks ds:List D}{k d:D}(h:oN ks ds k=some d):∃al q,ks=encK al/\ds=al.map (·.2)/\k=.tup (q.map bg)/\d=.bl (al.any λp=>decide (p.1=q)):=by
 unfold oN at h;cases e1:iM ks ds with
 |none=>rw[e1]at h;cases h
 |some al=>
  rw[e1]at h;cases e2:fK k with
  |none=>rw[e2]at h;cases h
  |some q=>
   rw[e2]at h;cases h;obtain⟨h1,h2⟩:=gh e1;exact⟨al,q,h1,h2,jJ e2,rfl⟩
noncomputable def gG(al:cx)(k:cX)(v:D):cx:=if(al.any λp=>decide (p.1=k))=true then al.map (λp=>if p.1=k then(p.1,v)else p)else al++[(k,v)]
noncomputable def sI(ks ds:List D)(k v:D):Option (cx):=(iM ks ds).bind λal=>(fK k).bind λk=>if small al.length then some (gG al k v)else none
noncomputable def rF(i:Nat)(fk fv:FX):bH:=λk ρ=>match ρ[i]? with
 |some (some (.own (.dct ks ds)))=>o7 ((fv ρ).bind λv=>(fk ρ).bind λq=>rO (sI ks ds q v)) k ρ λal=>k.nx (ρ.set i (some (.own (bS al))))
 |_=>un
theorem wU{ks ds:List D}{k v:D}{al':cx}(h:sI ks ds k v=some al'):∃al q,ks=encK al/\ds=al.map (·.2)/\k=.tup (q.map bg)/\small al.length=true/\al'=gG al q v:=by
 unfold sI at h;cases e1:iM ks ds with
 |none=>rw[e1]at h;cases h
 |some al=>
  rw[e1]at h;cases e2:fK k with
  |none=>rw[e2]at h;cases h
  |some q=>
   rw[e2]at h;obtain⟨h3,h4⟩:=bD (show(if small al.length then some (gG al q v)else none)=some al' from h);obtain⟨h1,h2⟩:=gh e1;exact⟨al,q,h1,h2,jJ e2,h3,h4.symm⟩
theorem vi{kvs:List (List Key×V)}{al:cx}(e:kvs.map (·.1)=al.map (·.1))(k:cX)(w:V)(d:D):(putK kvs k w).map (·.1)=(gG al k d).map (·.1):=by
 have e2:(kvs.any λp=>decide (p.1=k))=(al.any λp=>decide (p.1=k)):=by
  have:=congrArg (λl=>l.any λq=>decide (q=k)) e
  simpa [RO,Function.comp_def]using this
 unfold putK gG;rw[e2];split
 ·have e3:∀(l:List (List Key×V)),(l.map λkv=>if kv.1=k then(kv.1,w)else kv).map (·.1)=l.map (·.1):=λl=>by
   rw[RN];refine QU λp _=>?_;show(if p.1=k then(p.1,w)else p).1=p.1;split<;>rfl
  have e4:∀(l:cx),(l.map λkv=>if kv.1=k then(kv.1,d)else kv).map (·.1)=l.map (·.1):=λl=>by
   rw[RN];refine QU λp _=>?_;show(if p.1=k then(p.1,d)else p).1=p.1;split<;>rfl
  rw[e3,e4,e]
 ·rw[QV,QV,e];rfl
theorem uR{K:SH}{H:Hp}{k:cX}{w:V}{d:D}(hw:cu K H d w):∀{kvs:List (List Key×V)}{al:cx},kvs.map (·.1)=al.map (·.1)->aK K H (al.map (·.2)) (kvs.map (·.2))->
  aK K H ((al.map λp=>if p.1=k then(p.1,d)else p).map (·.2)) ((kvs.map λp=>if p.1=k then(p.1,w)else p).map (·.2))
 |[],[],_,h=>h
 |p::r,q::r',e,h=>by
  rw[P6,P6]at e;injection e with e1 e2;rw[P6,P6,aX]at h;obtain⟨v,ws,h0,h1,h2⟩:=h;injection h0 with h0 h0';subst h0 h0';have ih:=uR (k:=k) hw e2 h2;rw[P6,P6,P6,P6,aX];refine⟨_,_,rfl,?_,ih⟩;rw[e1];split
  ·exact hw
  ·exact h1
 |[],_::_,e,_=>by cases e
 |_::_,[],e,_=>by cases e
theorem zj{K:SH}{H:Hp}{k:cX}{w:V}{d:D}(hw:cu K H d w){kvs:List (List Key×V)}{al:cx}(e:kvs.map (·.1)=al.map (·.1))(h:aK K H (al.map (·.2)) (kvs.map (·.2))):
  aK K H ((gG al k d).map (·.2)) ((putK kvs k w).map (·.2)):=by
 have e2:(kvs.any λp=>decide (p.1=k))=(al.any λp=>decide (p.1=k)):=by
  have:=congrArg (λl=>l.any λq=>decide (q=k)) e
  simpa [RO,Function.comp_def]using this
 unfold putK gG;rw[e2];split
 ·exact uR hw e h
 ·rw[QV,QV];exact h.append (aX.mpr ⟨w,[],rfl,hw,cn.mpr rfl⟩)
theorem tX{kvs:List (List Key×V)}{al:cx}(e:kvs.map (·.1)=al.map (·.1)):encK al=kvs.map λp=>D.tup (p.1.map bg):=by
 have:=congrArg (List.map λk:cX=>D.tup (k.map bg)) e
 rw[RN,RN]at this;exact this.symm
theorem qG{H:Hp}{a:T5}{o1 o2:HO}:upd (upd H a o1) a o2=upd H a o2:=by
 funext b;by_cases e:b=a
 ·subst e;rw[ay,ay]
 ·rw[ao e,ao e,ao e]
noncomputable def IB(td ty tv:TE):TS:=λD σ H=>tv σ H λv H1=>td σ H1 λx H2=>ty σ H2 λy H3=>∃a k b kvs,x=.ref a/\y=.ref b/\H3 b=some (.tup (k.map kV))/\(H3 a=some (.dT kvs)\/(H3 a=some (.dK [])/\kvs=[]))/\kvs.length<Ud/\D.nx σ (upd H3 a (.dT (putK kvs k v)))
section
variable{X:Cx}{o idx value:T6}{pos pos':Pos}{td ty tv:TE}
theorem B9(hu:X.A.units+1<UL)(ho:PE X o td)(hi:PE X idx ty)(hv:PE X value tv)(hs:swapsWith value (some (.Subscript o idx pos')) pos.line X.env=pure false):PS X (.Assign [.Subscript o idx pos'] value pos) (IB td ty tv):=by
 intro pins s σ H D I h;refine wpAny_Assign_Subscript (cN (hv pins s σ H _ I h) λr s1 ⟨v,H1,I1,rv,q1⟩=>cN (ho pins s1 σ H1 _ I1 q1) λu s2 ⟨x,H2,I2,rx,q2⟩=>cN (hi pins s2 σ H2 _ I2 q2) λiv s3 h3=>?_) hs;obtain⟨y,H3,I3,ry,a,k,b,kvs,ex,ey,hb,ha,hl,q3⟩:=h3;subst ex ey;obtain rfl:u=Value.ref a:=rx;rcases ha with ha|⟨ha,rfl⟩
 ·exact kB hu I3 (JN.t ha hb hl) ry rv λs4 I4=>⟨σ,_,I4,q3⟩
 ·have ne:b≠a:=λz=>by rw[z,ha]at hb;cases hb
  refine kB hu (Bc I3 ha) (JN.t ay (by rw[ao ne];exact hb) hl) ry rv λs4 I4=>⟨σ,_,I4,?_⟩
  rw[qG];exact q3
end
end TG
namespace TG
open PySem PySem.Spec L2
variable[aB]
end TG
namespace TG
open PySem PySem.Spec PySem.W PySem.Calls PyProof.Rows Builtin Builtin.ObjectAttr Builtin.Getset_descriptor
variable[aB]
end TG
namespace TG
open PySem PySem.Spec L2
variable[aB]
open PyProof.Rows (AllBare OwnCls)
end TG
namespace TG
open PySem PySem.Spec L2
variable[aB]
end TG
namespace TG
open PySem PySem.Spec L2
variable[aB]
noncomputable def tU(val:Nat->Int):Nat->Int
 |0=>0
 |1=>val 0
 |n+2=>if val (n+1)>tU val (n+1)then val (n+1)else tU val (n+1)
noncomputable def jY:List D->Option (List Int)
 |[]=>some []
 |.int i::r=>(jY r).map (i::·)
 |_=>none
theorem sf:∀{xs:List D}{ns:List Int},jY xs=some ns->xs=ns.map .int
 |[],_,h=>by cases h;rfl
 |d::r,ns,h=>by
  cases d with
  |int i=>
   cases e:jY r with
   |none=>rw[show jY (.int i::r)=(jY r).map (i::·)from rfl,e]at h;cases h
   |some ms=>rw[show jY (.int i::r)=(jY r).map (i::·)from rfl,e]at h;cases h;rw[sf e];rfl
  |_=>cases h
theorem vF:∀ns:List Int,jY (ns.map .int)=some ns
 |[]=>rfl
 |n::ns=>by show(jY (ns.map .int)).map (n::·)=_;rw[vF ns];rfl
noncomputable def oO(i:Int)(d:D):bG:=match d with
 |.lst xs=>(jY xs).map λns=>.int (if ns.length=0 then i else tU (λk=>ns.getD k 0) ns.length)
 |_=>none
section
variable{prog:Ua}{w:T9}{A:Uj}{R:UE->cP}{I:T5}{fp wr:az}{n:Nat}{P:Nat->T2->Prop}{St:Nat->Uc->Prop}
theorem zU(W:Walks prog w A.in1 I fp wr n P St)(val:Nat->Int)(hv:∀i v,P i v->∃t,v=.int (val i) t)(dv:T2)(Z:T5)(hZ:Z∉fp):
  ∀(k j:Nat)(s:T8)(cs:dX)(c:Nat),n-j=k->j<=n->St j s.heap->(cs=#[]/\j=0\/0<j/\∃t,cs=#[.int (tU val j) t,.int (tU val j) t])->
   s.heap.get? Z=some {cls:=.type "list",dict:=none,data:=.seq cs c,slots:=#[]}->
   (∀v h' tk,(n=0/\v=dv\/0<n/\∃t,v=.int (tU val n) t)->(∀b o,b∉wr->b≠Z->s.heap.get? b=some o->h'.get? b=some o)->R (.ok (.ret v)) {s with heap:=h',toks:=tk})->
   UG (model prog w) A (.builtin "max.loop" ⟨[.ref I,.none,.ref Z],[(Str.ofString "default",dv)]⟩) R s:=by
 have zw:Z∉wr:=λh=>hZ (W.sub _ h);have nm:(toString "max"++toString ".loop":String)="max.loop":=by
  decide
 intro k
 induction k with
 |zero=>
  intro j s cs c hk hj hst hcs hl hR;have en:j=n:=by omega
  subst en;refine Vz F.entry_max_loop ?_;rw[Around.under_plainId F.plain_max_loop _];refine Uu (m:=seqItems? (.ref Z)) (Vc hl rfl ?_);refine Uu (m:=tryCatch (pyNext (.ref I)) _)
   (VA (W.done s _ _ hst λh' tk hk'=>?_))
  have hl':=hk' Z _ zw hl;rcases hcs with⟨rfl,rfl⟩|⟨hp,t,rfl⟩
  ·refine Uu (U9 ?_);exact Ut (hR dv h' tk (.inl ⟨rfl,rfl⟩) λb o hb _ e=>hk' b o hb e)
  ·refine Uu (m:=updateSeq Z λ_=>#[]) (VB hl' rfl
    (Uu (Vm (Ut (hR _ _ tk (.inr ⟨hp,t,rfl⟩) λb o hb hz e=>?_)))))
   exact(Tr _ _ hz.symm).trans (hk' b o hb e)
 |succ k ih=>
  intro j s cs c hk hj hst hcs hl hR;have hlt:j<n:=by omega
  refine Vz F.entry_max_loop ?_;rw[Around.under_plainId F.plain_max_loop _];refine Uu (m:=seqItems? (.ref Z)) (Vc hl rfl ?_);refine Uu (m:=tryCatch (pyNext (.ref I)) _)
   (VA (W.item j s _ _ hlt hst λv h' tk hP hst' hk'=>?_))
  have hl':=hk' Z _ zw hl;obtain⟨tv,rfl⟩:=hv j v hP;have next:∀(h2:Uc)(cs2:dX)(c2:Nat),(∀b o,b≠Z->h'.get? b=some o->h2.get? b=some o)->h2.get? Z=some {cls:=.type "list",dict:=none,data:=.seq cs2 c2,slots:=#[]}->(∃t,cs2=#[.int (tU val (j+1)) t,.int (tU val (j+1)) t])->
    UG (model prog w) A (.builtin "max.loop" ⟨[.ref I,.none,.ref Z],[(Str.ofString "default",dv)]⟩) R {s with heap:=h2,toks:=tk}:=λh2 cs2 c2 k2 l2 hc2=>by
   refine ih (j+1) _ cs2 c2 ‹0› hlt (W.frame _ _ _ hst' λb hb o e=>k2 b o (λz=>hZ (z ▸ hb)) e) (.inr ⟨by omega,hc2⟩) l2 λv' h'' tk'' hv' hk''=>?_;exact hR v' h'' tk'' hv' λb o hb hz e=>hk'' b o hb hz (k2 b o hz (hk' b o hb e))
  rcases hcs with⟨rfl,rfl⟩|⟨hp,t,rfl⟩
  ·refine Uu (Ut ?_);refine Uu (m:=updateSeq Z λ_=>#[.int (val 0) tv,.int (val 0) tv]) (VB hl' rfl ?_);rw[nm];exact Ut ⟨VC F.plain_max_loop _,next _ _ _ (λb o hz e=>(Tr _ _ hz.symm).trans e) (Ts _ hl' rfl) ⟨tv,rfl⟩⟩
  ·obtain⟨m,rfl⟩:∃m,j=m+1:=⟨j-1,by omega⟩
   refine Uu (Ut ?_);refine Uu (m:=tryCatch _ _) (VA (U0
    (Uu (CmpOf.ints_gt (P:=λi v=>∃t,v=.int (if i=0 then val (m+1)else tU val (m+1)) t) (λi=>if i=0 then val (m+1)else tU val (m+1)) (λi v h=>h) 0 1 _ _ _ _ _ ⟨tv,rfl⟩ ⟨t,rfl⟩ ?_))))
   refine Uu (U0 (Ur ?_));refine Uu (Vm
    (Ut ?_))
   split
   ·rename_i hz;have hb:val (m+1)>tU val (m+1):=of_decide_eq_true (show decide (val (m+1)>tU val (m+1))=true from hz);refine Uu (m:=updateSeq Z λ_=>#[.int (val (m+1)) tv,.int (val (m+1)) tv])
     (VB hl' rfl (Uu (Vm ?_)))
    rw[nm];exact Ut ⟨VC F.plain_max_loop _,next _ _ _ (λb o hz e=>(Tr _ _ hz.symm).trans e) (Ts _ hl' rfl) ⟨tv,by rw[tU,if_pos hb]⟩⟩
   ·rename_i hz;have hb:¬val (m+1)>tU val (m+1):=λz=>hz (show decide (val (m+1)>tU val (m+1))=true from decide_eq_true z);refine Uu (Vm ?_);rw[nm];exact Ut ⟨VC F.plain_max_loop _,next _ _ _ (λb o _ e=>e) hl' ⟨t,by rw[tU,if_neg hb]⟩⟩
theorem zu(a v:T2):argsOk "max" ⟨[a],[(Str.ofString "default",v)]⟩:=by
 unfold argsOk
 kernel_rfl
theorem Al:Ui "max"=some (.builtin "max"):=by first|rfl|decide +kernel
theorem AU{E:bh}{s:T8}{l:T5}{its:aU}{ns:List Int}{dv:T2}{Q:bh}(hh:A.handled=none)(hl:s.heap.IsList l its.toArray)(hi:∀(i:Nat)(v:T2),its[i]?=some v->∃t,v=.int (ns.getD i 0) t)(hn:its.length=ns.length)
  (hQ:∀v h' tk,(ns.length=0/\v=dv\/0<ns.length/\∃t,v=.int (tU (λk=>ns.getD k 0) ns.length) t)->(∀b o,s.heap.get? b=some o->h'.get? b=some o)->Q v {s with heap:=h',toks:=tk}):
  Ul (model prog w) A (call (.builtin "max") [.ref l] [(Str.ofString "default",dv)]) Q E s:=by
 have nm:(toString "max"++toString ".loop":String)="max.loop":=by
  decide
 have hlt:l<s.heap.objs.size:=by obtain⟨_,e,_⟩:=hl;exact Tj e
 refine UO (codeAny_call_builtin F.plain_max F.entry_max ?_);have go:Ul (model prog w) A.in1 (Builtin.«max» ⟨[.ref l],[(Str.ofString "default",dv)]⟩) (λfin s'=>match fin with
   |.done f=>(match(Except.ok f:UE)with|.ok (.ret v)=>Q v s'|.ok _=>False|.error e=>E e s')
   |.again c'=>c'.quiet=true/\UG (model prog w) A c' (λr s'=>match r with|.ok (.ret v)=>Q v s'|.ok _=>False|.error e=>E e s') s') E s:=by
  show Ul _ A.in1 (Builtin.Builtins.bindParams "max" ["key","default"] 0 ⟨[],[(Str.ofString "default",dv)]⟩ >>= _) _ _ s;refine Uu (Vf (show Builtin.Builtins.bindParams "max" ["key","default"] 0 ⟨[],[(Str.ofString "default",dv)]⟩=pure [none,some dv]from rfl) ?_);refine Uu (Ut ?_);refine Uu (Uv hl ?_);refine Uu (U4 ?_);rw[nm];have hne:l≠s.heap.objs.size:=PC hlt;refine Ut ⟨VC F.plain_max_loop _,zU (Walks.list (A:=A.in1) hh s.heap.objs.size l hne its.toArray) (λk=>ns.getD k 0) (λi v h=>hi i v (by simpa using h)) dv _ (λhm=>?_) _ 0 _ #[] _ rfl (P9 _) ⟨⟨_,To _ (Tp _ rfl),rfl,rfl⟩,(hl.push _).push _⟩ (.inl ⟨rfl,rfl⟩) (Tp _ rfl) λv h' tk hv hk=>?_⟩
  ·simp only[Tq,Ri,RP,or_false]at hm;rcases hm with hm|hm
   ·exact Nat.succ_ne_self _ hm
   ·rw[<-hm]at hlt;exact PB _ (Nat.lt_of_succ_lt hlt)
  ·have e:its.toArray.size=ns.length:=(by rw[P0,hn]);rw[e]at hv;refine hQ v h' tk hv λb o q=>hk b o (λz=>?_) (λz=>?_) (To _ (To _ q))
   ·have h1:=Tj q;simp only[Ri,RP,or_false]at z;rw[z]at h1;exact PB _ h1
   ·have h1:=Tj q;rw[z,Tq]at h1;exact PB _ (Nat.lt_of_succ_lt h1)
 simp only[checkBuiltinCall,F.kind_max];cases hsig:Manifest.signature? "max"with
 |none=>exact Ut go
 |some sig=>
  have ha:Bind.checkArgs "max" sig ⟨[.ref l],[(Str.ofString "default",dv)]⟩=pure ():=by
   have:=zu (.ref l) dv
   unfold argsOk at this;rw[hsig]at this;exact this
  simp only[ha];exact Ut go
end
section
variable{X:Cx}{p pos kp:Pos}{e:T6}
theorem yH{K:SH}{H:Hp}:∀{ns:List Int}{ys:aJ}{its:aU},aK K H (ns.map .int) ys->Vals ys its->∀(k:Nat)(v:T2),its[k]?=some v->∃t,v=.int (ns.getD k 0) t
 |[],ys,its,h,r,k,v,e=>by
  rw[Qq,cn]at h;subst h;cases r;simp at e
 |n::ns,ys,its,h,r,k,v,e=>by
  rw[P6,aX]at h;obtain⟨y,ys',rfl,h1,h2⟩:=h;cases r with
  |cons r1 r2=>
   cases k with
   |zero=>
    rw[eF]at h1;subst h1;obtain⟨t,rfl⟩:=r1;simp at e;exact⟨t,e.symm⟩
   |succ k=>
    simp only[Rm]at e;exact yH h2 r2 k v e
end
end TG
namespace TG
open PySem PySem.Spec L2
variable[aB]
end TG
namespace TG
open PySem PySem.Spec L2
noncomputable def nQ(P:T5)(pos:Pos)(q:Str):(T5->Prop)->Uc->Prop:=λS h=>h.get? P=some (Te #[])\/∃c,S c/\h.get? P=some (Te #[rawInt pos.line,rawInt pos.col,.ref c])/\h.CodeRec (.ref c) q
theorem nQ.stay{P:T5}{pos:Pos}{q:Str}{S1 S2:T5->Prop}{h1 h2:Uc}(x:nQ P pos q S1 h1)(s:∀b,S1 b->S2 b)(k:∀b o,(b=P\/S1 b)->h1.get? b=some o->h2.get? b=some o):nQ P pos q S2 h2:=by
 rcases x with e|⟨c,hc,e,c',o,vs,t,ec,e1,r⟩
 ·exact .inl (k _ _ (.inl rfl) e)
 ·cases ec;exact .inr ⟨c,s c hc,k _ _ (.inl rfl) e,c,o,vs,t,rfl,k _ _ (.inr hc) e1,r⟩
theorem nQ.ok{Pg:Ua}{w:T9}{H:Hp}{h:Uc}{P:T5}{pos:Pos}{q:Str}(x:nQ P pos q (λb=>H b=some (.own P)) h):b9 Pg w H h P (.ext (nQ P pos q)):=
 ⟨x,by rcases x with e|⟨_,_,e,_⟩<;>exact⟨_,e⟩,λ_ _ _ _ x s k=>x.stay s k⟩
noncomputable abbrev ux(P:T5)(pos:Pos)(q:Str):aB:=⟨λH=>H P=some (.ext (nQ P pos q)),λh e=>e _ _ h,λ{H p o o'} h hp m=>by
 rw[ao]
 ·exact h
 ·rintro rfl;rw[h]at hp;cases hp;exact m⟩
open PySem PySem.Spec PyProof.Rows PySem.W L2
variable[aB]
noncomputable def qY(key:List D)(h:Uc)(k:T2):Prop:=∃b o xs n,k=.ref b/\h.get? b=some o/\o.cls=.type "tuple"/\o.data=.seq xs n/\fE xs.toList key
theorem qY.keep{key:List D}{h h':Uc}{k:T2}(x:qY key h k)(kp:∀b o,h.get? b=some o->h'.get? b=some o):qY key h' k:=by
 obtain⟨b,o,xs,n,e,ho,r⟩:=x;exact⟨b,o,xs,n,e,kp _ _ ho,r⟩
theorem qY.stay{key:List D}{h h':Uc}{k:T2}{c:T5}{xs:dX}{n:Nat}(x:qY key h k)(hc:h.get? c=some (seqObj "list" xs n))(kp:∀b o,b≠c->h.get? b=some o->h'.get? b=some o):qY key h' k:=by
 obtain⟨b,o,ys,m,e,ho,hk,r⟩:=x;refine⟨b,o,ys,m,e,kp _ _ (λz=>?_) ho,hk,r⟩;subst z;rw[hc]at ho;cases ho;revert hk;show¬(Value.type "list"=Value.type "tuple");simp
section
variable{prog:Ua}{w:T9}{A:Uj}{E:bh}{s:T8}
theorem AK{ks:aU}{keys:bB}{σ:bQ}{b:Bool}{Q:Vr->cP}(hl:ks.length=keys.length)(hsh:∀k∈keys,Sh (b::σ) k)(h1:1<=ks.length)
  (hk:∀i,i<ks.length->qY (keys.getD i []) s.heap (ks.getD i Value.none)) (h:Q (tuples' true) s):Ul (model prog w) A (keyKind' ks.toArray) Q E s:=by
 obtain⟨fs,t1,t2,t3⟩:=lQ (h:=s.heap) (PT:=λf=>typeOf f=pure (.type (if b then"int"else"str"))) (its:=ks) λv hv=>by
  obtain⟨i,hi,rfl⟩:=QS hv;obtain⟨a,o,xs,n,e1,ho,hc,hd,ff⟩:=hk i hi;have hi':i<keys.length:=by omega
  have gk:keys.getD i []=keys[i]:=by simp[hi']
  rw[gk]at ff;obtain⟨f,ef,tf⟩:=ff.first (hsh _ (RK hi'));have gv:ks.getD i Value.none=ks[i]:=by simp[hi]
  rw[gv]at e1;exact⟨a,o,xs,n,f,e1,ho,hc,hd,by simpa using ef,tf⟩
 refine kat_kind (T:=.type (if b then"int"else"str")) t1 ‹0› (λf hf=>Looks.of_pure (t3 f hf)) (by cases b<;>rfl) ?_
 have:(Value.type (if b then"int"else"str") !=Value.type "tuple")=true:=by cases b<;>rfl
 rw[this];exact h
theorem yr{ks:aU}{keys:bB}{σ:bQ}{b:Bool}(hl:ks.length=keys.length)(hsh:∀k∈keys,Sh (b::σ) k)
  (hk:∀i,i<ks.length->qY (keys.getD i []) s.heap (ks.getD i Value.none)):km (Vs prog w A (tuples' true) ks) (rank keys) ks.length s:=by
 intro i j C hi hj hC;obtain⟨a,o,xs,n,e1,ho,hc,hd,ff⟩:=hk i hi;obtain⟨a2,o2,xs2,n2,e2,ho2,hc2,hd2,ff2⟩:=hk j hj;unfold Vs;rw[e1,e2];have hi':i<keys.length:=by omega
 have hj':j<keys.length:=by omega
 have gi:keys.getD i []=keys[i]:=by simp[hi']
 have gj:keys.getD j []=keys[j]:=by simp[hj']
 have sh1:=hsh _ (RK hi');have sh2:=hsh _ (RK hj');have rl:=pq (ks:=keys) hsh hi' hj';rw[rl]at hC;rw[gi]at ff;rw[gj]at ff2;rw[gi,gj]at hC;refine kat_lt ho hd ho2 hd2 (ow ?_ sh1 sh2 ff ff2 hC);have z1:xs.size=keys[i].length:=by have:=ff.length;simpa using this
 have z2:xs2.size=keys[j].length:=by have:=ff2.length;simpa using this
 have z3:keys[i].length=keys[j].length:=by rw[Sh.length sh1,Sh.length sh2]
 exact decide_eq_false ‹0›
theorem BO{f:T2}{a:T5}{vs:aU}{n:Nat}{keys:bB}{σ:bQ}{b:Bool}{P:PySem.Fin->cP}
  (ho:s.heap.get? a=some (seqObj "list" vs.toArray n)) (h64:vs.length<64) (hl:keys.length=vs.length) (hsh:∀k∈keys,Sh (b::σ) k)
  (hc:∀ (i:Nat) (v:T2) (h':Uc) (tk:Nat) (Q':bh),vs[i]?=some v->(∀ c o,c≠a->s.heap.get? c=some o->h'.get? c=some o) ->
   (∀k h'' tk',(∀c o,h'.get? c=some o->h''.get? c=some o)->qY (keys.getD i []) h'' k->Q' k {s with heap:=h'',toks:=tk'})->Ul (model prog w) A (call f [v]) Q' (λ_ _=>False) {s with heap:=h',toks:=tk})
  (h:∀ (p:Array Nat) (h':Uc) (e tk:Nat),PM vs.length p->Up (rank keys) p vs.length->(∀ c o,c≠a->s.heap.get? c=some o->h'.get? c=some o)->h'.get? a=some (seqObj "list" (List.toArray (p.toList.map fun i=>vs.getD i Value.none)) e) ->
   P (.done (.ret .none)) {s with heap:=h',toks:=tk}):Ul (model prog w) A (ksk_tree a f false) P E s:=by
 have ha:a<s.heap.objs.size:=Tj ho;obtain⟨e1,ho1⟩:∃e1,(s.heap.update a (Obj.mapSeq λ_=>(#[]:dX))).get? a=some (seqObj "list" #[] e1):=⟨_,Vv ho (λ_=>#[])⟩
 unfold ksk_tree;refine Uu (listItems_at ho rfl ?_);refine Uu (Vu ho rfl ?_ (by rw[P0,UD];omega) (P9 _));refine Uu (Vw ho1 rfl ?_);refine Uu (Vn ?_ (by show vs.length<=_;rw[UD];omega));refine Uu (Vx ?_ (P9 _));refine U0 ?_;have hkS:((s.heap.update a (Obj.mapSeq λ_=>(#[]:dX))).push (seqObj "tuple" vs.toArray 0)).objs.size=s.heap.objs.size+1:=by rw[size_push',Tv]
 show Ul (model prog w) A (ksk_rest a f false vs.toArray e1 (.ref ((s.heap.update a (Obj.mapSeq λ_=>(#[]:dX))).push (seqObj "tuple" vs.toArray 0)).objs.size)) P E {s with heap:=((s.heap.update a (Obj.mapSeq λ_=>(#[]:dX))).push (seqObj "tuple" vs.toArray 0)).push (seqObj "list" #[] 0)};rw[hkS];have hS0:(((s.heap.update a (Obj.mapSeq λ_=>(#[]:dX))).push (seqObj "tuple" vs.toArray 0)).push (seqObj "list" #[] 0)).get? (s.heap.objs.size+1)=some (seqObj "list" #[] 0):=by rw[<-hkS];exact Tp _ rfl
 have hA0:(((s.heap.update a (Obj.mapSeq λ_=>(#[]:dX))).push (seqObj "tuple" vs.toArray 0)).push (seqObj "list" #[] 0)).get? a=some (seqObj "list" #[] e1):=To _ (To _ ho1);have hK0:∀b o,b≠a->s.heap.get? b=some o->(((s.heap.update a (Obj.mapSeq λ_=>(#[]:dX))).push (seqObj "tuple" vs.toArray 0)).push (seqObj "list" #[] 0)).get? b=some o:=λb o hb e=>
  To _ (To _ (by rw[Tx _ _ _ _ hb];exact e))
 have hne:a≠s.heap.objs.size+1:=PC (QC ha);have hold:∀c o,s.heap.get? c=some o->c≠s.heap.objs.size+1:=λc o e=>PC (QC (Tj e));generalize (((s.heap.update a (Obj.mapSeq λ_=>(#[]:dX))).push (seqObj "tuple" vs.toArray 0)).push (seqObj "list" #[] 0))=h0 at hS0 hA0 hK0;generalize s.heap.objs.size+1=kS at hS0 hne hold;unfold ksk_rest;refine Uu (U9 ?_)
 first
  |rw[List.forIn_toArray]
  |(rw[<-Array.forIn_toList];simp only[RT])
  |rw[<-Array.forIn_toList]
 refine Uu (ksk_fold (λi s'=>∃(ks:aU)(e:Nat)(h':Uc)(tk:Nat),s'={s with heap:=h',toks:=tk}/\ks.length=i/\i<=vs.length/\h'.get? kS=some (seqObj "list" (List.toArray ks) e)/\h'.get? a=some (seqObj "list" #[] e1)/\
  (∀c o,c≠a->s.heap.get? c=some o->h'.get? c=some o)/\∀j,j<i->qY (keys.getD j []) h' (ks.getD j Value.none)) vs 0 _ ⟨[],0,h0,s.toks,rfl,rfl,P9 _,hS0,hA0,hK0,λj hj=>absurd hj (Nat.not_lt_zero _)⟩ ?_ ?_)
 ·rintro j x s' hx ⟨ks,e,h',tk,rfl,hlen,hle,hS,hA,hK,hT⟩;rw[Rq]at hlen hle hT;have hj:j<vs.length:=by
   rcases RU j vs.length with z|z
   ·exact z
   ·rw[RV z]at hx;cases hx
  refine Uu (Vo (Uo (hc j x h' tk (λk s''=>∃h'' tk',s''={s with heap:=h'',toks:=tk'}/\(∀c o,h'.get? c=some o->h''.get? c=some o)/\qY (keys.getD j []) h'' k) hx hK λk h'' tk' kp tK=>⟨h'',tk',rfl,kp,tK⟩) (λk s'' hk=>?_) λ_ _ hF=>hF.elim));obtain⟨h'',tk',rfl,kp,tK⟩:=hk;have nk:=kp _ _ hS;have s1:∀c o,c≠kS->h''.get? c=some o->(h''.update kS (Obj.mapSeq (·.push k))).get? c=some o:=λc o hc' e=>by rw[Tx _ _ _ _ hc'];exact e
  have ea:(List.toArray ks).push k=List.toArray (ks++[k]):=by simp
  obtain⟨c2,hc2⟩:∃c2,(h''.update kS (Obj.mapSeq (·.push k))).get? kS=some (seqObj "list" (List.toArray (ks++[k])) c2):=⟨_,by rw[<-ea];exact Vv nk (·.push k)⟩
  try dsimp only
  refine Uu (Vu nk rfl ?_ (by rw[P0,UD];omega) (PD (P8 (Array.size_push ..)) (by rw[P0,UD];omega)));refine Ut ⟨rfl,ks++[k],c2,_,tk',rfl,by rw[Qj,Qo];omega,by omega,hc2,s1 _ _ hne (kp _ _ hA),λc o h1 h2=>s1 _ _ (hold c o h2) (kp _ _ (hK c o h1 h2)),λi hi=>?_⟩;refine qY.stay (c:=kS) ?_ nk s1;by_cases z:i=j
  ·subst z
   have:(ks++[k]).getD i Value.none=k:=(by simp[RM,<-hlen]);rw[this];exact tK
  ·have hi':i<ks.length:=by omega
   have:(ks++[k]).getD i Value.none=ks.getD i Value.none:=(by simp[RM,Qg hi']);rw[this];exact(hT i ‹0›).keep kp
 ·rintro s' ⟨ks,e,h',tk,rfl,hlen,hle,hS,hA,hK,hT⟩;rw[Rq]at hlen hT
  try dsimp only
  refine Uu (listItems_at hS rfl ?_);have tail:∀(p:Array Nat)(st:SortSt),(arrOf st).map (·.2)=List.toArray (p.toList.map λi=>vs.getD i Value.none)->failedOf st=none->PM vs.length p->Up (rank keys) p vs.length->Ul (model prog w) A (ksk_tail a false e1 (.ref kS) st) P E {s with heap:=h',toks:=tk}:=by
   intro p st hout hf hp hu;obtain⟨ck,hck⟩:∃ck,(h'.update kS (Obj.mapSeq λ_=>(#[]:dX))).get? kS=some (seqObj "list" #[] ck):=⟨_,Vv hS λ_=>#[]⟩
   have hA2:(h'.update kS (Obj.mapSeq λ_=>(#[]:dX))).get? a=some (seqObj "list" #[] e1):=(by rw[Tx _ _ _ _ hne];exact hA);obtain⟨c2,hc2⟩:∃c2,((h'.update kS (Obj.mapSeq λ_=>(#[]:dX))).update a (Obj.mapSeq λ_=>List.toArray (p.toList.map λi=>vs.getD i Value.none))).get? a=some (seqObj "list" (List.toArray (p.toList.map λi=>vs.getD i Value.none)) c2):=⟨_,Vv hA2 λ_=>List.toArray (p.toList.map λi=>vs.getD i Value.none)⟩
   unfold ksk_tail
   try dsimp only
   rw[hout];refine Uu (Vu hS rfl ?_ (by rw[P0,UD];omega) (P9 _));refine Uu (Vm ?_);refine Uu (Vw hA2 rfl ?_);simp only[QB,if_false];refine Uu (Vu hA2 rfl ?_ (P9 _) (by rw[P0,P7,Array.length_toList,hp.size,UD];omega));rw[hf];simp only[bne_self_eq_false,QB,if_false];exact Ut (h p _ c2 tk hp hu (λc o h1 h2=>by rw[Tx _ _ _ _ h1,Tx _ _ _ _ (hold c o h2)];exact hK c o h1 h2) hc2)
  unfold ksk_end
  try dsimp only
  simp only[QB,if_false];have hl2:ks.length=vs.length:=hlen;by_cases h2:vs.toArray.size<2
  ·rw[if_pos h2,if_pos h2];refine Uu (Ut ?_);rw[StateT.run_pure];refine Uu (Ut ?_);dsimp only;refine tail (List.toArray (List.range vs.length)) _ ?_ rfl (Array.Perm.refl _) λi j hij hj=>?_
   ·refine kat_snds hl2 ?_;show(List.toArray ks).zip vs.toArray=_;have e:=kas_range ((List.toArray ks).zip vs.toArray);rw[show((List.toArray ks).zip vs.toArray).size=vs.length by simp[hl2]]at e;exact e.symm
   ·have:vs.length<2:=by simpa using h2
    have:i=j:=(by omega);subst this;exact PX _
  ·have h2':2<=vs.length:=by
    have:¬vs.length<2:=(by simpa using h2);omega
   rw[if_neg h2,if_neg h2];refine Uu (AK (s:={s with heap:=h',toks:=tk}) ‹0› hsh ‹0› (λi hi=>hT i ‹0›) ?_);refine Uu (Uo (kat_run (Q:=λst' s'=>∃p:Array Nat,arrOf st'=p.map (kas_item ((List.toArray ks).zip vs.toArray))/\failedOf st'=none/\PM vs.length p/\Up (rank keys) p vs.length/\s'={s with heap:=h',toks:=tk})
    (G:=λp s'=>PM vs.length p/\Up (rank keys) p vs.length/\s'={s with heap:=h',toks:=tk})
    hl2 h2' h64 (λp' st' s' a1 a2 a3 a4=>⟨p',a2,a3,a4.1,a4.2.1,a4.2.2⟩) (by
     have:=yr (prog:=prog) (w:=w) (A:=A) (s:={s with heap:=h',toks:=tk}) (ks:=ks) (keys:=keys) ‹0› hsh (λi hi=>hT i ‹0›)
     rw[hl2]at this;exact yG this ‹0› λp hp hu=>⟨hp,hu,rfl⟩)) ?_ λ_ _ e=>e)
   rintro⟨⟨⟩,st'⟩ s' ⟨p,har,hf,hp,hu,rfl⟩;dsimp only;exact tail p st' (kat_snds hl2 har) hf hp hu
theorem vS{src:T2}{f:T5}{vs:aU}{keys:bB}{σ:bQ}{b:Bool}{Q:bh}(h64:vs.length<64)(hl:keys.length=vs.length)(hsh:∀k∈keys,Sh (b::σ) k)
  (hcol:∀(Q':aU->cP),(∀h' tk,(∀b o,s.heap.get? b=some o->h'.get? b=some o)->Q' vs {s with heap:=h',toks:=tk})->Ul (model prog w) A.in1 (collect src) Q' E s)
  (hc:∀ (i:Nat) (v:T2) (h':Uc) (tk:Nat) (Q':bh),vs[i]?=some v->(∀ c o,s.heap.get? c=some o->h'.get? c=some o) ->
   (∀k h'' tk',(∀c o,h'.get? c=some o->h''.get? c=some o)->qY (keys.getD i []) h'' k->Q' k {s with heap:=h'',toks:=tk'})->Ul (model prog w) A.in1.in1 (call (.ref f) [v]) Q' (λ_ _=>False) {s with heap:=h',toks:=tk})
  (h:∀(p:Array Nat)(h1 h':Uc)(l:T5)(e tk:Nat),PM vs.length p->Up (rank keys) p vs.length->(∀b o,s.heap.get? b=some o->h1.get? b=some o)->(∀b o,h1.get? b=some o->h'.get? b=some o)->h1.objs.size<=l->h'.get? l=some (seqObj "list" (List.toArray (p.toList.map λi=>vs.getD i Value.none)) e)->Q (.ref l) {s with heap:=h',toks:=tk}):
  Ul (model prog w) A (call (.builtin "sorted") [src] [(Str.ofString "key",.ref f)]) Q E s:=by
 refine PyProof.Rows.call_function_entry_kw kind_sorted plain_sorted entry_sorted (ksk_s1 _ _) ?_;unfold Builtin.«sorted»;refine Uu (m:=checkCount "sorted" 1 1 _) (Ut ?_);refine Uu (hcol _ λh1 tk k1=>?_);refine Uu (Vx ?_ (by rw[UD];omega));have hoL:(h1.push (seqObj "list" vs.toArray 0)).get? h1.objs.size=some (seqObj "list" vs.toArray 0):=Tp _ rfl;have k2:∀b o,s.heap.get? b=some o->(h1.push (seqObj "list" vs.toArray 0)).get? b=some o:=λb o e=>To _ (k1 b o e);have ne:∀b o,s.heap.get? b=some o->b≠h1.objs.size:=λb o e=>PC (Tj (k1 b o e));refine Uu (U0 (wpAny_call_entry_kw slot_list_sort ⟨_,hoL,rfl⟩ entry_list_sort ?body (ksk_l1 _ _)))
 case body=>
  show Ul (model prog w) A.in1.in1 (Builtin.«list.sort» ⟨[.ref h1.objs.size],[(Str.ofString "key",.ref f)]⟩) _ _ _;rw[ksk_t1];refine BO (s:={s with heap:=h1.push (seqObj "list" vs.toArray 0),toks:=tk}) hoL h64 hl hsh (λi v h' tk' Q' hv hk hq=>hc i v h' tk' Q' hv (λc o e=>hk c o (ne c o e) (k2 c o e)) hq) λp h' e tk' hp hu hk he=>⟨_,rfl,?_⟩
  refine Ut ⟨_,rfl,?_⟩;exact h p h1 h' h1.objs.size e tk' hp hu k1 (λb o q=>hk b o (PC (Tj q)) (To _ q)) (PX _) he
end
end TG
namespace TG
open PySem PySem.Spec PyProof.Rows PySem.W L2
variable[aB]
noncomputable abbrev cutE(row many:Str)(np mp p2 pos:Pos):T6:=.Subscript (.Name row np) (.Slice none (some (.Name many mp)) none p2) pos
section
variable{prog:Ua}{w:T9}{A:Uj}{E:bh}{s:T8}
theorem DZ{env:Env}{row many:Str}{np mp p2 pos:Pos}{r c:T5}{items:dX}{i:Int}{t:Tok}{m:cB}{Q:bh}
  (hk:env.scope.kind=.function) (hr:env.kindOf row=some .local) (hm:env.kindOf many=some .free) (hn:s.heap.Ns env.locals m) (hrow:m row=some (.ref r)) (hc:env.cells.lookup many=some c) (hcell:s.heap.IsCell c (some (.int i t)))
  (ht:Ue s.heap r items) (hz:items.size<=Ud) (d1:(row==("__debug__":Str))=false) (d2:(many==("__debug__":Str))=false) (d3:(many==("__classdict__":Str))=false)
  (h:∀b h',(∀c o,s.heap.get? c=some o->h'.get? c=some o)->Ue h' b (List.toArray (items.toList.take (HT.sIx items.size items.size (some i))))->Q (.ref b) {s with heap:=h'}):
  Ul (model prog w) A (eval (cutE row many np mp p2 pos) env) Q E s:=by
 refine U6 (Uq (wpAny_loadName_local hk hr hn hrow ?_) d1);refine wpAny_Slice ?_;rw[U5,evalPart_some];refine Ut (Uq (wpAny_loadName_free hk hm hc hcell ?_ d3) d2);refine Ut ?_;have kp:∀c o,s.heap.get? c=some o->(s.heap.push {cls:=.type "slice",data:=.fields #[.none,.int i t,.none]}).get? c=some o:=λc o q=>To _ q;have ht':Ue (s.heap.push {cls:=.type "slice",data:=.fields #[.none,.int i t,.none]}) r items:=by
  obtain⟨o,e,q⟩:=ht;exact⟨o,kp _ _ e,q⟩
 have hs:(s.heap.push {cls:=.type "slice",data:=.fields #[.none,.int i t,.none]}).IsSliceOf s.heap.objs.size .none (.int i t) .none:=Heap.IsSliceOf.new ..
 show Ul (model prog w) A (subscriptTail (.Name row np) (.Slice none (some (.Name many mp)) none p2) (.ref r) (.ref s.heap.objs.size)) Q E {s with heap:=s.heap.push {cls:=.type "slice",data:=.fields #[.none,.int i t,.none]}};refine tail_any (ops:=[.ref s.heap.objs.size,.ref r]) ht'.typeIs slot_tuple_getitem.lookup ?_ (by with_unfolding_all rfl);by_cases hw:HT.sIx items.size 0 none=0/\HT.sIx items.size items.size (some i)=items.size
 ·refine gP (s:={s with heap:=s.heap.push {cls:=.type "slice",data:=.fields #[.none,.int i t,.none]}}) ht' hs .none (.int i t) hw ?_;refine h r _ kp ?_;rw[hw.2]
  have:items.toList.take items.size=items.toList:=RW (by simp)
  rw[this]
  simpa using ht'
 ·refine HT.yP (s:={s with heap:=s.heap.push {cls:=.type "slice",data:=.fields #[.none,.int i t,.none]}}) ht' hs .none (.int i t) hw ?_ hz;refine h _ _ (λc o q=>To _ (kp c o q)) ?_;have e0:HT.sIx items.size 0 none=0:=rfl;rw[e0,QJ,QZ];exact⟨_,Tp _ rfl,rfl,_,rfl⟩
theorem Ee{f c' cc r:T5}{row many qual:Str}{params:UU}{scope:Uk}{np mp p2 pos:Pos}{pm ctv:T2}{items:dX}{i:Int}{t:Tok}{Q:bh}
  (hf:s.heap.get? f=some (VD "<lambda>" qual params (cutE row many np mp p2 pos) scope [(many,cc)] pm c' ctv)) (hcd:s.heap.CodeRec (.ref c') qual) (hroom:A.depth<UK) (hlim:s.heap.NoLimit)
  (hbind:∀v,bindArgs (kla_fn "<lambda>" qual params (cutE row many np mp p2 pos) scope [(many,cc)] pm (.ref c') ctv) ⟨[v],[]⟩=pure [(row,v)])
  (hco:scope.isCoroutine=false) (hgen:scope.isGenerator=false) (hk:scope.kind=.function) (hno:∀x∈scope.names,x.2≠.cell) (hr:scope.names.lookup row=some .local) (hm:scope.names.lookup many=some .free)
  (hcell:s.heap.IsCell cc (some (.int i t))) (ht:Ue s.heap r items) (hz:items.size<=Ud) (d1:(row==("__debug__":Str))=false) (d2:(many==("__debug__":Str))=false) (d3:(many==("__classdict__":Str))=false)
  (h:∀b h' tk,(∀c o,s.heap.get? c=some o->h'.get? c=some o)->Ue h' b (List.toArray (items.toList.take (HT.sIx items.size items.size (some i))))->Q (.ref b) {s with heap:=h',toks:=tk}):
  Ul (model prog w) A (call (.ref f) [.ref r]) Q E s:=by
 refine UO (kla_callFunE hroom hf rfl hco hgen rfl hcd ?_);rw[hbind];refine Ut (wpAny_newFunctionEnv hno (λx hx=>?_) (λh₁ hns hsb=>⟨hlim.fresh _ hsb,?_⟩) hk)
 ·rw[RX]at hx;subst hx;exact hr
 ·show UG _ _ (.expr (cutE row many np mp p2 pos) (envX qual scope s.heap.objs.size f (.ref c') [(many,cc)])) _ _;have hk₁:∀b o,s.heap.get? b=some o->h₁.get? b=some o:=λb o e=>hsb.extBut b o (PC (Tj e)) (To _ e);refine kla_codeExpr (DZ (m:=λx=>[(row,Value.ref r)].reverse.lookup x) (r:=r) (c:=cc) (t:=t) hk hr hm hns ?_ ?_ ?_ ?_ hz d1 d2 d3 λb h' kp tb=>h b h' _ (λc o e=>kp c o (hk₁ c o e)) tb)
  ·simp
  ·simp
  ·obtain⟨o,e,q⟩:=hcell;exact⟨o,hk₁ _ _ e,q⟩
  ·obtain⟨o,e,q⟩:=ht;exact⟨o,hk₁ _ _ e,q⟩
end
end TG
namespace TG
open PySem PySem.Spec PyProof.Rows PySem.W L2
variable[aB]
noncomputable def BG(mg:cB)(base:Uc)(c P:T5):Prop:=CodeHd base c P/\∃bm ob,mg "__builtins__"=some (.ref bm)/\bm≠Uh/\base.get? bm=some ob/\ob.cls=.type "module"/\ob.dict=some Uh/\ob.data=.plain
section
variable{fs ex:az}{Pg:Ua}{w:T9}{H:Hp}{h h':Uc}{P c':T5}{φ:(T5->Prop)->Uc->Prop}
theorem Iy(hP:H P=some (.ext φ))(k:∀b o,b≠P->h.get? b=some o->h'.get? b=some o)(hp:∃o,h'.get? P=some o)(hc:h.objs.size<=c')(hn:H c'=none):Un fs ex H (upd H c' (.own P)) h h' where
 keep:=λb u q n _ _=>k b u (λz=>by rw[z,hP]at n;cases n) q
 slot:=λb u q n _ _=>⟨u.slots,k b u (λz=>by rw[z,hP]at n;cases n) q⟩
 free:=λb u q n _=>by rw[ao (PC (Pz (Tj q) hc))];exact n
 there:=λb u q _=>by
  by_cases z:b=P
  ·rw[z];exact hp
  ·exact⟨u,k b u z q⟩
 tups:=λb xs q=>by rw[ao (aE q hn)];exact q
 frzs:=λb u xs q=>by rw[ao (aE q hn)];exact q
 tbls:=λb ps q=>⟨#[],by rw[ao (aE q hn),q];simp⟩
theorem Fl(x:mz Pg w H h)(hP:H P=some (.ext φ))(k:∀b o,b≠P->h.get? b=some o->h'.get? b=some o)(hc:h.objs.size<=c')(ho:∃o,h'.get? c'=some o)(new:b9 Pg w (upd H c' (.own P)) h' P (.ext φ)):mz Pg w (upd H c' (.own P)) h':=λb u e=>by
 have hn:=x.fresh hc;by_cases hb:b=c'
 ·subst hb;rw[ay]at e;cases e;exact ho
 ·rw[ao hb]at e;by_cases hb2:b=P
  ·subst hb2;rw[hP]at e;cases e;exact new
  ·refine(x b u e).stay (λc v hc' q=>k c v ?_ q) (λc q=>by rw[ao (aE q hn)];exact q) λc xs q=>by rw[ao (aE q hn)];exact q
   rcases hc' with rfl|hc'
   ·exact hb2
   ·rintro rfl;rw[hP]at hc';cases hc'
end
theorem BG.blt{mg:cB}{base h:Uc}{c P:T5}{m:cB}(B:BG mg base c P)(kp:∀b o,base.get? b=some o->h.get? b=some o)(hP:base.get? P=none)(hg:base.Ns Ug m):h.BuiltinsAt mg P:=by
 obtain⟨_,bm,ob,b1,b2,b3,b4,b5,b6⟩:=B;refine⟨bm,ob,b1,b2,λz=>?_,λz=>?_,kp _ _ b3,b4,b5,b6⟩
 ·subst z;obtain⟨o,es,ep,e,hd,_⟩:=hg;rw[e]at b3;cases b3;rw[hd]at b6;cases b6
 ·subst z;rw[hP]at b3;cases b3
section
variable{X:Cx}{pins:bf}{s:T8}{σ:L2.St}{H:Hp}{E:bh}
theorem Ea{c P:T5}{lpos:Pos}{params:UU}{body:T6}{scope:Uk}{clos:mj}{Q:bh}(I:Inv X pins σ H s)(B:BG X.mg X.base c P)(hcode:X.env.code=.ref c)(hP:H P=some (.ext (nQ P lpos (X.env.qual++"<lambda>"))))
  (hdef:defaultsOf params X.env=([],[])) (hcl:closureFor scope X.env=pure clos)
  (h:∀f c' ctv s' H',Inv X pins σ H' s'->aR H H'->s'.heap.get? f=some (VD "<lambda>" (X.env.qual++"<lambda>") params body scope clos ((X.mg "__name__").getD .none) c' ctv)->s'.heap.CodeRec (.ref c') (X.env.qual++"<lambda>")->Q (.ref f) s'):
  Ul (model X.prog X.w) X.A (eval (.Lambda params body scope lpos) X.env) Q E s:=by
 have hg:s.heap.Ns Ug X.mg:=I.mod.glob.keeps I.bk;have hPn:X.base.get? P=none:=by
  cases q:X.base.get? P with
  |none=>rfl
  |some o=>have:=(I.bs P o q).2;rw[hP]at this;cases this
 have hgP:Ug≠P:=λz=>by
  obtain⟨o,es,ep,e,_⟩:=I.mod.glob;rw[z,hPn]at e;cases e
 have hb:=B.blt I.bk hPn I.mod.glob;have C:=B.1.keeps I.bk;obtain⟨tb,_,_⟩:=I.hok P _ hP;refine kla_eval hdef ?_;rcases tb with e|⟨c',hc',e,hrec⟩
 ·refine kla_makeFunction hcl I.ok.glob hg hcode C e trivial rfl hgP hb λc' ctv h' tk hx hge hlt hrec htb=>?_;have hn:=I.hok.fresh hge;have htb':h'.get? P=some (tabObj #[rawInt lpos.line,rawInt lpos.col,.ref c']):=by simpa using htb
  have kp:∀b o,b≠P->s.heap.get? b=some o->(h'.push (VD "<lambda>" (X.env.qual++"<lambda>") params body scope clos ((X.mg "__name__").getD .none) c' ctv)).get? b=some o:=λb o hb' q=>To _ (hx b o hb' q);have hrec':(h'.push (VD "<lambda>" (X.env.qual++"<lambda>") params body scope clos ((X.mg "__name__").getD .none) c' ctv)).CodeRec (.ref c') (X.env.qual++"<lambda>"):=by
   obtain⟨c2,oc,vs,t,ec,eo,r⟩:=hrec;exact⟨c2,oc,vs,t,ec,To _ eo,r⟩
  have hco:∃o,(h'.push (VD "<lambda>" (X.env.qual++"<lambda>") params body scope clos ((X.mg "__name__").getD .none) c' ctv)).get? c'=some o:=by
   obtain⟨c2,oc,vs,t,ec,eo,r⟩:=hrec;cases ec;exact⟨oc,To _ eo⟩
  refine h _ c' ctv _ (upd H c' (.own P)) (I.un (Iy hP kp ⟨_,To _ htb'⟩ hge hn) (Fl I.hok hP kp hge hco (nQ.ok (.inr ⟨c',ay,To _ htb',hrec'⟩)))) (bj hn _) (Tp _ rfl) hrec'
 ·refine kla_makeFunctionHit (cv:=.ref c') hcl I.ok.glob hg hcode C e trivial ?_ hb λctv h' tk hk hsz=>?_
  ·show(if((lpos.line:Int)==(lpos.line:Int)&&(lpos.col:Int)==(lpos.col:Int))=true then some (Value.ref c')else _)=_;simp
  ·have kp:∀b o,s.heap.get? b=some o->(h'.push (VD "<lambda>" (X.env.qual++"<lambda>") params body scope clos ((X.mg "__name__").getD .none) c' ctv)).get? b=some o:=λb o q=>To _ (hk b o q);refine h _ c' ctv _ H (I.kept kp) (aR.refl H) (Tp _ rfl) ?_;obtain⟨c2,oc,vs,t,ec,eo,r⟩:=hrec;exact⟨c2,oc,vs,t,ec,kp _ _ eo,r⟩
end
noncomputable def rq(m:Nat):D->List D
 |.tup ks=>ks.take m
 |_=>[]
noncomputable def Le(m:Nat)(xs:List D):Prop:=xs.length<64/\∃σ:bQ,σ≠[]/\(∀x∈xs,∃k,x=.tup k/\Sh σ (k.take m))/\xs.Pairwise λx y=>rq m x≠rq m y
open Classical in
noncomputable def pX(m:Nat)(xs:List D):bG:=if Le m xs then some (.lst (iy (rq m) xs))else none
noncomputable def om:D->D->bG
 |.lst xs,.int i=>if 0<=i then pX i.toNat xs else none
 |.tup xs,.int i=>if 0<=i then pX i.toNat xs else none
 |_,_=>none
theorem sP:∀{vs:aJ}{us:aU}(n:Nat),Vals vs us->Vals (vs.take n) (us.take n)
 |_,_,0,_=>by rw[QG,QG];exact .nil
 |_,_,_+1,.nil=>.nil
 |_,_,n+1,.cons r t=>by rw[QI,QI];exact .cons r (sP n t)
theorem Ew{i:Int}(h:0<=i)(n:Nat):HT.sIx n n (some i)=min i.toNat n:=by
 show(if i<0 then _ else _)=_;rw[if_neg ‹0›]
theorem me:Ui "sorted"=some (.builtin "sorted"):=by first|rfl|decide +kernel
section
variable{X:Cx}{pins:bf}{s:T8}{σ:L2.St}{H:Hp}{O:az}
theorem xk{u:T2}{ds:List D}{vs:aJ}{its:aU}{d:D}{i:Int}{t:Tok}{c' cc f:T5}{row many qual:Str}{params:UU}{scope:Uk}{np mp p2 pos:Pos}{pm ctv:T2}{Q:VK}
  (I:Inv X pins σ H s) (hO:dN H O) (dn:aK X.K (hid H O) ds vs) (rv:Vals vs its) (h0:0<=i) (hs:pX i.toNat ds=some d)
  (hf:s.heap.get? f=some (VD "<lambda>" qual params (cutE row many np mp p2 pos) scope [(many,cc)] pm c' ctv)) (hcd:s.heap.CodeRec (.ref c') qual) (hroom:X.A.depth<UK)
  (hbind:∀v,bindArgs (kla_fn "<lambda>" qual params (cutE row many np mp p2 pos) scope [(many,cc)] pm (.ref c') ctv) ⟨[v],[]⟩=pure [(row,v)])
  (hco:scope.isCoroutine=false) (hgen:scope.isGenerator=false) (hk:scope.kind=.function) (hno:∀x∈scope.names,x.2≠.cell) (hr:scope.names.lookup row=some .local) (hm:scope.names.lookup many=some .free)
  (hcell:s.heap.IsCell cc (some (.int i t))) (d1:(row==("__debug__":Str))=false) (d2:(many==("__debug__":Str))=false) (d3:(many==("__classdict__":Str))=false)
  (hcol:∀(Q':aU->cP),(∀h' tk,(∀b o,s.heap.get? b=some o->h'.get? b=some o)->Q' its {s with heap:=h',toks:=tk})->Ul (model X.prog X.w) X.A.in1 (collect u) Q' X.xe s)
  (q:∀v H',aR H H'->cu X.K (hid H' O) d v->Q v H'):Ul (model X.prog X.w) X.A (call (.builtin "sorted") [u] [(Str.ofString "key",.ref f)]) (EP X pins σ Q) X.xe s:=by
 have l1:=dn.length;have l2:=rv.length;unfold pX at hs;split at hs
 ·rename_i hS;cases hs;obtain⟨h64,σ',hσ,hsh,pw⟩:=hS;obtain⟨b,σ1,rfl⟩:∃b σ1,σ'=b::σ1:=by
   cases σ' with
   |nil=>exact absurd rfl hσ
   |cons b σ1=>exact⟨b,σ1,rfl⟩
  have hsh':∀x∈ds,Sh (b::σ1) (rq i.toNat x):=λx hx=>by
   obtain⟨k,rfl,hk⟩:=hsh x hx;exact hk
  refine vS (keys:=ds.map (rq i.toNat)) (σ:=σ1) (b:=b) ‹0› (by rw[P7];omega) (λk hk=>by obtain⟨x,hx,rfl⟩:=List.mem_map.mp hk;exact hsh' x hx) hcol (λj v h' tk Q' hv kp hq=>?_) λp h1 h' l e tk hp hu k1 k2 hl he=>?_
  ·have hj:j<its.length:=by
    rcases RU j its.length with z|z
    ·exact z
    ·rw[RV z]at hv;cases hv
   have hj':j<ds.length:=(by omega);obtain⟨v0,e1,dv⟩:=dn.get (i:=j) (d:=ds[j]) (by simp[hj']);obtain⟨w,e2,rw'⟩:=rv.get e1;rw[hv]at e2;cases e2;obtain⟨k,ek,hk'⟩:=hsh _ (RK hj');have ekey:(ds.map (rq i.toNat)).getD j []=k.take i.toNat:=by
    have:(ds.map (rq i.toNat)).getD j []=rq i.toNat ds[j]:=(by simp[hj']);rw[this,ek];rfl
   rw[ekey]at hq;rw[ek]at dv;obtain⟨a,ws,rfl,ha,dk⟩:=bY.mp dv;cases rw';obtain⟨it2,r2,ht,hz⟩:=I.tuple (bJ (aj H O) ha);have hz':it2.toArray.size<=Ud:=(by rw[P0,<-r2.length];exact hz);refine Ee (s:={s with heap:=h',toks:=tk}) (i:=i) (t:=t) (kp _ _ hf) ?_ hroom (I.nolimit.keeps kp) hbind hco hgen hk hno hr hm ?_ (items:=it2.toArray) ?_ hz' d1 d2 d3 λb2 h'' tk' kp2 tb=>?_
   ·obtain⟨c2,oc,vs',t',ec,eo,r⟩:=hcd;exact⟨c2,oc,vs',t',ec,kp _ _ eo,r⟩
   ·obtain⟨o,e,q⟩:=hcell;exact⟨o,kp _ _ e,q⟩
   ·obtain⟨o,e,q⟩:=ht;exact⟨o,kp _ _ e,q⟩
   ·refine hq _ h'' tk' kp2 ?_;obtain⟨o,eo,hc,n,hd⟩:=tb;refine⟨b2,o,_,n,rfl,eo,hc,hd,?_⟩;have e3:(List.toArray (it2.toArray.toList.take (HT.sIx it2.toArray.size it2.toArray.size (some i)))).toList=it2.take i.toNat:=by
     rw[Ew h0];simp only[P0,RT];rcases RY i.toNat it2.length with z|z
     ·rw[RZ z]
     ·rw[R3 z,RW (PX _),RW z]
    rw[e3];exact jp (pD hk') (dk.take i.toNat) (sP i.toNat r2)
  ·have el:its.length=ds.length:=(by omega);rw[el]at hp hu;have ps:=oG (key:=rq i.toNat) hsh' pw hp hu;have hr:p.toList.Perm (List.range ds.length):=by
    have:=Array.perm_iff_toList_perm.mp hp
    simpa using this
   have hlt:∀i∈p.toList,i<ds.length:=λi hi=>by simpa using hr.mem_iff.mp hi
   have I1:Inv X pins σ H {s with heap:=h1,toks:=tk}:=I.kept k1;have hn:H l=none:=I1.hok.fresh hl;have rv':=nB rv p.toList λi hi=>by have:=hlt i hi;omega
   have dn':=og dn p.toList hlt;have hlen:p.toList.length=ds.length:=(by rw[hr.length_eq,QX]);refine⟨.ref l,_,Inv.laid (s:={s with heap:=h1,toks:=tk}) (t':=tk) I1 k2 hl (show b9 X.prog X.w _ h' _ (.lst (p.toList.map λi=>vs.getD i .non))from⟨by rw[P7,hlen,UD];omega,_,e,rv',he⟩),rfl,?_⟩;refine q _ _ (bj hn _) ?_;rw[<-ps];exact cS hO hn dn'
 ·cases hs
end
end TG
namespace TG
open PySem PySem.Spec PyProof.Rows PySem.W L2
section
variable[aB]{P:Ua}{w:T9}{K:SH}{mg:cB}{base:Uc}
noncomputable def rC(K:SH)(f:T5)(cdv:T2):Prop:=∃oc od fd sl,K.lookup f=some ⟨oc,od,.func fd,sl⟩/\fd.code=cdv
theorem rC.one{f:T5}{a b:T2}(h:rC K f a)(h':rC K f b):a=b:=by
 obtain⟨oc,od,fd,sl,e,r⟩:=h;obtain⟨oc',od',fd',sl',e',r'⟩:=h';rw[e]at e';cases e';rw[<-r,<-r']
structure uH(P:Ua)(w:T9)(K:SH)(mg:cB)(base:Uc)(k:Nat)(N:ax)(qual:Str)(st:T7)(f:T5)(B:bH):Prop where
 h:∀(cdv:T2)(A:Uj)(outer:List Env)(s:T8)(H:Hp)(E:XK),rC K f cdv->eY k (A.deeper (envOfC qual (aw st) s.heap.objs.size f cdv))->Uw (model P w) (A.deeper (envOfC qual (aw st) s.heap.objs.size f cdv)) (envOfC qual (aw st) s.heap.objs.size f cdv) (ie (j3 P w) P w K mg base N qual (aw st) f cdv A outer s H E).xe->
  MS (ie (j3 P w) P w K mg base N qual (aw st) f cdv A outer s H E) (dF st) B
theorem Du{x qual:Str}{st:T7}{f:T5}{fd:UM}{N ps:ax}{k:Nat}{B:bH}(F:uQ K x qual st f fd)(SC:dD N ps (aw st))(hb:uH P w K mg base k N qual st f B):
  ir P w K mg base (j3 P w) (k+1) f fd ps (zV K ps.length (aC B ps.length N.length)):=by
 obtain⟨oc,od,kV,doc,pm,an,cd,ct,osl,rfl,lk,hcd⟩:=F.ex;refine De lk hcd SC (λvs H Q E h=>?_) λA outer s H vs Q E hr h=>?_
 ·obtain⟨O,ds,h1,_⟩:=h;exact h1
 ·obtain⟨O,ds,h1,h2,h3,h4⟩:=h;have hl:ds.length=ps.length:=h3.length.trans h1;have e4:aC B ps.length N.length ds=B K0 (env0 N.length ds):=by unfold aC;rw[if_pos hl]
  rw[e4]at h4;refine⟨_,hb.h cd A outer s H E ⟨_,_,_,_,lk,rfl⟩ hr PassesOwn.leaving H O,O,env0 N.length ds,K0,_,⟨qo h2 h3,⟨aR.refl H,λ_ z=>z,λa z=>.inl z⟩,λi xs a e=>?_,λi d e=>by obtain⟨d',_,e2⟩:=ik i _ e;cases e2⟩,rfl,?_⟩
  ·obtain⟨d',_,e2⟩:=ik i _ e;cases e2
  ·generalize B K0 (env0 N.length ds)=r at h4;refine⟨λz=>by rw[z]at h4;exact h4,λO' ρ' σ' H' S e=>?_,λO' ρ' σ' H' S e=>?_,λO' ρ' σ' H' S e=>?_,λd O' v H' e b dv=>?_,λO' ρ' σ' H' x S e=>?_⟩
   ·have e:(.ok .non:R D)=r:=e;subst e;exact h4 .non H' S.base.same (jB.mpr rfl)
   ·have e:(un:R D)=r:=e;subst e;exact h4.elim
   ·have e:(un:R D)=r:=e;subst e;exact h4.elim
   ·subst e;exact h4 v H' b.same (dv.mono (fw b.sub))
   ·have e:(.error (some x):R D)=r:=e;subst e;exact Br h4 S.base.same S.base.sub
theorem yn{x qual:Str}{st:T7}{f:T5}{fd:UM}{N ps:ax}{k:Nat}{B:bH}(F:uQ K x qual st f fd)(b:Binds K fd ps [])(m:mg x=some (.ref f))(SC:dD N ps (aw st))(hb:uH P w K mg base k N qual st f B):
  Callee P w K mg base (k+1) x ps (aC B ps.length N.length):=⟨f,fd,Du F SC hb,b,F.kp,m⟩
end
noncomputable def wR(mg:cB)(base:Uc):Prop:=∃bm ob,mg "__builtins__"=some (.ref bm)/\bm≠Uh/\base.get? bm=some ob/\ob.cls=.type "module"/\ob.dict=some Uh/\ob.data=.plain
theorem FZ{K:SH}{mg:cB}{base:Uc}{c P:T5}(X:K.In base)(e:codeHdIn K c P=true)(b:wR mg base):BG mg base c P:=⟨codeHd_of_K X e,b⟩
theorem Fy{P:Ua}{w:T9}{K:SH}{mg mb:cB}{CX:wC}{k:Nat}{fa a c T:T5}{lpos:Pos}{q:Str}{fd:UM}{x:Str}{sp:Sp}{s₁:T8}{vs:aU}{ns:List Int}
  (KX:K.In s₁.heap) (hns:s₁.heap.Ns Ug mg) (hb:s₁.heap.Ns Uh mb) (hbb:∀x:Str,x≠"__name__"->mb x=Ui x) (hlim:s₁.heap.NoLimit) (hg:s₁.gens=#[]) (hbm:wR mg s₁.heap)
  (hT:s₁.heap.get? T=some (tabObj #[])) (hC:codeHdIn K c T=true) (hKT:K.lookup T=none)
  (ha:s₁.heap.get? a=some {cls:=.type "list",data:=.seq vs.toArray}) (hi:IntsAre vs ns) (hl:ns.length<=Ud) (hr:eY k callerA)
  (F:∀base:Uc,K.In base->base.Ns Ug mg->wR mg base->ir P w K mg base CX k fa fd [x] sp) (hbind:∀(s:T8)(u:T2),UN s fd ⟨[u],[]⟩ [(x,u)])
  (hsp:∀H:Hp,H T=some (.ext (nQ T lpos q))->md K H a (ns.map V.int)->sp [.ref a] H (λv H'=>v=.bl true/\aR H H') λ_ _ _=>False)
  (hCX:∀H e s',CX [] H s₁ (λ_ _ _=>False) e s'->False):
  UG (model P w) callerA (.call (.ref fa) ⟨[.ref a],[]⟩) (λr s'=>r=.ok (.ret (.bool true))/\OldK s₁.heap s'.heap/\s'.os=s₁.os/\AllBare s'.gens) s₁:=by
 have rv:=rK hi;have lenV:=hi.length;have aT:a≠T:=λz=>by rw[z,hT]at ha;cases ha
 obtain⟨H,hH⟩:∃H:Hp,H=λb=>if b=T then some (.ext (nQ T lpos q))else if b=a/\(K.lookup a).isNone=true then some (.frz {cls:=.type "list",data:=.seq vs.toArray} (.lst (ns.map V.int)))else none:=⟨_,rfl⟩
 have hHT:H T=some (.ext (nQ T lpos q)):=by rw[hH];exact if_pos rfl
 have cases':∀b u,H b=some u->(b=T/\u=.ext (nQ T lpos q))\/(b=a/\K.lookup a=none/\u=.frz {cls:=.type "list",data:=.seq vs.toArray} (.lst (ns.map V.int))):=λb u e=>by
  rw[hH]at e;by_cases z:b=T
  ·have e:=(if_pos z).symm.trans e;cases e;exact .inl ⟨z,rfl⟩
  ·have e:=(if_neg z).symm.trans e;by_cases z':b=a/\(K.lookup a).isNone=true
   ·have e:=(if_pos z').symm.trans e;cases e;exact .inr ⟨z'.1,by simpa using z'.2,rfl⟩
   ·have e:=(if_neg z').symm.trans e;cases e
 have free:∀b o,s₁.heap.get? b=some o->o.cls≠.none->o.cls≠.type "list"->H b=none:=λb o e h1 h2=>by
  cases z:H b with
  |none=>rfl
  |some u=>
   rcases cases' b u z with⟨e1,_⟩|⟨e1,_⟩
   ·rw[e1,hT]at e;cases e;exact absurd rfl h1
   ·rw[e1,ha]at e;cases e;exact absurd rfl h2
 have freeD:∀b o es ep,s₁.heap.get? b=some o->o.data=.dict es ep->H b=none:=λb o es ep e d=>by
  cases z:H b with
  |none=>rfl
  |some u=>
   rcases cases' b u z with⟨e1,_⟩|⟨e1,_⟩
   ·rw[e1,hT]at e;cases e;cases d
   ·rw[e1,ha]at e;cases e;have d':Data.seq vs.toArray _=Data.dict es ep:=d;cases d'
 have hS:md K H a (ns.map V.int):=by
  cases hk:K.lookup a with
  |some o=>
   have e:=KX a o hk;rw[ha]at e;cases e;exact .inr ⟨_,vs.toArray,_,hk,rfl,rfl,rfl,by rw[P0,lenV];exact hl,by simpa using rv⟩
  |none=>
   refine .inl (.inr ⟨{cls:=.type "list",data:=.seq vs.toArray},?_⟩);rw[hH];exact(if_neg aT).trans (if_pos ⟨rfl,by rw[hk];rfl⟩)
 have hok:mz P w H s₁.heap:=λb u e=>by
  rcases cases' b u e with⟨e1,e2⟩|⟨e1,_,e2⟩
  ·subst e1 e2;exact nQ.ok (.inl hT)
  ·subst e1 e2;exact⟨ha,by rw[P7];exact hl,vs,_,rv,ha⟩
 have nsK:∀{b:T5}{m:cB},s₁.heap.Ns b m->(t7 s₁.heap H).Ns b m:=λ{b m} ⟨o,es,ep,e,d,r⟩=>⟨o,es,ep,qI e (freeD b o es ep e d),d,r⟩
 have hKb:K.In (t7 s₁.heap H):=λb o e=>qI (KX b o e) (by
  cases z:H b with
  |none=>rfl
  |some u=>
   rcases cases' b u z with⟨e1,_⟩|⟨e1,e2,_⟩
   ·rw[e1,hKT]at e;cases e
   ·rw[e1,e2]at e;cases e)
 have hbm':wR mg (t7 s₁.heap H):=by
  obtain⟨bm,ob,b1,b2,b3,b4,b5,b6⟩:=hbm;refine⟨bm,ob,b1,b2,qI b3 (free bm ob b3 ?_ ?_),b4,b5,b6⟩
  ·rw[b4];simp
  ·rw[b4];simp
 have hM:Mod K mg (t7 s₁.heap H):=⟨hKb,nsK hns,⟨mb,nsK hb,hbb⟩,let ⟨mc,h1,h2⟩:=hlim;⟨mc,nsK h1,h2⟩⟩
 have e0:Ah P w K mg (t7 s₁.heap H) callerA [] s₁ H:=⟨rfl,hM,λb o e=>E5 e,P8 (zx _ _),trivial,λb hb=>absurd (show b∈([]:az)from hb) (by simp),hok,.of_eq hg⟩
 refine UP ((F _ hKb (nsK hns) hbm').run callerA [] s₁ H ⟨[.ref a],[]⟩ [.ref a] [.ref a] _ _ hr e0 (hbind s₁ (.ref a)) (.cons rfl .nil) (hsp H hHT hS)) λr s' h=>?_;cases r with
 |error e=>exact(hCX H e s' h).elim
 |ok fl=>
  cases fl with
  |next=>exact False.elim h
  |brk=>exact False.elim h
  |cont=>exact False.elim h
  |ret u=>
   obtain⟨v,H',os,bare,unn,hok',r',q'⟩:=h;obtain⟨ev,sm⟩:v=.bl true/\aR H H':=q';subst ev;obtain rfl:u=Value.bool true:=r';have tb:=(hok' T _ (sm _ _ hHT)).1;obtain⟨ps,hps⟩:∃ps,s'.heap.get? T=some (tabObj ps):=by
    rcases tb with e|⟨_,_,e,_⟩
    ·exact⟨_,e⟩
    ·exact⟨_,e⟩
   have keep:∀b o,b≠T->s₁.heap.get? b=some o->s'.heap.get? b=some o:=λb o hb e=>by
    cases z:H b with
    |none=>exact unn.keep b o e z (by intro z;exact absurd (show b∈([]:az)from z) (by simp)) (by simp)
    |some u=>
     rcases cases' b u z with⟨e1,_⟩|⟨e1,_,e2⟩
     ·exact absurd e1 hb
     ·subst e2;have z2:=sm _ _ z;obtain⟨e3,_⟩:=hok' b _ z2;rw[e1,ha]at e;cases e;exact e3
   refine⟨rfl,⟨λb o e=>?_,λb o e=>?_⟩,os,bare⟩
   ·by_cases hb:b=T
    ·subst hb;rw[hT]at e;cases e;exact .inr (.inl ⟨((codeHd_of_K KX hC).tab hT).isCodeTable,rfl,#[],ps,rfl,by rw[Array.empty_append];exact hps⟩)
    ·exact .inl (keep b o hb e)
   ·by_cases hb:b=T
    ·subst hb;exact⟨_,hps⟩
    ·exact⟨o,keep b o hb e⟩
theorem Ef{l:Tf}{n k:Nat}{q:Ua}{loose:ax}{XP:(cB)->Uc->Prop}{YP:T9->Uc->Prop}{d:DefRec}{K:Params->SH}{CX:T9->wC}{sp:T9->Sp}{x qn:Str}{T:T5}{lpos:Pos}
  (hn:l.most=some n) (hn2:n<=Ud) (hdf:d.params.defaults=[]) (hr:eY k callerA)
  (hY:∀(w:T9)(h:Uc),YP w h->(K w.params).In h/\h.get? T=some (tabObj #[]))
  (F:∀ (w:T9) (mg:cB) (fa:T5) (h:Uc),(K w.params).In h->h.Ns Ug mg->mg d.name=some (.ref fa) ->
   (∃c,codeHdIn (K w.params) c T=true)/\(K w.params).lookup T=none/\∃fd:UM,(∀(s:T8)(u:T2),UN s fd ⟨[u],[]⟩ [(x,u)])/\
    ∀base:Uc,(K w.params).In base->base.Ns Ug mg->wR mg base->ir l.prog w (K w.params) mg base (CX w) k fa fd [x] (sp w))
  (hsp:∀(w:T9)(H:Hp)(a:T5)(ns:List Int),ns.length<=n->H T=some (.ext (nQ T lpos qn))->md (K w.params) H a (ns.map V.int)->sp w [.ref a] H (λv H'=>v=.bl true/\aR H H') λ_ _ _=>False)
  (hCX:∀(w:T9)(H:Hp)(s:T8)(e:T2)(s':T8),CX w [] H s (λ_ _ _=>False) e s'->False):
  PySem.W.WalkO q loose XP YP l.row.toRowW d [] (λf vs=>PySem.call f vs):=by
 refine Att.Hy hn hdf λw s₀ s₁ mg mb fa o pm cd doc a vs ns G Y ho hd hcd hmg hobj hints hlen hg=>?_;obtain⟨KX,hT⟩:=hY w _ Y;obtain⟨⟨c,hC⟩,hKT,fd,hb,hF⟩:=F w mg fa _ KX G.T.g hmg;exact Fy KX G.T.g G.T.b G.T.builtins G.T.nolimit hg G.T.bmain hT hC hKT hobj hints (PD hlen hn2) hr hF hb (λH hO hS=>hsp w H a ns hlen hO hS) λH e s'=>hCX w H s₁ e s'
open PySem PySem.Spec PySem.Calls L2
open PySem.SeqAt (EqAt list_indexAt)
variable[aB]
section
variable{X:Cx}{p pos:Pos}{e:T6}
end
end TG
namespace TG
open PySem PySem.Spec L2
variable[aB]
end TG
namespace TG
open PySem PySem.Spec PySem.Calls L2
open PySem.SeqAt (EqAt list_countAt)
variable[aB]
noncomputable def u9:=J1 (λ_ j=>decide (0<=j)) λi j=>i/2^j.toNat
theorem Im{K:SH}:cW K (rI (λ_ j=>0<=j) λi j=>.int (i/2^j.toNat)) u9:=iW λ_ _ h=>of_decide_eq_true h
noncomputable def oQ:=Hi λi j=>.int (Builtin.bitAnd i j)
theorem Jj{K:SH}:cW K (zI λi j=>.int (Builtin.bitAnd i j)) oQ:=pP
noncomputable def oy:List D->List D->Option (List (Key×D))
 |[],[]=>some []
 |k::ks,d::ds=>(keyOf k).bind λk=>(oy ks ds).map ((k,d)::·)
 |_,_=>none
noncomputable abbrev gC(al:List (Key×D)):List D:=al.map λp=>bg p.1
noncomputable abbrev vw(al:List (Key×D)):D:=.dct (gC al) (al.map (·.2))
theorem js(k:Key):keyOf (bg k)=some k:=by cases k<;>rfl
theorem qi{a b:Key}(h:bg a=bg b):a=b:=by
 have e:=congrArg keyOf h;rw[js,js]at e;exact Option.some.inj e
theorem we:∀{ks ds:List D}{al:List (Key×D)},oy ks ds=some al->ks=gC al/\ds=al.map (·.2)
 |[],[],_,h=>by cases h;exact⟨rfl,rfl⟩
 |k::ks,d::ds,al,h=>by
  unfold oy at h;cases e1:keyOf k with
  |none=>rw[e1]at h;cases h
  |some k'=>
   rw[e1]at h;cases e2:oy ks ds with
   |none=>rw[e2]at h;cases h
   |some al'=>
    rw[e2]at h;cases h;obtain⟨h1,h2⟩:=we e2;rw[qp e1,h1,h2];exact⟨rfl,rfl⟩
 |[],_::_,_,h=>by cases h
 |_::_,[],_,h=>by cases h
theorem sg:∀al:List (Key×D),oy (gC al) (al.map (·.2))=some al
 |[]=>rfl
 |p::r=>by
  show(keyOf (bg p.1)).bind _=_;rw[js];show(oy (gC r) (r.map (·.2))).map ((p.1,p.2)::·)=_;rw[sg r];rfl
theorem rT:∀{al:List (Key×D)}{ks:cX},gC al=ks.map bg->al.map (·.1)=ks
 |[],[],_=>rfl
 |p::r,k::ks,h=>by
  have h:bg p.1::gC r=bg k::ks.map bg:=h;injection h with h1 h2;rw[P6,qi h1,rT h2]
 |[],_::_,h=>by cases h
 |_::_,[],h=>by cases h
theorem M6{K:SH}{H:Hp}{O:az}{a:T5}{al:List (Key×D)}(h:cD K H O a (vw al)):
  (∃kvs:List (Key×V),H a=some (.dK kvs)/\kvs.map (·.1)=al.map (·.1)/\aK K (hid H O) (al.map (·.2)) (kvs.map (·.2)))\/(H a=some (.dT [])/\al=[]):=by
 obtain⟨o,vs,h1,h2,h3⟩:=h;rcases h3 with⟨kvs,e,e1,e2⟩|⟨kvs,e,e1,e2⟩
 ·subst e;refine .inl ⟨kvs,h1,?_,by rw[<-e2];exact h2⟩;exact(rT (ks:=kvs.map (·.1)) (by rw[RN];exact e1)).symm
 ·subst e;cases kvs with
  |nil=>
   refine .inr ⟨h1,?_⟩
   simpa using e1
  |cons p r=>
   cases al with
   |nil=>cases e1
   |cons q r'=>
    have e1:bg q.1::gC r'=D.tup (p.1.map bg)::r.map (λp=>D.tup (p.1.map bg)):=e1;injection e1 with e1 _;rcases q with⟨k,v⟩
    cases k<;>cases e1
section
variable{κ:Type}[DecidableEq κ]
noncomputable def oW(al:List (κ×D))(k:κ)(v:D):List (κ×D):=if(al.any λp=>decide (p.1=k))=true then al.map (λp=>if p.1=k then(p.1,v)else p)else al++[(k,v)]
theorem AY{kvs:List (κ×V)}{al:List (κ×D)}(e:kvs.map (·.1)=al.map (·.1))(k:κ)(w:V)(d:D):(putK kvs k w).map (·.1)=(oW al k d).map (·.1):=by
 have e2:(kvs.any λp=>decide (p.1=k))=(al.any λp=>decide (p.1=k)):=by
  have:=congrArg (λl=>l.any λq=>decide (q=k)) e
  simpa [RO,Function.comp_def]using this
 unfold putK oW;rw[e2];split
 ·have e3:∀(l:List (κ×V)),(l.map λkv=>if kv.1=k then(kv.1,w)else kv).map (·.1)=l.map (·.1):=λl=>by
   rw[RN];refine QU λp _=>?_;show(if p.1=k then(p.1,w)else p).1=p.1;split<;>rfl
  have e4:∀(l:List (κ×D)),(l.map λkv=>if kv.1=k then(kv.1,d)else kv).map (·.1)=l.map (·.1):=λl=>by
   rw[RN];refine QU λp _=>?_;show(if p.1=k then(p.1,d)else p).1=p.1;split<;>rfl
  rw[e3,e4,e]
 ·rw[QV,QV,e];rfl
theorem sY{K:SH}{H:Hp}{k:κ}{w:V}{d:D}(hw:cu K H d w):∀{kvs:List (κ×V)}{al:List (κ×D)},kvs.map (·.1)=al.map (·.1)->aK K H (al.map (·.2)) (kvs.map (·.2))->
  aK K H ((al.map λp=>if p.1=k then(p.1,d)else p).map (·.2)) ((kvs.map λp=>if p.1=k then(p.1,w)else p).map (·.2))
 |[],[],_,h=>h
 |p::r,q::r',e,h=>by
  rw[P6,P6]at e;injection e with e1 e2;rw[P6,P6,aX]at h;obtain⟨v,ws,h0,h1,h2⟩:=h;injection h0 with h0 h0';subst h0 h0';have ih:=sY (k:=k) hw e2 h2;rw[P6,P6,P6,P6,aX];refine⟨_,_,rfl,?_,ih⟩;rw[e1];split
  ·exact hw
  ·exact h1
 |[],_::_,e,_=>by cases e
 |_::_,[],e,_=>by cases e
theorem B5{K:SH}{H:Hp}{k:κ}{w:V}{d:D}(hw:cu K H d w){kvs:List (κ×V)}{al:List (κ×D)}(e:kvs.map (·.1)=al.map (·.1))(h:aK K H (al.map (·.2)) (kvs.map (·.2))):
  aK K H ((oW al k d).map (·.2)) ((putK kvs k w).map (·.2)):=by
 have e2:(kvs.any λp=>decide (p.1=k))=(al.any λp=>decide (p.1=k)):=by
  have:=congrArg (λl=>l.any λq=>decide (q=k)) e
  simpa [RO,Function.comp_def]using this
 unfold putK oW;rw[e2];split
 ·exact sY hw e h
 ·rw[QV,QV];exact h.append (aX.mpr ⟨w,[],rfl,hw,cn.mpr rfl⟩)
end
noncomputable def rQ(ks ds:List D)(k v:D):Option (List (Key×D)):=(oy ks ds).bind λal=>(keyOf k).bind λk=>if small al.length then some (oW al k v)else none
noncomputable def lL(i:Nat)(fk fv:FX):bH:=λk ρ=>match ρ[i]? with
 |some (some (.own (.dct ks ds)))=>o7 ((fv ρ).bind λv=>(fk ρ).bind λq=>rO (rQ ks ds q v)) k ρ λal=>k.nx (ρ.set i (some (.own (vw al))))
 |_=>un
theorem yo{ks ds:List D}{k v:D}{al':List (Key×D)}(h:rQ ks ds k v=some al'):∃al q,ks=gC al/\ds=al.map (·.2)/\k=bg q/\small al.length=true/\al'=oW al q v:=by
 unfold rQ at h;cases e1:oy ks ds with
 |none=>rw[e1]at h;cases h
 |some al=>
  rw[e1]at h;cases e2:keyOf k with
  |none=>rw[e2]at h;cases h
  |some q=>
   rw[e2]at h;obtain⟨h3,h4⟩:=bD (show(if small al.length then some (oW al q v)else none)=some al' from h);obtain⟨h1,h2⟩:=we e1;exact⟨al,q,h1,h2,qp e2,h3,h4.symm⟩
theorem GP{kvs:List (Key×V)}{al:List (Key×D)}(e:kvs.map (·.1)=al.map (·.1)):gC al=kvs.map λp=>bg p.1:=by
 have:=congrArg (List.map bg) e
 rw[RN,RN]at this;exact this.symm
noncomputable def IE(td ty tv:TE):TS:=λD σ H=>tv σ H λv H1=>td σ H1 λx H2=>ty σ H2 λy H3=>∃a k kvs,x=.ref a/\y=kV k/\(H3 a=some (.dK kvs)\/(H3 a=some (.dT [])/\kvs=[]))/\kvs.length<Ud/\D.nx σ (upd H3 a (.dK (putK kvs k v)))
section
variable{X:Cx}{o idx value:T6}{pos pos':Pos}{td ty tv:TE}
theorem Dt(hu:X.A.units+1<UL)(ho:PE X o td)(hi:PE X idx ty)(hv:PE X value tv)(hs:swapsWith value (some (.Subscript o idx pos')) pos.line X.env=pure false):PS X (.Assign [.Subscript o idx pos'] value pos) (IE td ty tv):=by
 intro pins s σ H D I h;refine wpAny_Assign_Subscript (cN (hv pins s σ H _ I h) λr s1 ⟨v,H1,I1,rv,q1⟩=>cN (ho pins s1 σ H1 _ I1 q1) λu s2 ⟨x,H2,I2,rx,q2⟩=>cN (hi pins s2 σ H2 _ I2 q2) λiv s3 h3=>?_) hs;obtain⟨y,H3,I3,ry,a,k,kvs,ex,ey,ha,hl,q3⟩:=h3;subst ex ey;obtain rfl:u=Value.ref a:=rx;rcases ha with ha|⟨ha,rfl⟩
 ·exact kB hu I3 (JN.k ha hl) ry rv λs4 I4=>⟨σ,_,I4,q3⟩
 ·refine kB hu (JP I3 ha) (JN.k ay hl) ry rv λs4 I4=>⟨σ,_,I4,?_⟩
  rw[qG];exact q3
end
section
variable{X:Cx}
theorem Kk{pins:bf}{σ:St}{H:Hp}{s:T8}{O:az}{ks ds:List D}{v:V}{qs:cX}(I:Inv X pins σ H s)(h:cu X.K (hid H O) (.dct ks ds) v)(hk:keysOf ks=some qs):
  ∃a vs,v=.ref a/\qs.length<=Ud/\(a==sysModules)=false/\s.heap.DictOf (bN X.prog X.w) a vs/\vs.map (·.1)=qs:=by
 obtain⟨a,vs,e,_,h2⟩:=L3.mp h;have ek:=lB hk;rcases h2 with⟨kvs,h3,h4,_⟩|⟨kvs,h3,h4,_⟩|⟨kvs,o,h3,h4,_⟩
 rotate_left 2
 ·rw[h4]at hk;cases hk
 ·obtain⟨z,hd,us,rel,dd⟩:=Hv I.hok ((aj H O) _ _ h3);have e1:kvs.map (·.1)=qs:=by
   have:(kvs.map (·.1)).map bg=qs.map bg:=(by rw[RN,<-ek,h4];rfl);have e2:=congrArg keysOf this;rw[bR,bR]at e2;exact Option.some.inj e2
  refine⟨a,us,e,?_,hd,dd,?_⟩
  ·have:=congrArg List.length e1
   rw[P7]at this;omega
  ·rw[<-rel.keys,e1]
 ·cases kvs with
  |nil=>
   rw[h4]at hk;cases hk;obtain⟨z,hd,us,rel,dd⟩:=(show b9 X.prog X.w H s.heap a (.dK [])from vh (I.hok a _ ((aj H O) _ _ h3)))
   refine⟨a,us,e,P9 _,hd,dd,?_⟩;rw[<-rel.keys];rfl
  |cons p r=>
   rw[h4]at hk;cases hk
noncomputable def qA:List D->bG
 |[.dct ks _]=>(keysOf ks).bind λqs=>some (.int qs.length)
 |_=>none
theorem Bg:dW X (.builtin "len") (xO X.K qA):=by
 rintro pins s σ H xs us Q I r ⟨O,ds,d,hO,hd,hg,q⟩;unfold qA at hg;split at hg
 ·rename_i ks vs0;cases hk:keysOf ks with
  |none=>rw[hk]at hg;cases hg
  |some qs=>
   rw[hk]at hg;cases hg;obtain⟨v,ev,h1⟩:=hd.one;obtain⟨a,vs,e,z,hs,dd,e1⟩:=Kk I h1 hk;subst ev e;obtain⟨u,rfl,ru⟩:=vals1 r;cases ru;have hl:vs.length=qs.length:=(by have:=congrArg List.length e1;simpa using this);refine call_len_dict hs dd (by rw[UD]at z;omega) ?_;rw[hl];exact⟨.int qs.length,H,I.tok _,⟨_,rfl⟩,q _ H (aR.refl H) (eF.mpr rfl)⟩
 ·cases hg
theorem A4{k:Key}{v:T2}(h:oM k v=true):RelV (kV k) v:=by
 rcases cF h with⟨i,t,rfl,rfl⟩|⟨x,t,rfl,rfl⟩
 ·exact⟨_,rfl⟩
 ·exact⟨_,rfl⟩
theorem sX{P:Ua}{w:T9}:∀{vs:List (Key×T2)}{its:aU},its.length=vs.length->(∀(j:Nat)(v:T2),its[j]?=some v->∃(k:Key)(x:T2),vs[j]?=some (k,x)/\(bN P w).is k v=true)->Vals (vs.map λp=>kV p.1) its
 |[],[],_,_=>.nil
 |p::r,u::us,hl,h=>by
  obtain⟨k,x,e,hk⟩:=h 0 u rfl;cases e;exact .cons (A4 (by rw[xK]at hk;exact hk)) (sX (by simpa using hl) λj v e=>h (j+1) v (by simpa using e))
 |[],_::_,hl,_=>by cases hl
 |_::_,[],hl,_=>by cases hl
theorem rL{K:SH}{H:Hp}:∀qs:cX,aK K H (qs.map bg) (qs.map kV)
 |[]=>cn.mpr rfl
 |k::r=>aX.mpr ⟨kV k,_,rfl,by cases k with
  |inl i=>exact eF.mpr rfl
  |inr x=>exact eN.mpr rfl,rL r⟩
noncomputable def jt:List D->bG
 |[.dct ks _]=>(keysOf ks).bind λ_=>some (.lst ks)
 |_=>none
theorem xr(hc:X.calm=true):dW X (.type "list") (xO X.K jt):=by
 rintro pins s σ H xs us Q I r ⟨O,ds,d,hO,hd,hg,q⟩;unfold jt at hg;split at hg
 ·rename_i ks vs0;cases hk:keysOf ks with
  |none=>rw[hk]at hg;cases hg
  |some qs=>
   rw[hk]at hg;cases hg;obtain⟨v,ev,h1⟩:=hd.one;obtain⟨a,vs,e,z,hs,dd,e1⟩:=Kk I h1 hk;subst ev e;obtain⟨u,rfl,ru⟩:=vals1 r;cases ru;have hl:vs.length=qs.length:=(by have:=congrArg List.length e1;simpa using this);obtain⟨ep,da⟩:=dd.dictAt;refine Tg (PySem.W.kdl_dict hs) (I.ok.hd hc) da ‹0› λh' tk acc' c' kp e2 it=>?_;have rv:Vals (qs.map kV) acc'.toList:=by
    have:=sX (P:=X.prog) (w:=X.w) (vs:=vs) (its:=acc'.toList) (by rw[Array.length_toList];exact it.1) λj v e=>it.2 j v (by rw[<-Array.getElem?_toList];exact e)
    rw[<-e1,RN];exact this
   refine⟨.ref s.heap.objs.size,_,I.laid (t':=tk) kp (PX _) (show b9 X.prog X.w _ h' _ (.lst (qs.map kV))from⟨by rw[P7];exact z,acc'.toList,c',rv,by simpa using e2⟩),rfl,?_⟩;have hf:=I.hok.fresh (PX s.heap.objs.size);refine q _ _ (bj hf _) ?_;rw[lB hk];exact cS hO hf (rL qs)
 ·cases hg
end
end TG
namespace TG
open PySem PySem.Spec L2
variable[aB]
end TG
namespace TG
open PySem PySem.Spec PySem.Calls L2
variable[aB]
theorem zJ:typeLookup (.type "list") "keys"=pure none:=by rw[typeLookup_type,builtinLookup_eq_fast];kernel_rfl
theorem Fz{prog:Ua}{w:T9}{A:Uj}{E:bh}{s:T8}{a:T5}{o:Obj}{xs:dX}{k:Nat}{u:Tok}{Q:bh}
  (hx:s.heap.get? a=some o) (hc:o.cls=.type "list") (hdat:o.data=.seq xs k) (hd:o.dict=none) (hA:A.handled=none)
  (h:∀h' tk e,Heap.NewExcOf s.heap h' e "AttributeError"->E (.ref e) {s with heap:=h',toks:=tk}):
  Ul (model prog w) A (getAttrBy (.ref a) (.str "keys" u) false) Q E s:=by
 obtain⟨c,dct,dat,sl⟩:=o;simp only at hc hdat hd;subst hc hdat hd;obtain⟨hp,g,d,tk,os⟩:=s;have hT:∀tk',(⟨hp,g,d,tk',os⟩:T8).TypeIs (.ref a) "list":=λ_=>⟨_,hx,rfl⟩
 have f1:=sub_AttributeError;have f3:=F.slot_list_getattribute.lookup;have f4:=F.slot_list_getattribute.bind (.ref a);have f5:=am_list_getattr_none;unfold getAttrBy
 repeat (any_goals (first|assumption|exact hT _|((with_reducible show Ul _ _ (call (Value.builtin "list.__getattribute__") _ _) _ _ _);refine call_meets F.slot_list_getattribute (hT _) am_entry_list_getattribute (F.args_list_getattribute_2 _ _) (meets_getattribute_miss_list a xs k sl "keys" _ zJ (by decide +kernel) (by decide +kernel)) ⟨hx,hA,λh' tk' e hx'=>?_⟩)|wp_step))
 obtain⟨t',u',he⟩:=hx'.there;show Ul _ _ (getattributeRaised _ _ _ _ _ _ _) _ _ _;unfold getattributeRaised
 repeat (any_goals (first|assumption|wp_step))
 exact h _ _ _ hx'.of
theorem FJ{prog:Ua}{w:T9}{A:Uj}{E:bh}{s:T8}{a:T5}{o:Obj}{xs:dX}{k:Nat}{Q:Option T2->cP}
  (hx:s.heap.get? a=some o) (hc:o.cls=.type "list") (hdat:o.data=.seq xs k) (hd:o.dict=none) (hA:A.handled=none)
  (h:∀h' tk,(∀b o,s.heap.get? b=some o->h'.get? b=some o)->Q none {s with heap:=h',toks:=tk}):
  Ul (model prog w) A (getAttr? (.ref a) "keys") Q E s:=by
 obtain⟨hp,g,d,tk,os⟩:=s;have f1:=sub_AttributeError;unfold getAttr? getAttrBy?;refine Uu (wpAny_mkText ?_);refine Uu (Vo (Fz (s:=⟨hp,g,d,tk+1,os⟩) hx hc hdat hd hA λh' tk' e ne=>?_));obtain⟨ob,vs,e1,e2,_⟩:=ne.there;refine Uu (Vp (s:=⟨h',g,d,tk',os⟩) ⟨ob,e1,e2⟩ f1 ?_);exact Ut (h h' tk' ne.keeps)
noncomputable abbrev Keeps(h0 h:Uc):Prop:=∀b o,h0.get? b=some o->h.get? b=some o
section
variable{prog:Ua}{w:T9}{A:Uj}{E:bh}{K:Type}[DecidableEq K]{knd:HeapKind prog w K}{d:T5}{h0:Uc}
noncomputable def DI(knd:HeapKind prog w K)(h0:Uc)(d:T5)(h:Uc)(xs:List (K×T5×T2)):Prop:=
 (∃o es ep,h.get? d=some o/\o.ExactDict/\o.data=.dict es ep/\es.toList=xs.map (entryOfKey knd)/\(xs.map (·.1)).Nodup)/\∀x∈xs,∀h,Keeps h0 h->knd.is h x.1 x.2.1
theorem DI.dict{h:Uc}{xs:List (K×T5×T2)}(x:DI knd h0 d h xs)(k:Keeps h0 h):h.DictOfH knd d xs:=by
 obtain⟨⟨o,es,ep,h1,h2,h3,h4,h5⟩,h6⟩:=x;exact⟨o,es,ep,h1,h2,h3,h4,λy hy=>h6 y hy h k,h5⟩
theorem DI.stay{h h':Uc}{xs:List (K×T5×T2)}(x:DI knd h0 d h xs)(k:∀o,h.get? d=some o->h'.get? d=some o):DI knd h0 d h' xs:=by
 obtain⟨⟨o,es,ep,h1,r⟩,h6⟩:=x;exact⟨⟨o,es,ep,k o h1,r⟩,h6⟩
theorem mem_storedH{xs:List (K×T5×T2)}{k:K}{a:T5}{v:T2}{x:K×T5×T2}(h:x∈storedH xs k a v):(∃y∈xs,y.1=x.1/\y.2.1=x.2.1)\/(x.1=k/\x.2.1=a):=by
 unfold storedH at h;split at h
 ·obtain⟨y,hy,rfl⟩:=List.mem_map.mp h;refine .inl ⟨y,hy,?_⟩;unfold putAt;split<;>exact⟨rfl,rfl⟩
 ·rcases List.mem_append.mp h with z|z
  ·exact .inl ⟨x,z,rfl,rfl⟩
  ·rw[RX]at z;subst z;exact .inr ⟨rfl,rfl⟩
theorem DI.put{h h':Uc}{xs:List (K×T5×T2)}{k:K}{a:T5}{v:T2}(x:DI knd h0 d h xs)(hk:∀h,Keeps h0 h->knd.is h k a)(dd:h'.DictOfH knd d (storedH xs k a v)):DI knd h0 d h' (storedH xs k a v):=by
 obtain⟨o,es,ep,h1,h2,h3,h4,_,h5⟩:=dd;refine⟨⟨o,es,ep,h1,h2,h3,h4,h5⟩,λy hy g kg=>?_⟩;rcases mem_storedH hy with⟨z,hz,e1,e2⟩|⟨e1,e2⟩
 ·rw[<-e1,<-e2];exact x.2 z hz g kg
 ·rw[e1,e2];exact hk g kg
theorem wg(xs:List (K×T5×T2))(k:K)(a:T5)(v:T2):(storedH xs k a v).length<=xs.length+1:=by
 unfold storedH;split
 ·rw[P7];omega
 ·simp
theorem vY:entryFor table "dict.update.loop"=some Builtin.«dict.update.loop»:=entryFor_of_tree (by kernel_rfl)
theorem mR:plainId "dict.update.loop"=true:=by decide +kernel
theorem zB{R:UE->cP}{I:T5}{fp wr:az}{P:Nat->T2->Prop}{St:Nat->Uc->Prop}{L:List (K×T5×T2)}(W:Walks prog w A.in1 I fp wr L.length P St)(hwr:∀b∈wr,h0.get? b=none)(hdn:h0.get? d=none)(hdf:d∉fp)
  (hn:L.length<=Ud) (hu:knd.room A.in1) (hP:∀i v,P i v->∃x t,L[i]?=some x/\v=.ref t/\∀h,Keeps h0 h->h.IsTuple t #[.ref x.2.1,x.2.2]) (hK:∀x∈L,∀h,Keeps h0 h->knd.is h x.1 x.2.1) (res:T2):
  ∀(m i:Nat)(s:T8)(xs:List (K×T5×T2))(j:Int)(u:Tok),i+m=L.length->St i s.heap->Keeps h0 s.heap->DI knd h0 d s.heap xs->xs.length<=i->
  (∀h' tk,Keeps h0 h'->DI knd h0 d h' ((L.drop i).foldl (λxs x=>storedH xs x.1 x.2.1 x.2.2) xs)->R (.ok (.ret res)) {s with heap:=h',toks:=tk})->
  UG (model prog w) A (.builtin "dict.update.loop" ⟨[.ref d,.ref I,.int j u,res],[]⟩) R s:=by
 have hdw:d∉wr:=λh=>hdf (W.sub _ h);intro m
 induction m with
 |zero=>
  intro i s xs j u hi st kp di hl hR;have hin:i=L.length:=by omega
  subst hin;refine Vz vY ?_;rw[Around.under_plainId mR _];show Ul _ A.in1 (pyNext (.ref I) >>= _) _ _ s;refine Uu (W.done s _ _ st λh' tk hk=>?_);refine Uu (Ut (Ut ?_))
  have:=hR h' tk (λb o q=>hk b o (λz=>by have:=hwr b z;rw[q]at this;cases this) (kp b o q)) (by
   rw[Rg,List.foldl_nil];exact di.stay λo q=>hk d o hdw q)
  exact this
 |succ m ih=>
  intro i s xs j u hi st kp di hl hR;refine Vz vY ?_;rw[Around.under_plainId mR _];show Ul _ A.in1 (pyNext (.ref I) >>= _) _ _ s;refine Uu (W.item i s _ _ ‹0› st λv h' tk hv st' hk=>?_);obtain⟨x,t,hx,rfl,ht⟩:=hP i v hv;have kp':Keeps h0 h':=λb o q=>hk b o (λz=>by have:=hwr b z;rw[q]at this;cases this) (kp b o q);obtain⟨o,ho,hc,n,hd⟩:=ht h' kp';have xm:x∈L:=Qi hx;refine Uu (U0 (Uu (VA ?_)));unfold Builtin.Dict.pairItems;refine Uu (U3 (T:="tuple") ⟨o,ho,hc⟩ ?_);rw[if_pos (by decide)];refine Uu (Vc ho hd (Ut ?_));show Ul _ _ (holding [.ref x.2.1,x.2.2] (dictSet d (.ref x.2.1) x.2.2)) _ _ _;have di':DI knd h0 d h' xs:=di.stay λo q=>hk d o hdw q;refine U0 (wpAny_dictSet_heap (s:={s with heap:=h',toks:=tk}) (hsz:=by omega) hu (hK x xm h' kp') (di'.dict kp') λh2 dd sb=>?_);have kp2:Keeps h0 h2:=λb o q=>(sb.2 b (λz=>by rw[z,hdn]at q;cases q)).trans (kp' b o q);refine Ut ⟨VC mR _,?_⟩;refine ih (i+1) _ (storedH xs x.1 x.2.1 x.2.2) (j+1) 0 ‹0› (W.frame _ _ _ st' λb hb o q=>(sb.2 b (λz=>hdf (by rw[<-z];exact hb))).trans q) kp2 (di'.put (hK x xm) dd) (by have:=wg xs x.1 x.2.1 x.2.2;omega) λh3 tk3 kp3 di3=>?_;refine hR h3 tk3 kp3 ?_;have e:L.drop i=x::L.drop (i+1):=by
   have hil:i<L.length:=(by omega);rw[Rb hil];rw[QO hil]at hx;rw[Option.some.inj hx]
  rw[e,RB];exact di3
theorem pZ{s:T8}{Q:bh}{l:T5}{o:Obj}{items:dX}{n:Nat}{L:List (K×T5×T2)}(ho:s.heap.get? l=some o)(hc:o.cls=.type "list")(hd:o.data=.seq items n)(hdd:o.dict=none)(hh:A.handled=none)(hu:knd.room A.in1.in1)
  (hl:items.size=L.length) (hn:L.length<=Ud) (hP:∀(i:Nat) v,items[i]?=some v->∃x t,L[i]?=some x/\v=.ref t/\s.heap.IsTuple t #[.ref x.2.1,x.2.2]) (hK:∀x∈L,∀h,Keeps s.heap h->knd.is h x.1 x.2.1)
  (hQ:∀h' tk,Keeps s.heap h'->DI knd s.heap s.heap.objs.size h' (L.foldl (λxs x=>storedH xs x.1 x.2.1 x.2.2) [])->Q (.ref s.heap.objs.size) {s with heap:=h',toks:=tk}):
  Ul (model prog w) A (call (.type "dict") [.ref l]) Q E s:=by
 refine callType_codes (Q₁:=λobj s₁=>obj=.ref s.heap.objs.size/\s₁={s with heap:=s.heap.push {cls:=.type "dict",data:=.dict #[]}}) F.kt_called_dict (F.kt_typeCall_dict_1 _) F.entry_dict_init (kt_code_dict_new _ ⟨rfl,rfl⟩) ?_;rintro obj s₁ ⟨rfl,rfl⟩;have hnew:(s.heap.push {cls:=.type "dict",data:=.dict #[]}).DictOfH knd s.heap.objs.size []:=Heap.DictOfH.new s.heap;have hlt:=Tj ho;have hl1:(s.heap.push {cls:=.type "dict",data:=.dict #[]}).get? l=some o:=To _ ho;refine⟨hnew.typeIs,F.args_dict_init_2 _ _,?_⟩;unfold Builtin.«dict.__init__»;refine Uu ?_;unfold Builtin.Dict.selfAndRest;refine Uu (VE hnew.typeIs ?_);show Ul _ _ (pure (s.heap.objs.size,[Value.ref l])) _ _ _;refine Ut ?_;show Ul _ _ (Builtin.Dict.updateFrom "dict.__init__" s.heap.objs.size (.ref l) [] .none) _ _ _;unfold Builtin.Dict.updateFrom;refine Uu (U3 (T:="list") ⟨o,hl1,hc⟩ ?_);rw[if_pos (by decide)];refine Uu (FJ hl1 hc hd hdd hh λh1 tk1 k1=>?_);rw[if_pos (show(none:Option T2).isNone=true from rfl)];refine Uu (U9 ?_);have hd1:h1.get? s.heap.objs.size=some {cls:=.type "dict",data:=.dict #[]}:=k1 _ _ (Tp _ rfl);have hl2:h1.IsList l items:=⟨o,k1 _ _ hl1,hc,n,hd⟩
 have dlt:=Tj hd1;refine Uu (Uv (s:={s with heap:=h1,toks:=tk1}) hl2 ?_);refine Ut ⟨VC mR _,?_⟩;have W:=Walks.list (prog:=prog) (w:=w) (A:=A.in1.in1) hh h1.objs.size l (PC (Qx hlt dlt)) items;rw[hl]at W;refine zB (A:=A.in1) (knd:=knd) (h0:=s.heap) (d:=s.heap.objs.size) W (λb hb=>?_) (Tl (PX _)) (λz=>?_) hn hu (λi v hv=>?_) hK .none L.length 0 _ [] 0 0 ‹0› ?_ (λb o q=>?_) ⟨⟨_,#[],0,To _ hd1,⟨rfl,rfl,rfl⟩,rfl,rfl,Qy⟩,λx hx=>by simp at hx⟩ (PX _) λh' tk kp di=>?_
 ·rw[RX]at hb;subst hb;exact Tl (PF dlt)
 ·simp only[Ri,Rj,or_false]at z;rcases z with z|z
  ·exact absurd z (PC dlt)
  ·exact absurd z.symm (PC hlt)
 ·obtain⟨x,t,e1,e2,e3⟩:=hP i v hv;obtain⟨ob,q1,q2⟩:=e3;exact⟨x,t,e1,e2,λh kh=>⟨ob,kh _ _ q1,q2⟩⟩
 ·exact⟨⟨_,Tp _ rfl,rfl,rfl⟩,let ⟨ob,q1,q2⟩:=hl2;⟨ob,To _ q1,q2⟩⟩
 ·exact To _ (k1 _ _ (To _ q))
 ·exact⟨rfl,hQ h' tk kp di⟩
end
noncomputable def wz:D->Option (List Key×D)
 |.tup [k,v]=>(fK k).map λq=>(q,v)
 |_=>none
noncomputable def iJ:List D->Option (cx)
 |[]=>some []
 |d::r=>(wz d).bind λp=>(iJ r).map (p::·)
noncomputable def za(ps:cx):cx:=ps.foldl (λal p=>gG al p.1 p.2) []
noncomputable def jZ:List D->bG
 |[.lst xs]=>(iJ xs).bind λps=>if small ps.length then some (bS (za ps))else none
 |_=>none
theorem DV{d:D}{p:List Key×D}(h:wz d=some p):d=.tup [.tup (p.1.map bg),p.2]:=by
 unfold wz at h;split at h
 ·rename_i k v;cases e:fK k with
  |none=>rw[e]at h;cases h
  |some q=>rw[e]at h;cases h;rw[jJ e]
 ·cases h
theorem rJ:∀{xs:List D}{ps:cx},iJ xs=some ps->xs=ps.map λp=>.tup [.tup (p.1.map bg),p.2]
 |[],_,h=>by cases h;rfl
 |d::r,ps,h=>by
  unfold iJ at h;cases e1:wz d with
  |none=>rw[e1]at h;cases h
  |some p=>
   rw[e1]at h;cases e2:iJ r with
   |none=>rw[e2]at h;cases h
   |some ps'=>rw[e2]at h;cases h;rw[DV e1,rJ e2];rfl
section
variable{X:Cx}
theorem sF{pins:bf}{σ:St}{H:Hp}{s:T8}{O:az}(I:L2.Inv X pins σ H s):∀{ps:cx}{ws:aJ}{its:aU},aK X.K (hid H O) (ps.map λp=>.tup [.tup (p.1.map bg),p.2]) ws->Vals ws its->
  ∃(L:List (List Key×T5×T2))(ks:List (List Key×V)),its.length=L.length/\(∀(i:Nat)(v:T2),its[i]?=some v->∃(x:List Key×T5×T2)(t:T5),L[i]?=some x/\v=.ref t/\s.heap.IsTuple t #[.ref x.2.1,x.2.2])/\KT H ks L/\ks.map (·.1)=ps.map (·.1)/\aK X.K (hid H O) (ps.map (·.2)) (ks.map (·.2))
 |[],ws,its,h,r=>by
  rw[Qq,cn]at h;subst h;cases r;exact⟨[],[],rfl,(λi v e=>by simp at e),.nil,rfl,cn.mpr rfl⟩
 |p::ps,ws,its,h,r=>by
  rw[P6,aX]at h;obtain⟨w,ws',rfl,h1,h2⟩:=h;cases r with
  |@cons _ u _ us ru rr=>
   obtain⟨L,ks,l1,l2,l3,l4,l5⟩:=sF I h2 rr;obtain⟨t,vs,rfl,t1,t2⟩:=bY.mp h1;obtain⟨v1,v2,rfl,d1,d2⟩:=t2.two;obtain⟨a,ks1,rfl,a1,a2⟩:=bY.mp d1;rw[fZ a2]at a1;obtain⟨its',r',⟨o,q1,q2⟩,_⟩:=I.tuple (bJ (K:=X.K) (aj H O) t1);obtain⟨x1,x2,rfl,rx1,rx2⟩:=vals2 r';cases rx1;obtain rfl:u=Value.ref t:=ru;refine⟨(p.1,a,x2)::L,(p.1,v2)::ks,by rw[P5,P5,l1],λi v e=>?_,.cons ⟨rfl,(aj H O) _ _ a1,rx2⟩ l3,by rw[P6,P6,l4],aX.mpr ⟨v2,_,rfl,d2,l5⟩⟩;cases i with
   |zero=>
    have e:Value.ref t=v:=(by simpa using e);subst e;exact⟨_,t,rfl,rfl,o,q1,q2⟩
   |succ i=>exact l2 i v (by simpa using e)
theorem uZ{K:SH}{H:Hp}{H0:Hp}:∀{ps:cx}{ks:List (List Key×V)}{L:List (List Key×T5×T2)}{al:cx}{kvs:List (List Key×V)}{xs:List (List Key×T5×T2)},KT H ks L->ks.map (·.1)=ps.map (·.1)->aK K H0 (ps.map (·.2)) (ks.map (·.2))->
  KT H kvs xs->kvs.map (·.1)=al.map (·.1)->aK K H0 (al.map (·.2)) (kvs.map (·.2))->
  KT H (ks.foldl (λm p=>putK m p.1 p.2) kvs) (L.foldl (λxs x=>storedH xs x.1 x.2.1 x.2.2) xs)/\(ks.foldl (λm p=>putK m p.1 p.2) kvs).map (·.1)=(ps.foldl (λal p=>gG al p.1 p.2) al).map (·.1)/\
   aK K H0 ((ps.foldl (λal p=>gG al p.1 p.2) al).map (·.2)) ((ks.foldl (λm p=>putK m p.1 p.2) kvs).map (·.2))/\(ks.foldl (λm p=>putK m p.1 p.2) kvs).length<=kvs.length+ks.length
 |[],[],_,al,kvs,xs,.nil,_,_,h1,h2,h3=>⟨h1,h2,h3,by simp⟩
 |p::ps,q::ks,_,al,kvs,xs,.cons (b:=x) hq hr,e,d,h1,h2,h3=>by
  rw[P6,P6]at e;injection e with e1 e2;rw[P6,P6,aX]at d;obtain⟨v,vs,d0,d1,d2⟩:=d;injection d0 with d0 d0';subst d0 d0';obtain⟨y1,y2,y3⟩:=hq;have z1:=KT.put h1 q.1 y2 y3;rw[y1]at z1;have z2:=vi h2 q.1 q.2 p.2;have z3:=zj (k:=q.1) d1 h2 h3
  have:=uZ (kvs:=putK kvs q.1 q.2) (al:=gG al q.1 p.2) (xs:=storedH xs x.1 x.2.1 x.2.2) hr e2 d2 (by rw[y1];exact z1) z2 z3
  rw[RB,RB,RB,<-e1];refine⟨this.1,this.2.1,this.2.2.1,PD this.2.2.2 ?_⟩
  have:=iD kvs q.1 q.2
  rw[P5];omega
 |[],_::_,_,_,_,_,_,e,_,_,_,_=>by cases e
 |_::_,[],_,_,_,_,_,e,_,_,_,_=>by cases e
theorem xS(hc:X.calm=true)(hu:X.A.units+64<UL):dW X (.type "dict") (xO X.K jZ):=by
 rintro pins s σ H xs us Q I r ⟨O,ds,d,hO,hd,hg,q⟩;unfold jZ at hg;split at hg
 ·rename_i ys;cases hp:iJ ys with
  |none=>rw[hp]at hg;cases hg
  |some ps=>
   rw[hp]at hg;obtain⟨sm,rfl⟩:=bD (show(if small ps.length then some (bS (za ps))else none)=some d from hg);obtain⟨v,rfl,h1⟩:=hd.one;obtain⟨p,ws,rfl,g1,g2⟩:=bX.mp h1;obtain⟨u,rfl,ru⟩:=vals1 r;cases ru;obtain⟨its,rv,⟨o,n,ho,hcl,hd',hdd⟩,hz⟩:=I.list ((aj H O).seq g1);rw[rJ hp]at g2;obtain⟨L,ks,l1,l2,l3,l4,l5⟩:=sF I g2 rv;have kl:ks.length=ps.length:=(by have:=congrArg List.length l4;simpa using this);have ll:ks.length=L.length:=Paired.length l3;have key:∀{ks:List (List Key×V)}{L:List (List Key×T5×T2)},KT H ks L->∀x∈L,∀h,Keeps s.heap h->(tupleKind (bN X.prog X.w)).is h x.1 x.2.1:=λ{ks L} kt=>by
    induction kt with
    |nil=>intro x hx;cases hx
    |cons hq _ ih=>
     intro x hx h kh;rcases List.mem_cons.mp hx with z|z
     ·subst z;obtain⟨e1,e2,_⟩:=hq;rw[e1]at e2;obtain⟨o,xs,n,k1,k2⟩:=lW I.hok e2;exact⟨o,xs,n,kh _ _ k1,k2⟩
     ·exact ih x z h kh
   obtain⟨f1,f2,f3,f4⟩:=uZ (K:=X.K) (H:=H) (H0:=hid H O) (al:=[]) (kvs:=[]) (xs:=[]) l3 l4 l5 .nil rfl (cn.mpr rfl);have hsz:ps.length<=100000:=of_decide_eq_true sm;have sl:Ud=16777216:=UD;refine pZ (knd:=tupleKind (bN X.prog X.w)) (L:=L) ho hcl hdd hd' (I.ok.hd hc) (U7 (by rw[in1_units];omega)) (by simpa using l1) ‹0› (λi v e=>l2 i v (by simpa using e)) (key l3) λh' tk kp di=>?_;have hf:=I.hok.fresh (PX s.heap.objs.size);obtain⟨⟨od,es,ep,k1,k2,k3,k4,k5⟩,_⟩:=di;have kt':KT (upd H s.heap.objs.size (.dT (ks.foldl (λm p=>putK m p.1 p.2) []))) (ks.foldl (λm p=>putK m p.1 p.2) []) (L.foldl (λxs x=>storedH xs x.1 x.2.1 x.2.2) []):=KT.keeps f1 λb ys eb=>by rw[ao (λz=>by rw[z,hf]at eb;cases eb)];exact eb
   refine⟨.ref s.heap.objs.size,_,I.laid (t':=tk) kp (PX _) (show b9 X.prog X.w _ h' _ (.dT (ks.foldl (λm p=>putK m p.1 p.2) []))from⟨by simp only[Qv]at f4;omega,beq_eq_false_iff_ne.mpr (Ne.symm (PC I.big)),_,kt',od,es,ep,k1,k2,k3,k4,k5⟩),rfl,?_⟩;refine q _ _ (bj hf _) ?_;have pO:=hO.not hf;refine L3.mpr ⟨s.heap.objs.size,_,rfl,f3.mono (ug hf),.inr (.inl ⟨_,by rw[gJ pO];exact ay,tX f2,rfl⟩)⟩
 ·cases hg
end
noncomputable def Hf(H:Hp)(a:T5)(y:V)(r:Option V):Prop:=wL H a y r\/(H a=some (.dK [])/\r=none/\∃b k,y=.ref b/\H b=some (.tup (List.map kV k)))
noncomputable def jS(al:cx)(q:cX):bG:=(al.find? λp=>decide (p.1=q)).map (·.2)
noncomputable def sJ(ks ds:List D)(k x:D):bG:=(iM ks ds).bind λal=>(fK k).bind λq=>some ((jS al q).getD x)
noncomputable def nU(fo fk fx:FX):FX:=λρ=>(fo ρ).bind λdd=>match dd with
 |.dct ks ds=>(fk ρ).bind λk=>(fx ρ).bind λx=>rO (sJ ks ds k x)
 |_=>un
theorem p4{K:SH}{H:Hp}{v:V}{al:cx}(h:cu K H (bS al) v):
  ∃a,v=.ref a/\((∃kvs:List (List Key×V),H a=some (.dT kvs)/\kvs.map (·.1)=al.map (·.1)/\aK K H (al.map (·.2)) (kvs.map (·.2)))\/(H a=some (.dK [])/\al=[])):=by
 obtain⟨a,vs,e0,h2,h3⟩:=L3.mp h;refine⟨a,e0,?_⟩;rcases h3 with⟨kvs,e,e1,e2⟩|⟨kvs,e,e1,e2⟩|⟨kvs,o,e,e1,e2⟩
 rotate_left 2
 ·cases al with
  |nil=>cases e1
  |cons _ _=>injection e1 with e1 _;cases e1
 ·cases kvs with
  |nil=>exact .inr ⟨e,by simpa using e1⟩
  |cons p r=>
   cases al with
   |nil=>cases e1
   |cons q r'=>
    have e1:D.tup (q.1.map bg)::encK r'=bg p.1::r.map (λp=>bg p.1):=e1;injection e1 with e1 _;rcases p with⟨k,v⟩
    cases k<;>cases e1
 ·refine .inl ⟨kvs,e,?_,by rw[<-e2];exact h2⟩;exact(jV (ks:=kvs.map (·.1)) (by rw[RN];exact e1)).symm
theorem qK{K:SH}{H:Hp}(q:cX):∀{kvs:List (List Key×V)}{al:cx},kvs.map (·.1)=al.map (·.1)->aK K H (al.map (·.2)) (kvs.map (·.2))->(gF kvs q=none/\jS al q=none)\/∃v d,gF kvs q=some v/\jS al q=some d/\cu K H d v
 |[],[],_,_=>.inl ⟨rfl,rfl⟩
 |p::r,a::al,e,h=>by
  rw[P6,P6]at e;injection e with e1 e2;rw[P6,P6,aX]at h;obtain⟨v,ws,h0,h1,h2⟩:=h;injection h0 with h0 h0';subst h0 h0';by_cases z:p.1=q
  ·refine .inr ⟨p.2,a.2,iV z,?_,h1⟩;unfold jS;rw[R4 (by rw[<-e1];simpa using z)];rfl
  ·have ih:=qK q e2 h2;have g:jS (a::al) q=jS al q:=by
    unfold jS;rw[R5 (by rw[<-e1];simpa using z)]
   rw[ig z,g];exact ih
 |[],_::_,e,_=>by cases e
 |_::_,[],e,_=>by cases e
theorem wZ{ks ds:List D}{k x d:D}(h:sJ ks ds k x=some d):∃al q,ks=encK al/\ds=al.map (·.2)/\k=.tup (q.map bg)/\d=(jS al q).getD x:=by
 unfold sJ at h;cases e1:iM ks ds with
 |none=>rw[e1]at h;cases h
 |some al=>
  rw[e1]at h;cases e2:fK k with
  |none=>rw[e2]at h;cases h
  |some q=>
   rw[e2]at h;cases h;obtain⟨h1,h2⟩:=gh e1;exact⟨al,q,h1,h2,jJ e2,rfl⟩
section
variable{X:Cx}{o e f:T6}{apos cpos:Pos}
theorem GB{pins:bf}{σ:St}{H:Hp}{s:T8}{a:T5}{y d:V}{u r:T2}{w:Option V}{A:Uj}{E:bh}{Q:bh}(hu:A.units+1<UL)(I:L2.Inv X pins σ H s)(g:Hf H a y w)(ry:RelV y u)(rd:RelV d r)(h:∀w' s',L2.Inv X pins σ H s'->RelV (w.getD d) w'->Q w' s'):
  Ul (model X.prog X.w) A (call (.builtin "dict.get") [.ref a,u,r]) Q E s:=by
 rcases g with g|⟨h1,rfl,b,k,rfl,hb⟩
 ·exact DY hu I g ry rd h
 ·have ne:b≠a:=λz=>by rw[z,h1]at hb;cases hb
  refine DY (o:=gF [] k) hu (Bc I h1) (wL.t ay (by rw[ao ne];exact hb)) ry rd λw' s' I4 rw'=>h w' s' ?_ rw';have I5:=JP I4 ay;rw[vE h1]at I5;exact I5
noncomputable def Gg(td ty tx:TE):TE:=λσ H Q=>td σ H λx H1=>∃a,x=.ref a/\N7 H1 a/\ty σ H1 λy H2=>tx σ H2 λz H3=>∃o,Hf H3 a y o/\Q (o.getD z) H3
theorem A9{td ty tx:TE}(hu:X.A.units+1<UL)(ho:PE X o td)(he:PE X e ty)(hf:PE X f tx)(m:M2 X o "get" apos e f cpos):PE X (.Call (.Attribute o "get" apos) [e,f] [] cpos) (Gg td ty tx):=by
 intro pins s σ H Q I h;refine wpAny_Call_method m.base m.few m.line PySem.F.plainAttrs_dict TY PySem.F.type_dict_get (cN (ho pins s σ H _ I h) λu s1 ⟨x,H1,I1,rx,a,ex,d,q1⟩=>?_);subst ex;obtain rfl:u=Value.ref a:=rx;obtain⟨t1,t2,_⟩:=JX I1 d;refine⟨t1,t2,?_⟩;rw[m.trees];refine Calls.callWith_builtin rfl (Calls.evalArgs_plain (Calls.spliced_cons (cN (he pins s1 σ H1 _ I1 q1) λiv s2 ⟨y,H2,I2,ry,q2⟩=>
  Calls.spliced_cons (cN (hf pins s2 σ H2 _ I2 q2) λfv s3 ⟨z,H3,I3,rz,ov,g,q3⟩=>Calls.spliced_nil ?_))))
 exact GB hu I3 g ry rz λw' s4 I4 rw'=>⟨_,H3,I4,rw',q3⟩
end
noncomputable def gU(x y:D):bG:=match y with
 |.dct ks ds=>(oN ks ds x).bind yh
 |_=>none
section
variable{X:Cx}
theorem tI(hu:X.A.units+64<UL):iL X (UA .NotIn) (rD X.K gU):=by
 rintro pins s σ H x y u v Q I rx ry ⟨O,a,b,d,hO,ha,hb,hg,q⟩;cases b with
 |dct ks ds=>
  have hg:(oN ks ds a).bind yh=some d:=hg;cases e0:oN ks ds a with
  |none=>rw[e0]at hg;cases hg
  |some d0=>
  rw[e0]at hg;obtain⟨al,qk,f1,f2,f3,f4⟩:=wD e0;subst f1 f2 f3 f4;cases hg;obtain⟨p,ey,hh⟩:=p4 hb;obtain⟨c,ws,ex,g1,g2⟩:=bY.mp ha;rw[fZ g2]at g1;have g1':=(aj H O) _ _ g1;subst ex ey;cases ry;rcases hh with⟨kvs,k1,k2,k3⟩|⟨k1,rfl⟩
  ·have hv:=BP k2 qk;rw[RO]at hv;refine yL ‹0› I (wL.t ((aj H O) _ _ k1) g1') rx λs3 I3=>⟨.bl (!(gF kvs qk).isSome),H,I3,rfl,q _ H (aR.refl H) (ju.mpr ?_)⟩
   rw[hv];rfl
  ·have k1':=(aj H O) _ _ k1;have ne:c≠p:=λz=>by rw[z,k1']at g1';cases g1'
   refine yL (o:=gF [] qk) ‹0› (Bc I k1') (wL.t ay (by rw[ao ne];exact g1')) rx λs3 I4=>⟨.bl true,H,?_,rfl,q _ H (aR.refl H) (ju.mpr rfl)⟩
   have I5:=JP I4 ay;rw[vE k1']at I5;exact I5
 |_=>cases hg
end
end TG
namespace TG
open PySem PySem.Spec L2
variable[aB]
end TG
namespace TG
open PySem PySem.Spec L2
variable[aB]
end TG
namespace TG
open PySem PySem.Spec L2
variable[aB]
end TG
namespace TG
open PySem PySem.Spec PySem.Calls L2
section
variable{prog:Ua}{w:T9}{K:Type}[DecidableEq K]{knd:HeapKind prog w K}{A:Uj}{E:bh}{s:T8}{d a:T5}{k:K}{xs:List (K×T5×T2)}
theorem vz{v:T2}{Q:bh}(hu:knd.room A)(hkey:knd.is s.heap k a)(hm:s.heap.DictOfH knd d xs)(hsz:xs.length<=Ud)
  (h1:∀p,atKey xs k=some p->Q p.2 {s with toks:=s.toks+knd.draws k})
  (h2:atKey xs k=none->∀h',h'.DictOfH knd d (storedH xs k a v)->Tn d s.heap h'->Q v {s with heap:=h',toks:=s.toks+knd.draws k}):
  Ul (model prog w) A (dictSetDefault d (.ref a) v) Q E s:=by
 obtain⟨o,es,ep,ho,hc,hd,he,his,hn⟩:=hm;unfold dictSetDefault
 try with_reducible refine U0 ?_
 refine Uu (knd.pyHash hu hkey (Uu (wpAny_dictFind_heap (s:={s with toks:=s.toks+knd.draws k}) hu hkey ho hd he his hn (λhno=>?_) λj p hj=>?_)))
 ·have hnone:=atKey_none_of_get hno;refine Uu (U9 (Uu (wpAny_updateDictKeys (hz:=by have e:=size_of_entries he;omega) (s:={s with toks:=s.toks+knd.draws k}) ho hd (Ut (h2 hnone _ ⟨_,_,ep+1,Ts _ ho (Obj.isFreed_of_dict (Obj.data_mapDictKeys hd _)),hc.mapDictKeys _,Obj.data_mapDictKeys hd _,?_,?_,?_⟩ (Heap.SameBut.update ..))))))
  ·rw[storedH_new hnone];simp[he,entryOfKey]
  ·rw[storedH_new hnone];intro x hx;rcases List.mem_append.mp hx with hx|hx
   ·exact knd.keeps (his x hx) ho hd (Heap.SameBut.update ..)
   ·rw[RX]at hx;subst hx;exact knd.keeps hkey ho hd (Heap.SameBut.update ..)
  ·rw[storedH_new hnone,QV,Rv];refine⟨hn,by simp,λx hx y hy=>?_⟩;simp only[P6,Qq,RX]at hy;subst hy;exact λe=>not_mem_keys_of_get hno (e ▸ hx)
 ·refine Uu (VF (s:={s with toks:=s.toks+knd.draws k}) ho hd ?_);rw[entry_at he j,hj];exact Uu (U9 (Ut (h1 p (atKey_of_get hn hj))))
theorem vI{v:T2}{Q:bh}(hu:knd.room A.in1)(hkey:knd.is s.heap k a)(hm:s.heap.DictOfH knd d xs)(hsm:(d==sysModules)=false)(hsz:xs.length<=Ud)
  (h1:∀p,atKey xs k=some p->Q p.2 {s with toks:=s.toks+knd.draws k})
  (h2:atKey xs k=none->∀h',h'.DictOfH knd d (storedH xs k a v)->Tn d s.heap h'->Q v {s with heap:=h',toks:=s.toks+knd.draws k}):
  Ul (model prog w) A (call (.builtin "dict.setdefault") [.ref d,.ref a,v]) Q E s:=by
 refine U2 PySem.F.slot_dict_setdefault hm.typeIs PySem.F.entry_dict_setdefault ?_ (PySem.F.args_dict_setdefault_3 _ _ _);unfold Builtin.«dict.setdefault»;refine Uu ?_;unfold Builtin.Dict.keyAndDefault;refine Uu (VE hm.typeIs ?_);show Ul _ _ (pure (d,Value.ref a,some v)) _ _ s;refine Ut ?_;show Ul _ _ (if(d==sysModules)=true then _ else(dictSetDefault d (.ref a) v >>= _)) _ _ s;rw[if_neg (by rw[hsm];exact P4)];exact Uu (vz hu hkey hm hsz (λp hp=>Ut ⟨_,rfl,h1 p hp⟩) λhn h' hm' hs'=>Ut ⟨_,rfl,h2 hn h' hm' hs'⟩)
end
theorem AJ{o:Option V}{w:T2}(h:oR o (some w)):∃v,o=some v/\RelV v w:=by
 cases o with
 |none=>exact h.elim
 |some v=>exact⟨v,rfl,h⟩
theorem Av{o:Option V}(h:oR o none):o=none:=by
 cases o with
 |none=>rfl
 |some v=>exact h.elim
section
variable{X:Cx}{pins:bf}{σ:St}{H:Hp}{s:T8}{a b:T5}{v:V}{r:T2}{kvs:List (List Key×V)}{k:cX}{A:Uj}{E:bh}
theorem vB{Q:bh}(hu:A.units+1<UL)(I:Inv X pins σ H s)(e:H a=some (.dT kvs))(eb:H b=some (.tup (k.map kV)))(hl:kvs.length<Ud)(rv:RelV v r)
  (h1:∀v' w' s',gF kvs k=some v'->Inv X pins σ H s'->RelV v' w'->Q w' s') (h2:gF kvs k=none->∀s',Inv X pins σ (upd H a (.dT (putK kvs k v))) s'->Q r s'):
  Ul (model X.prog X.w) A (call (.builtin "dict.setdefault") [.ref a,.ref b,r]) Q E s:=by
 obtain⟨z,hd,xs,rel,dd⟩:=G2 I.hok e;have hz:xs.length<=Ud:=by rw[<-Paired.length rel];exact z
 have hl2:(putK kvs k v).length<=Ud:=by have:=iD kvs k v;omega
 have q:=rel.val k;refine vI (U7 hu) (lW I.hok eb) dd hd hz (λp hp=>?_) λhn h' dd' hs=>?_
 ·rw[hp]at q;obtain⟨v',ev,rv'⟩:=AJ q;exact h1 v' _ _ ev (I.tok _) rv'
 ·rw[hn]at q;refine h2 (Av q) _ ?_;obtain⟨q,es,ep,hq,g2,g3,g4,_,g5⟩:=dd';refine kC I (by rw[e];exact True.intro) hs ⟨q,hq⟩ ⟨hl2,hd,_,(rel.put k eb rv).keeps λc ys ec=>?_,q,es,ep,hq,g2,g3,g4,g5⟩;rw[ao (CO ec e (λz=>nomatch z))];exact ec
end
variable[aB]
noncomputable def KQ:V->aJ->Hp->VK->Prop:=λx vs H Q=>∃a b k kvs v,x=.ref a/\vs=[.ref b,v]/\H b=some (.tup (k.map kV))/\(H a=some (.dT kvs)\/(H a=some (.dK [])/\kvs=[]))/\kvs.length<Ud/\(∀v',gF kvs k=some v'->Q v' H)/\(gF kvs k=none->Q v (upd H a (.dT (putK kvs k v))))
theorem FR{X:Cx}(hu:X.A.units+64<UL):LV X "dict.setdefault" KQ:=by
 intro pins s σ H x vs v us Q I rx rv h;obtain⟨a,b,k,kvs,v',rfl,rfl,hb,ha,hl,h1,h2⟩:=h;cases rx;obtain⟨u1,u,rfl,r1,ru⟩:=rv.two;obtain rfl:u1=Value.ref b:=r1;rcases ha with ha|⟨ha,rfl⟩
 ·exact vB ‹0› I ha hb hl ru (λv1 w1 s1 e I1 r=>⟨v1,H,I1,r,h1 v1 e⟩) λe s1 I1=>⟨v',_,I1,ru,h2 e⟩
 ·have ne:b≠a:=λz=>by rw[z,ha]at hb;cases hb
  refine vB ‹0› (Bc I ha) ay (by rw[ao ne];exact hb) hl ru (λv1 w1 s1 e=>by cases e) λe s1 I1=>⟨v',_,?_,ru,h2 e⟩
  rw[qG]at I1;exact I1
end TG
namespace TG
open PySem PySem.Spec L2
variable[aB]
theorem cY.setN{K:SH}{Hb:Hp}{Ob O O':az}{H H':Hp}{ρ:aq}{σ:St}(S:cY K Hb Ob O H ρ σ){i:Nat}{d d':D}(hi:ρ[i]?=some (some (.nest d)))(sub:∀b∈O,b∈O')(s:aR (hid H O) (hid H' O'))(hb:Base Hb Ob H' O')(all:dN H' O')
  (keep:∀(j:Nat) xs b,ρ[j]?=some (some (.own xs))->σ[j]?=some (some (.ref b))->H b=H' b) (new:y8 K Hb Ob O' H' (ρ.set i (some (.nest d'))) σ i d'):cY K Hb Ob O' H' (ρ.set i (some (.nest d'))) σ:=by
 have own:∀(j:Nat) xs,(ρ.set i (some (.nest d')))[j]?=some (some (.own xs))->ρ[j]?=some (some (.own xs)):=λj xs e=>by
  rcases aI e with⟨_,q⟩|⟨_,q⟩
  ·cases q
  ·exact q
 refine⟨⟨λj d1 e=>?_,λj xs e=>?_,λj l xs ys a e1 e2 e3 e4=>S.env.one j l xs ys a (own j xs e1) (own l ys e2) e3 e4,all⟩,hb,λj xs a e1 e2=>S.mine j xs a (own j xs e1) e2,λj dn e=>?_⟩
 ·rcases aI e with⟨_,q⟩|⟨_,q⟩
  ·cases q
  ·obtain⟨v,q1,q2⟩:=S.env.val j d1 q;exact⟨v,q1,q2.mono s⟩
 ·obtain⟨a,q1,q2,q3⟩:=S.env.own j xs (own j xs e);exact⟨a,q1,sub a q2,q3.mono (keep j xs a (own j xs e) q1) s⟩
 ·rcases aI e with⟨hj,q⟩|⟨ne,q⟩
  ·cases q;rw[hj];exact new
  ·obtain⟨_,_,_,_,_,_,one⟩:=S.nst i d hi;exact absurd (one j dn q) ne
noncomputable def EF:aq->Bool
 |[]=>true
 |some (.nest _)::_=>false
 |_::ρ=>EF ρ
theorem jE:∀{ρ:aq},EF ρ=true->∀(j:Nat) d,ρ[j]?≠some (some (.nest d))
 |[],_,j,d,e=>by simp at e
 |none::ρ,h,j,d,e=>by
  cases j with
  |zero=>simp at e
  |succ j=>exact jE (ρ:=ρ) h j d (by simpa using e)
 |some (.val _)::ρ,h,j,d,e=>by
  cases j with
  |zero=>simp at e
  |succ j=>exact jE (ρ:=ρ) h j d (by simpa using e)
 |some (.own _)::ρ,h,j,d,e=>by
  cases j with
  |zero=>simp at e
  |succ j=>exact jE (ρ:=ρ) h j d (by simpa using e)
 |some (.nest _)::ρ,h,j,d,e=>by cases h
theorem cY.setNewN{K:SH}{Hb:Hp}{Ob O:az}{H H':Hp}{ρ:aq}{σ:St}(E:cY K Hb Ob O H ρ σ){i:Nat}{p:T5}(hi:i<σ.length)(sm:aR H H')(hp:H p=none)(m:∃o,H' p=some o/\oV o)(hn:EF ρ=true)(new:cD K H' (p::O) p (.dct [] [])):
  cY K Hb Ob (p::O) H' (ρ.set i (some (.nest (.dct [] [])))) (σ.set i (some (.ref p))):=by
 have T:=E.setNew hi sm hp m new;have key:∀(j:Nat)(x:S),(ρ.set i (some (.nest (.dct [] []))))[j]?=some (some x)->(j=i/\x=.nest (.dct [] []))\/(j≠i/\(ρ.set i (some (.own (.dct [] []))))[j]?=some (some x)):=λj x e=>by
  rcases aI e with⟨hj,q⟩|⟨ne,q⟩
  ·cases q;exact .inl ⟨hj,rfl⟩
  ·exact .inr ⟨ne,by rw[PQ (Ne.symm ne)];exact q⟩
 refine⟨⟨λj d e=>?_,λj xs e=>?_,λj l xs ys a e1 e2 e3 e4=>?_,T.env.all⟩,T.base,λj xs a e1 e2=>?_,λj dn e=>?_⟩
 ·rcases key j _ e with⟨_,q⟩|⟨_,q⟩
  ·cases q
  ·exact T.env.val j d q
 ·rcases key j _ e with⟨_,q⟩|⟨_,q⟩
  ·cases q
  ·exact T.env.own j xs q
 ·rcases key j _ e1 with⟨_,q⟩|⟨_,q1⟩
  ·cases q
  ·rcases key l _ e2 with⟨_,q⟩|⟨_,q2⟩
   ·cases q
   ·exact T.env.one j l xs ys a q1 q2 e3 e4
 ·rcases key j _ e1 with⟨_,q⟩|⟨_,q⟩
  ·cases q
  ·exact T.mine j xs a q e2
 ·rcases key j _ e with⟨hj,q⟩|⟨ne,q⟩
  ·cases q;subst hj;refine⟨p,[],PP hi,⟨[],trivial,?_⟩,by simp,λb hb=>?_,λl d' w=>?_⟩
   ·obtain⟨o,vs,h1,h2,h3⟩:=new;rcases h3 with⟨kvs,e1,e2,_⟩|⟨kvs,e1,e2,_⟩
    ·have:kvs=[]:=(by cases kvs with|nil=>rfl|cons _ _=>cases e2);subst this e1;exact .inr (.inr ⟨rfl,rfl,h1⟩)
    ·have:kvs=[]:=(by cases kvs with|nil=>rfl|cons _ _=>cases e2);subst this e1;exact .inr (.inl ⟨[],rfl,h1,rfl⟩)
   ·rw[List.mem_singleton.mp hb];refine⟨PJ,E.base.same.free hp,λz=>E.env.all.not hp (E.base.sub p z),λl d' w z=>?_⟩;rcases key l _ w with⟨_,q⟩|⟨nl,q⟩
    ·cases q
    ·exact nl (T.env.one l j d' (.dct [] []) p q (PP (by
      have:=(List.getElem?_eq_some_iff.mp e).1
      rw[List.length_set]at this;exact this)) z (PP hi))
   ·rcases key l _ w with⟨hl,_⟩|⟨nl,q⟩
    ·exact hl
    ·rw[PQ (Ne.symm nl)]at q;exact absurd q (jE hn l d')
  ·rw[PQ (Ne.symm ne)]at q;exact absurd q (jE hn j dn)
noncomputable def wt(i:Nat):bH:=λk ρ=>if EF ρ then k.nx (ρ.set i (some (.nest (.dct [] []))))else un
theorem jj.den{K:SH}{H:Hp}{O O':az}(s:aR (hid H O) (hid H O')):∀{bs:az}{xs:List D},jj K H O bs xs->(∀b∈bs,b∉O')->aK K (hid H O') xs (bs.map .ref)
 |[],[],_,_=>cn.mpr rfl
 |b::bs,x::xs,h,n=>aX.mpr ⟨_,_,rfl,h.1.den s (n b PJ),jj.den s h.2 λb' hb=>n b' (PL _ hb)⟩
 |[],_::_,h,_=>h.elim
 |_::_,[],h,_=>h.elim
theorem jj.nil{K:SH}{H:Hp}{O:az}{xs:List D}(h:jj K H O [] xs):xs=[]:=by
 cases xs with
 |nil=>rfl
 |cons _ _=>exact h.elim
theorem qN.den{K:SH}{H:Hp}{O O':az}{a:T5}{bs:az}{d:D}(h:qN K H O a bs d)(s:aR (hid H O) (hid H O'))(n:∀b∈a::bs,b∉O'):cu K (hid H O') d (.ref a):=by
 obtain⟨xs,h1,h2⟩:=h;have g:=h1.den s λb hb=>n b (PL _ hb);have na:=n a PJ;rcases h2 with⟨rfl,q⟩|⟨kvs,rfl,q,e⟩|⟨rfl,rfl,q⟩
 ·exact bX.mpr ⟨a,_,rfl,md.of (by rw[gJ na];exact q),g⟩
 ·exact L3.mpr ⟨a,_,rfl,g,.inr (.inl ⟨kvs,by rw[gJ na];exact q,rfl,e.symm⟩)⟩
 ·have:=h1.nil
  subst this;exact L3.mpr ⟨a,_,rfl,g,.inl ⟨[],by rw[gJ na];exact q,rfl,rfl⟩⟩
noncomputable def frzN(i:Nat)(ρ:aq):aq:=match ρ[i]? with
 |some (some (.nest d))=>setV i d ρ
 |_=>ρ
theorem cY.frzN{K:SH}{Hb:Hp}{Ob O:az}{H:Hp}{ρ:aq}{σ:St}(E:cY K Hb Ob O H ρ σ)(i:Nat):∃O',cY K Hb Ob O' H (frzN i ρ) σ:=by
 unfold TG.frzN;split
 ·rename_i d hd;obtain⟨a,bs,h1,h2,h3,h4,h5⟩:=E.nst i d hd;have sub:∀b∈O.filter (λb=>decide (b∉a::bs)),b∈O:=λb hb=>(List.mem_filter.mp hb).1;have s:aR (hid H O) (hid H (O.filter λb=>decide (b∉a::bs))):=fw sub;have na:∀b∈a::bs,b∉O.filter λb=>decide (b∉a::bs):=λb hb z=>(of_decide_eq_true (List.mem_filter.mp z).2) hb;have bk:∀(l:Nat) x,(TG.setV i d ρ)[l]?=some (some x)->(∀d,x≠.val d)->ρ[l]?=some (some x):=λl x e nv=>by
   rcases aI e with⟨_,q⟩|⟨_,q⟩
   ·cases q;exact absurd rfl (nv _)
   ·exact q
  refine⟨O.filter λb=>decide (b∉a::bs),⟨λj d' e=>?_,λj xs e=>?_,λj l xs ys b e1 e2 e3 e4=>E.env.one j l xs ys b (bk j _ e1 (λ_ z=>nomatch z)) (bk l _ e2 (λ_ z=>nomatch z)) e3 e4,⟨E.env.all.1,λb hb=>E.env.all.2 b (sub b hb)⟩⟩,⟨E.base.same,λb hb=>?_,λb hb=>E.base.new b (sub b hb)⟩,λj xs b e1 e2=>E.mine j xs b (bk j _ e1 (λ_ z=>nomatch z)) e2,λj dn e=>?_⟩
  ·rcases aI e with⟨hj,q⟩|⟨ne,q⟩
   ·cases q;rw[hj];exact⟨.ref a,h1,h2.den s na⟩
   ·obtain⟨w,q1,q2⟩:=E.env.val j d' q;exact⟨w,q1,q2.mono s⟩
  ·obtain⟨b,q1,q2,q3⟩:=E.env.own j xs (bk j _ e (λ_ z=>nomatch z));refine⟨b,q1,List.mem_filter.mpr ⟨q2,decide_eq_true λz=>?_⟩,q3.mono rfl s⟩;exact(h4 b z).2.2.2 j xs (bk j _ e (λ_ z=>nomatch z)) q1
  ·exact List.mem_filter.mpr ⟨E.base.sub b hb,decide_eq_true λz=>(h4 b z).2.2.1 hb⟩
  ·have q:=bk j _ e (λ_ z=>nomatch z);have hj:=h5 j dn q;subst hj;rcases aI e with⟨_,q⟩|⟨ne,_⟩
   ·cases q
   ·exact absurd rfl ne
 ·exact⟨O,E⟩
noncomputable def wq(i:Nat)(F:bH):bH:=λk ρ=>F k (frzN i ρ)
end TG
namespace TG
open PySem PySem.Spec L2
variable[aB]
noncomputable def qX:cx->cX->D->Option (cx)
 |[],q,v=>some [(q,.lst [v])]
 |p::r,q,v=>if p.1=q then(match p.2 with
   |.lst ys=>if small (ys.length+1)then some ((p.1,.lst (ys++[v]))::r)else none
   |_=>none)else(qX r q v).map (p::·)
noncomputable def vC(ks xs:List D)(k v:D):Option (cx):=(iM ks xs).bind λal=>(fK k).bind λq=>if small al.length then qX al q v else none
theorem AD{ks ds:List D}{k v:D}{al':cx}(h:vC ks ds k v=some al'):∃al q,ks=encK al/\ds=al.map (·.2)/\k=.tup (q.map bg)/\small al.length=true/\qX al q v=some al':=by
 unfold vC at h;cases e1:iM ks ds with
 |none=>rw[e1]at h;cases h
 |some al=>
  rw[e1]at h;cases e2:fK k with
  |none=>rw[e2]at h;cases h
  |some q=>
   rw[e2]at h;obtain⟨h3,h4⟩:=tG (show(if small al.length then qX al q v else none)=some al' from h);exact⟨al,q,(gh e1).1,(gh e1).2,jJ e2,h3,h4⟩
theorem jj.imp{K:SH}{H H':Hp}{O O':az}:∀{bs:az}{xs:List D},jj K H O bs xs->(∀c∈bs,∀x,cD K H O c x->cD K H' O' c x)->jj K H' O' bs xs
 |[],[],_,_=>trivial
 |b::bs,x::xs,h,f=>⟨f b PJ x h.1,jj.imp h.2 λc hc=>f c (PL _ hc)⟩
 |[],_::_,h,_=>h.elim
 |_::_,[],h,_=>h.elim
theorem jj.snoc{K:SH}{H:Hp}{O:az}{b:T5}{x:D}(hx:cD K H O b x):∀{bs:az}{xs:List D},jj K H O bs xs->jj K H O (bs++[b]) (xs++[x])
 |[],[],_=>⟨hx,trivial⟩
 |b'::bs,x'::xs,h=>⟨h.1,jj.snoc hx h.2⟩
 |[],_::_,h=>h.elim
 |_::_,[],h=>h.elim
theorem uC{K:SH}{H:Hp}{O:az}{q:cX}{v:D}:∀{al al':cx}{kvs:List (List Key×V)}{bs:az},kvs.map (·.1)=al.map (·.1)->kvs.map (·.2)=bs.map .ref->jj K H O bs (al.map (·.2))->bs.Nodup->qX al q v=some al'->
  (∃b ys,gF kvs q=some (.ref b)/\b∈bs/\cD K H O b (.lst ys)/\small (ys.length+1)=true/\al'.map (·.1)=al.map (·.1)/\∀H' O',(∀c∈bs,c≠b->∀x,cD K H O c x->cD K H' O' c x)->cD K H' O' b (.lst (ys++[v]))->jj K H' O' bs (al'.map (·.2))) \/
  (gF kvs q=none/\al'=al++[(q,.lst [v])])
 |[],al',kvs,bs,e1,e2,h,nd,g=>by
  cases kvs with
  |cons _ _=>cases e1
  |nil=>cases g;exact .inr ⟨rfl,rfl⟩
 |p::al,al',kvs,bs,e1,e2,h,nd,g=>by
  cases kvs with
  |nil=>cases e1
  |cons p' kvs=>
   cases bs with
   |nil=>cases e2
   |cons b bs=>
    rw[P6,P6]at e1 e2;injection e1 with f1 f2;injection e2 with f3 f4;obtain⟨n1,n2⟩:=List.nodup_cons.mp nd;have h:cD K H O b p.2/\jj K H O bs (al.map (·.2)):=h;unfold qX at g;by_cases eq:p.1=q
    ·rw[if_pos eq]at g;left;split at g
     ·rename_i ys hp;obtain⟨g1,g2⟩:=bD g;subst g2;rw[hp]at h;refine⟨b,ys,by rw[iV (f1.trans eq),f3],PJ,h.1,g1,rfl,λH' O' oth new=>⟨new,h.2.imp λc hc=>oth c (PL _ hc) λz=>n1 (by rw[<-z];exact hc)⟩⟩
     ·cases g
    ·rw[if_neg eq]at g;cases g2:qX al q v with
     |none=>rw[g2]at g;cases g
     |some al2=>
      rw[g2]at g;cases g;rcases uC f2 f4 h.2 n2 g2 with⟨c,ys,w1,w2,w3,w4,w5,w6⟩|⟨w1,w2⟩
      ·refine .inl ⟨c,ys,by rw[ig (by rw[f1];exact eq)];exact w1,PL _ w2,w3,w4,by rw[P6,P6,w5],λH' O' oth new=>⟨oth b PJ (λz=>n1 (by rw[z];exact w2)) _ h.1,w6 H' O' (λc' hc=>oth c' (PL _ hc)) new⟩⟩
      ·exact .inr ⟨by rw[ig (by rw[f1];exact eq)];exact w1,by rw[w2];rfl⟩
theorem tu{kvs:List (List Key×V)}{q:cX}{v:V}(h:gF kvs q=none):putK kvs q v=kvs++[(q,v)]:=by
 unfold putK;rw[pT,h];rfl
noncomputable def AG(i:Nat)(fk fv:FX):bH:=λk ρ=>match ρ[i]? with
 |some (some (.nest (.dct ks xs)))=>((xj (fk ρ)).bind λq=>(xj (fv ρ)).bind λv=>rO (vC ks xs q v)).bind λal=>k.nx (ρ.set i (some (.nest (bS al))))
 |_=>un
theorem Af{i:Nat}{fk fv:FX}{k:Ks}{ρ:aq}{r:R D}(h:AG i fk fv k ρ=r)(hr:r≠un):∃al q v al',ρ[i]?=some (some (.nest (bS al)))/\fk ρ=.ok (.tup (q.map bg))/\fv ρ=.ok v/\small al.length=true/\qX al q v=some al'/\k.nx (ρ.set i (some (.nest (bS al'))))=r:=by
 unfold AG at h;split at h
 ·rename_i ks xs hi;cases e1:fk ρ with
  |error z=>rw[e1]at h;exact absurd h.symm hr
  |ok qd=>
   rw[e1]at h;cases e2:fv ρ with
   |error z=>rw[e2]at h;exact absurd h.symm hr
   |ok v=>
    rw[e2]at h;have h':(rO (vC ks xs qd v)).bind (λal=>k.nx (ρ.set i (some (.nest (bS al)))))=r:=h;clear h;cases e3:vC ks xs qd v with
    |none=>rw[e3]at h';exact absurd h'.symm hr
    |some al'=>
     rw[e3]at h';obtain⟨al,q,f1,f2,f3,f4,f5⟩:=AD e3;subst f1 f2 f3;exact⟨al,q,v,al',hi,rfl,rfl,f4,f5,h'⟩
 ·exact absurd h.symm hr
theorem qH{K:SH}{H:Hp}{O:az}{a:T5}{bs:az}{al:cx}(h:qN K H O a bs (bS al)):∃kvs:List (List Key×V),(H a=some (.dT kvs)\/(H a=some (.dK [])/\kvs=[]))/\kvs.map (·.1)=al.map (·.1)/\kvs.map (·.2)=bs.map .ref/\jj K H O bs (al.map (·.2)):=by
 obtain⟨xs,h1,h2⟩:=h;rcases h2 with⟨e,_⟩|⟨kvs,e,q,e2⟩|⟨e,e2,q⟩
 ·cases e
 ·injection e with f1 f2;subst f2;refine⟨kvs,.inl q,?_,e2,h1⟩;exact(jV (ks:=kvs.map (·.1)) (by rw[RN];exact f1)).symm
 ·injection e with f1 f2;subst f2 e2
  have:al=[]:=by
   cases al with
   |nil=>rfl
   |cons _ _=>cases f1
  subst this;exact⟨[],.inr ⟨q,rfl⟩,rfl,rfl,h1⟩
end TG
namespace TG
open PySem PySem.Spec L2
section
variable{prog:Ua}{w:T9}{A:Uj}{E:bh}{s:T8}{it d v:T5}{i ep:Nat}{o:Obj}{es:Array VG}{ok ov:T2}
theorem xJ{Q:bh}(ho:s.heap.get? d=some o)(hx:o.ExactDict)(hd:(d==sysModules)=false)(h:Q (.ref s.heap.objs.size) {s with heap:=s.heap.push {cls:=.type "dict_items",data:=.fields #[.ref d]}}):
  Ul (model prog w) A (call (.builtin "dict.items") [.ref d]) Q E s:=by
 refine U2 PySem.F.slot_dict_items ⟨o,ho,hx.1⟩ PySem.F.entry_dict_items ?_ (PySem.F.args_dict_items_1 _);unfold Builtin.«dict.items»;refine Uu ?_;unfold Builtin.Dict.noArgs;refine Uu (VE ⟨o,ho,hx.1⟩ ?_);show Ul _ _ (pure d) _ _ s;refine Ut ?_;show Ul _ _ (Builtin.Dict.showsAll d >>= _) _ _ s;unfold Builtin.Dict.showsAll;rw[if_neg (by rw[hd];exact P4)];exact Uu (Ut (Uu (U4 (Ut ⟨_,rfl,h⟩))))
theorem yd{Q:bh}(hv:s.heap.IsItemsView v d)(ho:s.heap.get? d=some o)(hdat:o.data=.dict es ep)
  (hQ:Q (.ref s.heap.objs.size) {s with heap:=s.heap.push {cls:=.type "dict_itemiterator",data:=.fields #[.none,.bool false,.ref d,.int 0 0,.int es.size 0,.int ep 0,.none,.none]}}):Ul (model prog w) A (pyIter (.ref v)) Q E s:=by
 obtain⟨w1,hov,hcv,hdv⟩:=id hv;refine wpAny_pyIter_slot hv.typeIs F.slot_dict_items_iter (U2 F.slot_dict_items_iter hv.typeIs F.entry_dict_items_iter ?_ (F.args_dict_items_iter_1 _));unfold Builtin.«dict_items.__iter__»;refine Uu (Ut (Uu ?_));unfold Builtin.Dict_items.dictOf;refine Uu (UZ hov hdv (x:=.ref d) rfl (Ut (Uu ?_)));unfold Builtin.Dict_items.newIterator;refine Uu (VF ho hdat (Uu (VH ho hdat ?_)));simp only[show Builtin.Dict_items.ownsTuple "dict_itemiterator"=true by decide,if_true];refine U4 (Ut ⟨_,rfl,"dict_itemiterator",_,⟨_,Tp _ rfl,rfl⟩,F.slot_dict_itemiterator_next.lookup,?_⟩) (by simp only[sizeOk,Builtin.Dict_items.ownedTupleFields,P0,Qj,P5,Qv,UD];omega)
 simpa [rawInt,Builtin.Dict_items.ownedTupleFields]using hQ
theorem ym{Q:Option T2->cP}(hit:VI s.heap it d i es.size ep ok ov)(hod:s.heap.get? d=some o)(hdd:o.data=.dict es ep)(hlt:i<es.size)
  (hQ:∀ h',VJ h' it d (i+1) es.size ep es[i].key es[i].val s.heap.objs.size->h'.get? s.heap.objs.size=some { cls:=.type "tuple",data:=.seq #[es[i].key,es[i].val] }->h'.objs.size=s.heap.objs.size+1 ->
   (∀b o,b≠it->s.heap.get? b=some o->h'.get? b=some o)->Q (some (.ref s.heap.objs.size)) {s with heap:=h'}):Ul (model prog w) A (pyNext (.ref it)) Q E s:=by
 obtain⟨hp,g,dr,tk,os⟩:=s;have hT:Shared.TypeIs ⟨hp,g,dr,tk,os⟩ (.ref it) "dict_itemiterator":=⟨_,hit,rfl⟩
 unfold pyNext;refine Uu (Vo (U1 (name:=Str.ofString "__next__") hT F.slot_dict_itemiterator_next (U2 F.slot_dict_itemiterator_next hT F.entry_dict_itemiterator_next ?_ (F.args_dict_itemiterator_next_1 _))));refine Uu (Ut (Uu (Uu ?_)));first|refine Uu (VL hT (Ut ?_))|refine Uu (VM hT (Ut ?_))
 refine Uu (VN hit rfl ?_);have hown:Builtin.Dict_items.ownsTuple "dict_itemiterator"=true:=by decide
 simp only[hown,if_true];show Ul _ _ (if(Value.ref d==Value.none)=true then _ else _) _ _ _;rw[if_neg (show¬((Value.ref d==Value.none)=true)from P4)];refine Uu (Ut (Uu (VF hod hdd ?_)));rw[if_neg (by simp)];refine Uu (Ut (Uu (VH hod hdd ?_)));rw[if_neg (by simp)];refine Ut ?_;simp only[show¬((i:Int)<0)from by omega,if_false,Qk,Array.getElem?_eq_getElem hlt];refine Uu ?_;first|refine Uu (VL hT (Ut ?_))|refine Uu (VM hT (Ut ?_))
 refine Uu (VO hT ?_);show Ul _ _ (setField (.ref it) 3 (rawInt ((i:Int)+1)) >>= _) _ _ ⟨hp,g,dr,tk,os⟩;refine Uu (Vj hit (by simp) λh₁ he₁ hs₁=>?_);replace hs₁:Tn it hp h₁:=hs₁
 replace he₁:VI h₁ it d (i+1) es.size ep ok ov:=by
  have e:((i+1:Nat):Int)=(i:Int)+1:=by omega
  unfold VI;rw[e];simpa [rawInt]using he₁
 have hT₁:Shared.TypeIs ⟨h₁,g,dr,tk,os⟩ (.ref it) "dict_itemiterator":=⟨_,he₁,rfl⟩
 refine Uu (U0 (Uu (VO hT₁ (Uu (VO hT₁ ?_)))));show Ul _ _ (Builtin.Dict_items.pairFromOwner (.ref it) 6 es[i].key es[i].val) _ _ ⟨h₁,g,dr,tk,os⟩;unfold Builtin.Dict_items.pairFromOwner;refine Uu (Vn ?_);have he₂:VI (h₁.push {cls:=.type "tuple",data:=.seq #[es[i].key,es[i].val]}) it d (i+1) es.size ep ok ov:=To _ he₁;generalize hh₂:h₁.push {cls:=.type "tuple",data:=.seq #[es[i].key,es[i].val]}=h₂ at he₂;have hz₁:h₁.objs.size=hp.objs.size:=hs₁.1;have hil:it<hp.objs.size:=Tj hit;have ht₂:h₂.get? hp.objs.size=some {cls:=.type "tuple",data:=.seq #[es[i].key,es[i].val]}:=by rw[<-hh₂,<-hz₁];exact Tp _ rfl
 have hz₂:h₂.objs.size=hp.objs.size+1:=by rw[<-hh₂,Tq,hz₁]
 have hk₂:∀b o,b≠it->hp.get? b=some o->h₂.get? b=some o:=λb o hb e=>by rw[<-hh₂];exact To _ (hs₁.extBut b o hb e)
 show Ul _ _ (Builtin.Dict_items.ownedTupleIsFree (.ref it) >>= _) _ _ ⟨h₂,g,dr,tk,os⟩;rw[hz₁];clear hh₂ he₁ hs₁ hT₁ hz₁ h₁;refine Uu ?_;unfold Builtin.Dict_items.ownedTupleIsFree;refine Uu (UZ he₂ rfl (x:=.none) rfl (Ut ?_));simp only[if_true];refine Uu (UZ he₂ rfl (x:=ok) rfl (Uu (UZ he₂ rfl (x:=ov) rfl ?_)));refine Uu (Vj he₂ (by simp) λh₃ he₃ hs₃=>?_);replace hs₃:Tn it h₂ h₃:=hs₃
 replace he₃:VI h₃ it d (i+1) es.size ep es[i].key ov:=he₃
 refine Uu (Vj he₃ (by simp) λh₄ he₄ hs₄=>?_);replace hs₄:Tn it h₃ h₄:=hs₄
 replace he₄:VI h₄ it d (i+1) es.size ep es[i].key es[i].val:=he₄
 refine Uu (Vj he₄ (by simp) λh₅ he₅ hs₅=>?_);replace hs₅:Tn it h₄ h₅:=hs₅
 replace he₅:VJ h₅ it d (i+1) es.size ep es[i].key es[i].val hp.objs.size:=he₅
 refine Uu (Vj he₅ (by simp) λh₆ he₆ hs₆=>?_);replace hs₆:Tn it h₅ h₆:=hs₆
 replace he₆:VJ h₆ it d (i+1) es.size ep es[i].key es[i].val hp.objs.size:=he₆
 refine Uu (Vm (Ut (Ut ⟨_,rfl,Ut (hQ h₆ he₆ ?_ ?_ ?_)⟩)))
 ·have n:=PR hil;exact hs₆.extBut _ _ n (hs₅.extBut _ _ n (hs₄.extBut _ _ n (hs₃.extBut _ _ n ht₂)))
 ·show h₆.objs.size=hp.objs.size+1;rw[hs₆.1,hs₅.1,hs₄.1,hs₃.1,hz₂]
 ·exact λb o hb e=>hs₆.extBut b o hb (hs₅.extBut b o hb (hs₄.extBut b o hb (hs₃.extBut b o hb (hk₂ b o hb e))))
theorem zA{Q:Option T2->cP}(hh:A.handled=none)(hit:VI s.heap it d i es.size ep ok ov)(hod:s.heap.get? d=some o)(hdd:o.data=.dict es ep)(hge:es.size<=i)
  (hQ:∀h',Tt it s.heap h'->Q none {s with heap:=h'}):Ul (model prog w) A (pyNext (.ref it)) Q E s:=by
 have hT:s.TypeIs (.ref it) "dict_itemiterator":=⟨_,hit,rfl⟩
 unfold pyNext;refine Uu (Vo (U1 (name:=Str.ofString "__next__") hT F.slot_dict_itemiterator_next (U2 F.slot_dict_itemiterator_next hT F.entry_dict_itemiterator_next ?_ (F.args_dict_itemiterator_next_1 _))));refine Uu (Ut (Uu (Uu ?_)));first|refine Uu (VL hT (Ut ?_))|refine Uu (VM hT (Ut ?_))
 refine Uu (VN hit rfl ?_);have hown:Builtin.Dict_items.ownsTuple "dict_itemiterator"=true:=by decide
 simp only[hown,if_true];show Ul _ _ (if(Value.ref d==Value.none)=true then _ else _) _ _ s;rw[if_neg (show¬((Value.ref d==Value.none)=true)from P4)];refine Uu (Ut (Uu (VF hod hdd ?_)));rw[if_neg (by simp)];refine Uu (Ut (Uu (VH hod hdd ?_)));rw[if_neg (by simp)];refine Ut ?_;simp only[show¬((i:Int)<0)from by omega,if_false,Qk,Array.getElem?_eq_none hge];refine Uu ?_;first|refine Uu (VL hT (Ut ?_))|refine Uu (VM hT (Ut ?_))
 show Ul _ _ (setField (.ref it) 2 .none >>= _) _ _ s;refine Uu (Ve hit rfl (by simp) ?_);show Ul _ _ (newExc (.type "StopIteration") [] >>= _) _ _ _;refine Uu ?_;simp only[newExc,newTuple];refine Uu (U4 ?_ (by size_fits));refine Uu (m:=firstArgMember _ _) (Vf (a:=Value.none) (by first|rfl|(simp only[firstArgMember];rfl)) ?_);refine U4 ?_ (by size_fits);simp only[raiseNew];refine Uu (Vg ?_);rw[show A.in1.handled=none from hh];refine Uu (Ut (wpAny_throw ?_));refine Uu (Vp (T:="StopIteration") (b:=true) ⟨_,Tp _ rfl,rfl⟩ Vq ?_);exact Ut (hQ _ (((Heap.SameBut.update ..).extBut.push _).push _))
end
variable[aB]
noncomputable abbrev vT(al:cx):D:=.dct (.non::encK al) (al.map (·.2))
theorem wI{X:Cx}{pins:bf}{σ:St}{H:Hp}{s:T8}{a:T5}{o:Obj}{kvs:List (List Key×V)}(I:Inv X pins σ H s)(e:H a=some (.frz o (.dT kvs))):s.heap.get? a=some o/\o.ExactDict/\(a==sysModules)=false/\∃es ep xs,o.data=.dict es ep/\KT H kvs xs/\es.toList=xs.map (entryOfKey (tupleKind (bN X.prog X.w))):=by
 obtain⟨ho,z,hd,xs,rel,o',es,ep,h1,h2,h3,h4,h5⟩:=(show b9 X.prog X.w H s.heap a (.frz o (.dT kvs))from I.hok a _ e)
 rw[ho]at h1;cases h1;exact⟨ho,h2,hd,es,ep,xs,h3,rel,h4⟩
noncomputable def Nq(a:T5)(o:Obj)(kvs:List (List Key×V)):It:=
  ⟨fun i H=>H a=some (.frz o (.dT kvs))/\i < kvs.length,
   λi H v H'=>∃p b q w,v=.ref p/\H p=none/\H'=upd H p (.tup [.ref b,w])/\kvs[i]?=some (q,w)/\H b=some (.tup (q.map kV)),
   λi H=>H a=some (.frz o (.dT kvs))/\i=kvs.length⟩
theorem qj{α β:Type}{R:α->β->Prop}:∀{xs:List α}{ys:List β},Ub R xs ys->∀{i:Nat}{x:α},xs[i]?=some x->∃y,ys[i]?=some y/\R x y:=λh=>by
 induction h with
 |nil=>intro i x e;simp at e
 |cons hq _ ih=>
  intro i x e;cases i with
  |zero=>rw[Rl]at e;cases e;exact⟨_,rfl,hq⟩
  |succ i=>rw[Rm]at e ⊢;exact ih e
theorem xR{P:Ua}{w:T9}{K:SH}{es':bx}{k:Nat}{pos:Pos}{a it:T5}{o:Obj}{es:Array VG}{ep:Nat}{kvs:List (List Key×V)}(hda:o.data=.dict es ep):Turn P w K (.Tuple es' k pos) (Nq a o kvs) [it] it (λi h=>∃ok ov,VI h it a i es.size ep ok ov)where
 mem:=by simp
 obj:=λi h ⟨ok,ov,hz⟩ c hc=>by rw[List.mem_singleton.mp hc];exact⟨_,hz,λv q=>by cases q⟩
 keep:=λi h h' ⟨ok,ov,hz⟩ kp=>⟨ok,ov,kp it (by simp) _ hz⟩
 item:=by
  rintro X hP hw hK hc i pins s σ H E I hf ⟨ok,ov,hit⟩ ⟨ha,hi⟩;subst hP hw hK;obtain⟨ho,hx,_,es2,ep2,xs,h3,rel,h4⟩:=wI I ha;rw[hda]at h3;cases h3;have hl:es.size=xs.length:=by rw[<-Array.length_toList,h4,P7]
  have hkl:kvs.length=xs.length:=Paired.length rel;have hlt:i<es.size:=by omega
  obtain⟨x,ex,f1,f2,f3⟩:=qj rel (i:=i) (x:=kvs[i]) (by simp[hi]);have ee:es[i]=entryOfKey (tupleKind (bN X.prog X.w)) x:=by
   have:es.toList[i]?=some (entryOfKey (tupleKind (bN X.prog X.w)) x):=(by rw[h4,Qh,ex];rfl);rw[Array.getElem?_toList,Array.getElem?_eq_getElem hlt]at this;exact Option.some.inj this
  refine ym hit ho hda hlt λh' out tp sz kp=>⟨_,rfl,wpAny_letOwnedTupleGo_items out λh2 hit2 sb=>?_⟩
  have hpz:s.heap.objs.size≠it:=PR (Tj hit);have tp2:=sb.extBut _ _ hpz tp;rw[ee]at tp2;have I':Inv X pins σ (upd H s.heap.objs.size (.tup [.ref x.2.1,kvs[i].2])) {s with heap:=h2}:=Inv.turnedL (ch:=[it]) (t':=s.toks) I hf (λc u hc e=>by
   have hc:c≠it:=(by simpa using hc);exact sb.extBut _ _ hc (kp c u hc e)) (PX _) ⟨by show 2<=Ud;decide,[.ref x.2.1,x.2.2],.cons rfl (.cons f3 .nil),_,tp2,rfl,_,rfl⟩
  refine⟨.ref s.heap.objs.size,_,I',rfl,⟨_,x.2.1,kvs[i].1,kvs[i].2,rfl,I.fresh,rfl,by simp[hi],f2⟩,⟨_,_,hit2⟩,λc hc=>?_⟩;rw[List.mem_singleton.mp hc,ao (Ne.symm hpz)];exact(hf it (by simp)).1
 done:=by
  rintro X hP hw hK hc i pins s σ H E I hf ⟨ok,ov,hit⟩ ⟨ha,hi⟩;subst hP hw hK;obtain⟨ho,hx,_,es2,ep2,xs,h3,rel,h4⟩:=wI I ha;rw[hda]at h3;cases h3;have hl:es.size=xs.length:=by rw[<-Array.length_toList,h4,P7]
  have hkl:kvs.length=xs.length:=Paired.length rel;exact zA (I.ok.hd hc) hit ho hda ‹0› λh' eb=>⟨rfl,Inv.turned0 (ch:=[it]) I hf λc u hc e=>eb c u (by simpa using hc) e⟩
 self:=λ_ _ _ _ _ ⟨_,_,hz⟩ h=>PySem.W.kcp_self hz h
theorem ub{K:SH}{H:Hp}:∀q:cX,aK K H (q.map bg) (q.map kV)
 |[]=>cn.mpr rfl
 |k::q=>aX.mpr ⟨kV k,_,rfl,by cases k with|inl i=>exact eF.mpr rfl|inr x=>exact eN.mpr rfl,ub q⟩
noncomputable abbrev jU(p:List Key×D):D:=.tup [.tup (p.1.map bg),p.2]
theorem wN{K:SH}{Hd:Hp}{a:T5}{o:Obj}{kvs:List (List Key×V)}{al:cx}(h:Hd a=some (.frz o (.dT kvs)))(e1:kvs.map (·.1)=al.map (·.1))(e2:aK K Hd (al.map (·.2)) (kvs.map (·.2))):Walk K Hd (Nq a o kvs) (al.map jU):=λHn O' i hO sm=>by
 have s':aR Hd Hn:=sm.trans (aj Hn O');have hl:kvs.length=al.length:=by have:=congrArg List.length e1;simpa using this
 refine⟨λd e=>?_,λhl'=>⟨s' _ _ h,by rw[hl',P7,hl]⟩⟩;rw[Qh]at e;cases ep:al[i]? with
 |none=>rw[ep]at e;cases e
 |some p=>
  rw[ep]at e;cases e;have hi:i<al.length:=(List.getElem?_eq_some_iff.mp ep).1;refine⟨⟨s' _ _ h,by omega⟩,λx H2 ⟨c,b,q,w,ex,hc,eH,ek,hb⟩=>?_⟩;subst ex eH;have k1:q=p.1:=by
   have:=congrArg (λl=>l[i]?) e1
   simp only[Qh,ek,ep]at this;exact Option.some.inj this
  obtain⟨w',ew,dw⟩:=e2.get (i:=i) (d:=p.2) (by rw[Qh,ep];rfl);rw[Qh,ek]at ew;cases ew;subst k1;have bO:b∉O':=λz=>by
   obtain⟨u,q1,q2⟩:=hO.2 b z;rw[hb]at q1;cases q1;exact q2
  exact⟨bj hc _,dY hO hc (aX.mpr ⟨.ref b,_,rfl,bY.mpr ⟨b,_,rfl,by rw[gJ bO];exact hb,ub p.1⟩,aX.mpr ⟨w,_,rfl,dw.mono sm,cn.mpr rfl⟩⟩)⟩
noncomputable def xA:D->Option (List D)
 |.dct (.non::ks) ds=>(iM ks ds).map λal=>al.map jU
 |_=>none
noncomputable def mI(f:FX):bE:=λρ=>(f ρ).bind λd=>rO (xA d)
theorem wm{K:SH}{H:Hp}{v:V}{al:cx}(h:cu K H (vT al) v):∃a o kvs,v=.ref a/\H a=some (.frz o (.dT kvs))/\kvs.map (·.1)=al.map (·.1)/\aK K H (al.map (·.2)) (kvs.map (·.2)):=by
 obtain⟨a,vs,e0,h2,h3⟩:=L3.mp h;rcases h3 with⟨kvs,e,e1,e2⟩|⟨kvs,e,e1,e2⟩|⟨kvs,o,e,e1,e2⟩
 ·cases kvs with
  |nil=>cases e1
  |cons p r=>
   injection e1 with e1 _;rcases p with⟨k,v⟩
   cases k<;>cases e1
 ·cases kvs with
  |nil=>cases e1
  |cons p r=>injection e1 with e1 _;cases e1
 ·injection e1 with _ e1;subst e2;exact⟨a,o,kvs,e0,e,(jV (ks:=kvs.map (·.1)) (by rw[RN];exact e1)).symm,h2⟩
theorem cY.frzG{K:SH}{Hb:Hp}{Ob O:az}{H H':Hp}{ρ:aq}{σ:St}(E:cY K Hb Ob O H ρ σ){i:Nat}{d d':D}(hd:ρ[i]?=some (some (.nest d))){a:T5}{bs:az}(h1:σ[i]?=some (some (.ref a)))(h4:∀b∈a::bs,b∈O/\Hb b=none/\b∉Ob/\∀(j:Nat) d',ρ[j]?=some (some (.own d'))->σ[j]?≠some (some (.ref b)))(h5:∀(j:Nat) d',ρ[j]?=some (some (.nest d'))->j=i)
  (hH:∀b,b≠a->H' b=H b) (tab:aB.tab H') (dn:aR (hid H O) (hid H' (O.filter λb=>decide (b∉a::bs)))->(∀b∈a::bs,b∉O.filter λb=>decide (b∉a::bs))->cu K (hid H' (O.filter λb=>decide (b∉a::bs))) d' (.ref a)):cY K Hb Ob (O.filter λb=>decide (b∉a::bs)) H' (TG.setV i d' ρ) σ:=by
 have sub:∀b∈O.filter (λb=>decide (b∉a::bs)),b∈O:=λb hb=>(List.mem_filter.mp hb).1;have na:∀b∈a::bs,b∉O.filter λb=>decide (b∉a::bs):=λb hb z=>(of_decide_eq_true (List.mem_filter.mp z).2) hb;have aO:=(h4 a PJ).1;have s:aR (hid H O) (hid H' (O.filter λb=>decide (b∉a::bs))):=λb u e=>by
  unfold hid at e ⊢;by_cases hb:b∈O
  ·rw[if_pos hb]at e;cases e
  ·rw[if_neg hb]at e;rw[if_neg λz=>hb (sub b z),hH b λz=>hb (by rw[z];exact aO)];exact e
 have bk:∀(l:Nat) x,(TG.setV i d' ρ)[l]?=some (some x)->(∀d,x≠.val d)->ρ[l]?=some (some x):=λl x e nv=>by
  rcases aI e with⟨_,q⟩|⟨_,q⟩
  ·cases q;exact absurd rfl (nv _)
  ·exact q
 refine⟨⟨λj d1 e=>?_,λj xs e=>?_,λj l xs ys b e1 e2 e3 e4=>E.env.one j l xs ys b (bk j _ e1 (λ_ z=>nomatch z)) (bk l _ e2 (λ_ z=>nomatch z)) e3 e4,⟨tab,λb hb=>?_⟩⟩,⟨λb u e=>?_,λb hb=>?_,λb hb=>E.base.new b (sub b hb)⟩,λj xs b e1 e2=>E.mine j xs b (bk j _ e1 (λ_ z=>nomatch z)) e2,λj dn e=>?_⟩
 ·rcases aI e with⟨hj,q⟩|⟨ne,q⟩
  ·cases q;rw[hj];exact⟨.ref a,h1,dn s na⟩
  ·obtain⟨w,q1,q2⟩:=E.env.val j d1 q;exact⟨w,q1,q2.mono s⟩
 ·obtain⟨b,q1,q2,q3⟩:=E.env.own j xs (bk j _ e (λ_ z=>nomatch z));have nb:b∉a::bs:=λz=>(h4 b z).2.2.2 j xs (bk j _ e (λ_ z=>nomatch z)) q1;exact⟨b,q1,List.mem_filter.mpr ⟨q2,decide_eq_true nb⟩,q3.mono (hH b λz=>nb (by rw[z];exact PJ)).symm s⟩
 ·rw[hH b λz=>na b (by rw[z];exact PJ) hb];exact E.env.all.2 b (sub b hb)
 ·rw[hH b λz=>by rw[z,(h4 a PJ).2.1]at e;cases e];exact E.base.same b u e
 ·exact List.mem_filter.mpr ⟨E.base.sub b hb,decide_eq_true λz=>(h4 b z).2.2.1 hb⟩
 ·have q:=bk j _ e (λ_ z=>nomatch z);have hj:=h5 j dn q;subst hj;rcases aI e with⟨_,q⟩|⟨ne,_⟩
  ·cases q
  ·exact absurd rfl ne
theorem Kr{X:Cx}{pins:bf}{σ:St}{H:Hp}{s:T8}{a:T5}{kvs:List (List Key×V)}(I:Inv X pins σ H s)(h1:H a=some (.dT kvs)):∃o,Inv X pins σ (upd H a (.frz o (.dT kvs))) s:=by
 obtain⟨z,hd,xs,rel,o,es,ep,g1,g2⟩:=(show b9 X.prog X.w H s.heap a (.dT kvs)from I.hok a _ h1)
 refine⟨o,kC (ob:=.frz o (.dT kvs)) (h':=s.heap) (t':=s.toks) I (by rw[h1];exact trivial) ⟨rfl,λ_ _=>rfl⟩ ⟨o,g1⟩ ⟨g1,z,hd,xs,KT.keeps rel λb ys eb=>?_,o,es,ep,g1,g2⟩⟩;rw[ao (CO eb h1 (λz=>nomatch z))];exact eb
noncomputable def Ko(i:Nat)(ρ:aq):aq:=match ρ[i]? with
 |some (some (.nest (.dct ks ds)))=>match iM ks ds with
  |some al=>setV i (vT al) ρ
  |none=>ρ
 |_=>ρ
noncomputable def sd(i:Nat)(F:bH):bH:=λk ρ=>F k (Ko i ρ)
end TG
namespace TG
open PySem PySem.Spec L2
section
variable{prog:Ua}{w:T9}{A:Uj}{E:bh}{s:T8}{it d:T5}{i ep:Nat}{o:Obj}{es:Array VG}
theorem AW{Q:bh}(hd:(d==sysModules)=false)(ho:s.heap.get? d=some o)(hx:o.ExactDict)(hdat:o.data=.dict es ep)
  (hQ:Q (.ref s.heap.objs.size) {s with heap:=s.heap.push {cls:=.type "dict_keyiterator",data:=.fields #[.ref d,.int 0 0,.int es.size 0,.int ep 0]}}):Ul (model prog w) A (pyIter (.ref d)) Q E s:=by
 have hT:s.TypeIs (.ref d) "dict":=⟨o,ho,hx.1⟩
 refine wpAny_pyIter_slot hT F.slot_dict_iter (U2 F.slot_dict_iter hT F.entry_dict_iter ?_ (F.args_dict_iter_1 _));unfold Builtin.«dict.__iter__»;refine Uu ?_;unfold Builtin.Dict.dictSlotNone;refine Uu (VE hT ?_);show Ul _ _ (pure (Value.ref d)) _ _ s;refine Ut ?_;show Ul _ _ (Builtin.Dict.showsAll d >>= _) _ _ s;unfold Builtin.Dict.showsAll;rw[if_neg (by rw[hd];exact P4)];refine Uu (Ut (Uu (VF ho hdat (Uu (VH ho hdat ?_)))));refine Uu (U4 (Ut ⟨_,rfl,"dict_keyiterator",_,⟨_,Tp _ rfl,rfl⟩,F.slot_dict_keyiterator_next.lookup,?_⟩));simpa [rawInt]using hQ
theorem Bb{Q:Option T2->cP}(hit:s.heap.IsKeyIter it d i es.size ep)(hod:s.heap.get? d=some o)(hdd:o.data=.dict es ep)(hlt:i<es.size)
  (hQ:∀h',h'.IsKeyIter it d (i+1) es.size ep->Tn it s.heap h'->Q (some es[i].key) {s with heap:=h'}):Ul (model prog w) A (pyNext (.ref it)) Q E s:=by
 obtain⟨oi,ho,hc,hd⟩:=id hit;unfold pyNext;refine Uu (Vo (U1 (name:=Str.ofString "__next__") hit.typeIs F.slot_dict_keyiterator_next (U2 F.slot_dict_keyiterator_next hit.typeIs F.entry_dict_keyiterator_next ?_ (F.args_dict_keyiterator_next_1 _))));refine Uu (Ut (Uu (Uu ?_)));first|refine Uu (VP hit.typeIs (Ut ?_))|refine Uu (VQ hit.typeIs (Ut ?_))
 refine Uu (VN ho hd ?_);have hown:Builtin.Dict_items.ownsTuple "dict_keyiterator"=false:=by decide
 simp only[hown,QB,if_false];show Ul _ _ (if(Value.ref d==Value.none)=true then _ else _) _ _ s;rw[if_neg (show¬((Value.ref d==Value.none)=true)from P4)];refine Uu (Ut (Uu (VF hod hdd ?_)));rw[if_neg (by simp)];refine Uu (Ut (Uu (VH hod hdd ?_)));rw[if_neg (by simp)];refine Ut ?_;simp only[show¬((i:Int)<0)from by omega,if_false,Qk,Array.getElem?_eq_getElem hlt];refine Uu ?_;first|refine Uu (VP hit.typeIs (Ut ?_))|refine Uu (VQ hit.typeIs (Ut ?_))
 refine Uu (wpAny_isOneOf_keyiter hit.typeIs ?_);show Ul _ _ (setField (.ref it) 1 (rawInt ((i:Int)+1)) >>= _) _ _ s;refine Uu (Ve ho hd (by simp) ?_);have hit':(s.heap.update it (Obj.mapFields (·.setIfInBounds 1 (rawInt ((i:Int)+1))))).IsKeyIter it d (i+1) es.size ep:=⟨_,Ts _ ho (Obj.isFreed_of_fields (Obj.data_mapFields hd _)),(Obj.cls_mapFields ..).trans hc,by rw[Obj.data_mapFields hd];simp[rawInt]⟩
 refine Uu (U0 (Uu (wpAny_isOneOf_keyiter (s:={s with heap:=s.heap.update it (Obj.mapFields (·.setIfInBounds 1 (rawInt ((i:Int)+1))))}) hit'.typeIs ?_)));show Ul _ _ (pure es[i].key) _ _ _;exact Ut (Ut ⟨_,rfl,Ut (hQ _ hit' (Heap.SameBut.update ..))⟩)
theorem DH{Q:Option T2->cP}(hh:A.handled=none)(hit:s.heap.IsKeyIter it d i es.size ep)(hod:s.heap.get? d=some o)(hdd:o.data=.dict es ep)(hge:es.size<=i)(hQ:∀h',Tt it s.heap h'->Q none {s with heap:=h'}):Ul (model prog w) A (pyNext (.ref it)) Q E s:=by
 obtain⟨oi,ho,hc,hd⟩:=id hit;unfold pyNext;refine Uu (Vo (U1 (name:=Str.ofString "__next__") hit.typeIs F.slot_dict_keyiterator_next (U2 F.slot_dict_keyiterator_next hit.typeIs F.entry_dict_keyiterator_next ?_ (F.args_dict_keyiterator_next_1 _))));refine Uu (Ut (Uu (Uu ?_)));first|refine Uu (VP hit.typeIs (Ut ?_))|refine Uu (VQ hit.typeIs (Ut ?_))
 refine Uu (VN ho hd ?_);have hown:Builtin.Dict_items.ownsTuple "dict_keyiterator"=false:=by decide
 simp only[hown,QB,if_false];show Ul _ _ (if(Value.ref d==Value.none)=true then _ else _) _ _ s;rw[if_neg (show¬((Value.ref d==Value.none)=true)from P4)];refine Uu (Ut (Uu (VF hod hdd ?_)));rw[if_neg (by simp)];refine Uu (Ut (Uu (VH hod hdd ?_)));rw[if_neg (by simp)];refine Ut ?_;simp only[show¬((i:Int)<0)from by omega,if_false,Qk,Array.getElem?_eq_none hge];refine Uu ?_;first|refine Uu (VP hit.typeIs (Ut ?_))|refine Uu (VQ hit.typeIs (Ut ?_))
 show Ul _ _ (setField (.ref it) 0 .none >>= _) _ _ s;refine Uu (Ve ho hd (by simp) ?_);show Ul _ _ (newExc (.type "StopIteration") [] >>= _) _ _ _;refine Uu ?_;simp only[newExc,newTuple];refine Uu (U4 ?_ (by size_fits));refine Uu (m:=firstArgMember _ _) (Vf (a:=Value.none) (by first|rfl|(simp only[firstArgMember];rfl)) ?_);refine U4 ?_ (by size_fits);simp only[raiseNew];refine Uu (Vg ?_);rw[show A.in1.handled=none from hh];refine Uu (Ut (wpAny_throw ?_));refine Uu (Vp (T:="StopIteration") (b:=true) ⟨_,Tp _ rfl,rfl⟩ Vq ?_);exact Ut (hQ _ (((Heap.SameBut.update ..).extBut.push _).push _))
noncomputable def HW(d:T5)(o:Obj)(es:Array VG)(ep:Nat)(h:Uc):Prop:=h.get? d=some o/\o.ExactDict/\o.data=.dict es ep
theorem yi(hh:A.handled=none)(I:T5)(hne:d≠I):Walks prog w A I [I,d] [I] es.size (λi v=>∃e,es[i]?=some e/\v=e.key) (λi h=>h.IsKeyIter I d i es.size ep/\HW d o es ep h)where
 sub:=λb hb=>by simp at hb;simp[hb]
 frame:=λ_ _ _ st hk=>⟨st.1.at λo e=>hk I (by simp) o e,hk d (by simp) _ st.2.1,st.2.2⟩
 item:=λi s Q E hi st hQ=>Bb st.1 st.2.1 st.2.2.2 hi λh' hit' hs'=>hQ _ h' s.toks ⟨es[i],by simp[hi],rfl⟩ ⟨hit',(hs'.2 d hne).trans st.2.1,st.2.2⟩ λb o hb e=>hs'.extBut b o (λh=>hb (by simp[h])) e
 done:=λs Q E st hQ=>DH hh st.1 st.2.1 st.2.2.2 (PX _) λh' he'=>hQ h' s.toks λb o hb e=>he' b o (λh=>hb (by simp[h])) e
 self:=λ_ _ _ _ st hQ=>wpAny_pyIter_keyiter st.1 hQ
theorem Cz(lo:(d==sysModules)=false):PySem.W.KdlSrc prog w "dict" d d es.size (λi v=>∃e,es[i]?=some e/\v=e.key) (HW d o es ep)where
 type:=λ_ hm=>⟨o,hm.1,hm.2.1.1⟩
 there:=λ_ hm=>⟨Tj hm.1,Tj hm.1⟩
 keep:=λ_ _ hm hk=>⟨hk d (.inl rfl) o hm.1,hm.2⟩
 notList:=by decide
 notTuple:=by decide
 hint:=λ_ _ _ _ hm hq=>PySem.W.kdl_hint_dict ⟨o,hm.1,hm.2.1.1⟩ hq
 iter:=λ_ _ hh hm=>⟨_,_,(λ_ _ hq=>AW lo hm.1 hm.2.1 hm.2.2 hq),yi (ep:=ep) (o:=o) hh _ (PC (Tj hm.1)),⟨⟨_,Tp _ rfl,rfl,rfl⟩,To _ hm.1,hm.2⟩⟩
end
variable[aB]
noncomputable def Eh:List D->List D->Option (cx)
 |.non::ks,ds=>iM ks ds
 |ks,ds=>iM ks ds
theorem yR{K:SH}{H:Hp}{v:V}{ks ds:List D}{al:cx}(h:cu K H (.dct ks ds) v)(e:Eh ks ds=some al):
  ∃a,v=.ref a/\((∃kvs:List (List Key×V),Rd H a (.dT kvs)/\kvs.map (·.1)=al.map (·.1)/\aK K H (al.map (·.2)) (kvs.map (·.2)))\/(H a=some (.dK [])/\al=[])):=by
 unfold Eh at e;split at e
 ·obtain⟨f1,f2⟩:=gh e;subst f1 f2;obtain⟨a,o,kvs,q1,q2,q3,q4⟩:=wm h;exact⟨a,q1,.inl ⟨kvs,.inr ⟨o,q2⟩,q3,q4⟩⟩
 ·obtain⟨f1,f2⟩:=gh e;subst f1 f2;obtain⟨a,q1,q2⟩:=p4 h;rcases q2 with⟨kvs,q2,q3⟩|q2
  ·exact⟨a,q1,.inl ⟨kvs,.inl q2,q3⟩⟩
  ·exact⟨a,q1,.inr q2⟩
section
variable{X:Cx}
noncomputable def lY:List D->bG
 |[.dct ks ds]=>(Eh ks ds).bind λal=>some (.lst (encK al))
 |_=>none
theorem DP{pins:bf}{σ:St}{H:Hp}{s:T8}(I:Inv X pins σ H s){a:T5}{kvs:List (List Key×V)}(e:Rd H a (.dT kvs)):kvs.length<=Ud/\(a==sysModules)=false/\∃o es ep,HW a o es ep s.heap/\es.size=kvs.length/\∀(i:Nat) u,es[i]?=some u->∃b q,u.key=.ref b/\kvs[i]?.map (·.1)=some q/\H b=some (.tup (q.map kV)):=by
 obtain⟨z,hd,xs,rel,o,es,ep,h1,h2,h3,h4,_⟩:=qz I.hok e;have hl:es.size=kvs.length:=by rw[<-Array.length_toList,h4,P7];exact(Paired.length rel).symm
 refine⟨z,hd,o,es,ep,⟨h1,h2,h3⟩,hl,λi u eu=>?_⟩;have hi:i<kvs.length:=by
  have:=(Array.getElem?_eq_some_iff.mp eu).1
  omega
 obtain⟨x,ex,f1,f2,f3⟩:=qj rel (i:=i) (x:=kvs[i]) (by simp[hi])
 have:es.toList[i]?=some (entryOfKey (tupleKind (bN X.prog X.w)) x):=by rw[h4,Qh,ex];rfl
 rw[Array.getElem?_toList,eu]at this;cases this;exact⟨x.2.1,kvs[i].1,rfl,by simp[hi],f2⟩
theorem xB(hc:X.calm=true):dW X (.type "list") (xO X.K lY):=by
 rintro pins s σ H xs us Q I r ⟨O,ds,d,hO,hd,hg,q⟩;unfold lY at hg;split at hg
 ·rename_i ks vs0;cases hk:Eh ks vs0 with
  |none=>rw[hk]at hg;cases hg
  |some al=>
   rw[hk]at hg;cases hg;obtain⟨v,ev,h1⟩:=hd.one;subst ev;obtain⟨a,ea,hh⟩:=yR h1 hk;subst ea;obtain⟨u,rfl,ru⟩:=vals1 r;cases ru;have fin:∀(H0:Hp)(kvs:List (List Key×V)),Inv X pins σ H0 s->Rd H0 a (.dT kvs)->kvs.map (·.1)=al.map (·.1)->(∀b ys,H0 b=some (.tup ys)->H b=some (.tup ys))->Ul (model X.prog X.w) X.A (call (.type "list") [.ref a]) (EP X pins σ Q) X.xe s:=λH0 kvs I0 hr hk2 ht=>by
    obtain⟨z,hs,o,es,ep,raw,hsz,hkey⟩:=DP I0 hr;have hl:al.length=kvs.length:=(by have:=congrArg List.length hk2;simpa using this.symm);refine Tg (Cz hs) (I.ok.hd hc) raw (by rw[hsz];exact z) λh' tk acc' c' kp e2 it=>?_;have key:∃ws:aJ,Vals ws acc'.toList/\aK X.K (hid H O) (encK al) ws:=by
     have hlen:acc'.toList.length=al.length:=(by rw[Array.length_toList,it.1,hsz,hl]);have each:∀(j:Nat)(u:T2),acc'.toList[j]?=some u->∃b q,u=.ref b/\al[j]?.map (·.1)=some q/\H b=some (.tup (q.map kV)):=λj u e=>by
      obtain⟨en,e3,e4⟩:=it.2 j u (by rw[<-Array.getElem?_toList];exact e);obtain⟨b,q,w1,w2,w3⟩:=hkey j en e3;refine⟨b,q,by rw[e4,w1],?_,ht _ _ w3⟩
      have:=congrArg (λl=>l[j]?) hk2
      simp only[Qh]at this;rw[<-this];exact w2
     clear it e2;generalize acc'.toList=us at hlen each;clear hk hl hk2 h1 hh q
     induction us generalizing al with
     |nil=>
      cases al with
      |nil=>exact⟨[],.nil,cn.mpr rfl⟩
      |cons _ _=>cases hlen
     |cons u us ih=>
      cases al with
      |nil=>cases hlen
      |cons p al=>
       obtain⟨ws,w1,w2⟩:=ih (al:=al) (by simpa using hlen) λj u e=>by
        have:=each (j+1) u (by rw[Rm];exact e)
        rw[Rm]at this;exact this
       obtain⟨b,q,e1,e2,e3⟩:=each 0 u rfl;cases e2;have bO:b∉O:=λz=>by
        obtain⟨u',q1,q2⟩:=hO.2 b z;rw[e3]at q1;cases q1;exact q2
       exact⟨.ref b::ws,.cons (by rw[e1];rfl) w1,aX.mpr ⟨.ref b,ws,rfl,bY.mpr ⟨b,_,rfl,by rw[gJ bO];exact e3,ub p.1⟩,w2⟩⟩
    obtain⟨ws,rv,dn⟩:=key;have wl:ws.length<=Ud:=(by rw[<-dn.length,P7,hl];exact z);refine⟨.ref s.heap.objs.size,_,I.laid (t':=tk) kp (PX _) (show b9 X.prog X.w _ h' _ (.lst ws)from⟨wl,acc'.toList,c',rv,by simpa using e2⟩),rfl,?_⟩;have hf:=I.hok.fresh (PX s.heap.objs.size);exact q _ _ (bj hf _) (cS hO hf dn)
   rcases hh with⟨kvs,hr,e1,_⟩|⟨hr,e1⟩
   ·refine fin H kvs I ?_ e1 λ_ _ z=>z;rcases hr with hr|⟨o,hr⟩
    ·exact .inl ((aj H O) _ _ hr)
    ·exact .inr ⟨o,(aj H O) _ _ hr⟩
   ·have ha:=(aj H O) _ _ hr;refine fin _ [] (Bc I ha) (.inl ay) (by rw[e1];rfl) λb ys eb=>?_;by_cases z:b=a
    ·rw[z,ay]at eb;cases eb
    ·rw[ao z]at eb;exact eb
 ·cases hg
end
end TG
namespace TG
open PySem PySem.Spec PySem.Calls L2
variable[aB]
noncomputable def yg(dd k:D):bG:=match dd with
 |.dct ks ds=>(Eh ks ds).bind λal=>(fK k).bind λq=>jS al q
 |_=>none
theorem HM{H:Hp}{O:az}{a:T5}{u:HO}(h:Rd (hid H O) a u):Rd H a u:=by
 rcases h with h|⟨o,h⟩
 ·exact .inl ((aj H O) _ _ h)
 ·exact .inr ⟨o,(aj H O) _ _ h⟩
noncomputable def wQ(i:Nat)(f:FX):bH:=λk ρ=>match ρ[i]? with
 |some (some (.own (.lst xs)))=>o7 (f ρ) k ρ λd=>match d with
  |.lst ys=>if small (xs.length+ys.length)then k.nx (ρ.set i (some (.own (.lst (xs++ys)))))else un
  |_=>un
 |_=>un
end TG
namespace L2
open PySem PySem.Spec PyProof.Rows
end L2
namespace TG
open PySem PySem.Spec L2
variable[aB]
end TG
namespace TG
open PySem PySem.Spec L2
variable[aB]
section
variable{K:SH}{Hb H:Hp}{Ob O:az}{ρ:aq}{σ:St}
theorem cY.hide(E:cY K Hb Ob O H ρ σ){p:T5}{o:HO}(m:oV o)(hp:H p=none):cY K Hb Ob (p::O) (upd H p o) ρ σ:=
 ⟨E.env.hideNew m hp,⟨E.base.same.trans (bj hp o),fun a ha=>PL _ (E.base.sub a ha),fun a ha=>by
  rcases List.mem_cons.mp ha with z|z
  ·rw[z];exact .inr (E.base.same.free hp)
  ·exact E.base.new a z⟩,E.mine,λj d q=>(E.nst j d q).to rfl (mC hp) (λb q1 q2 q3 q4 ⟨o',ho⟩=>⟨ao (aE ho hp),PL _ q1,q2,q4⟩) λl d' w=>⟨d',w⟩⟩
theorem cY.new(E:cY K Hb Ob O H ρ σ){p:T5}(hp:H p=none):Hb p=none/\p∉Ob/\∀(j:Nat) d',ρ[j]?=some (some (.own d'))->σ[j]?≠some (some (.ref p)):=by
 have pO:=E.env.all.not hp;refine⟨E.base.same.free hp,λz=>pO (E.base.sub p z),λj d' w z=>?_⟩;obtain⟨c,e1,e2,_⟩:=E.env.own j d' w;rw[z]at e1;cases e1;exact pO e2
theorem cY.setL(E:cY K Hb Ob O H ρ σ){i:Nat}(hi:i<σ.length)(hn:EF ρ=true){p:T5}{bs:az}{d:D}(new:qN K H O p bs d)(nd:(p::bs).Nodup)(hb:∀b∈p::bs,b∈O/\Hb b=none/\b∉Ob/\∀(j:Nat) d',ρ[j]?=some (some (.own d'))->σ[j]?≠some (some (.ref b))):
  cY K Hb Ob O H (ρ.set i (some (.nest d))) (σ.set i (some (.ref p))):=by
 have key:∀(j:Nat)(x:S),(ρ.set i (some (.nest d)))[j]?=some (some x)->(j=i/\x=.nest d)\/(j≠i/\ρ[j]?=some (some x)/\(σ.set i (some (.ref p)))[j]?=σ[j]?):=λj x e=>by
  rcases aI e with⟨hj,q⟩|⟨ne,q⟩
  ·cases q;exact .inl ⟨hj,rfl⟩
  ·exact .inr ⟨ne,q,PQ (Ne.symm ne)⟩
 have own:∀(j:Nat) xs,(ρ.set i (some (.nest d)))[j]?=some (some (.own xs))->ρ[j]?=some (some (.own xs))/\(σ.set i (some (.ref p)))[j]?=σ[j]?:=λj xs e=>by
  rcases key j _ e with⟨_,q⟩|⟨_,q⟩
  ·cases q
  ·exact q
 refine⟨⟨λj d1 e=>?_,λj xs e=>?_,λj l xs ys a e1 e2 e3 e4=>?_,E.env.all⟩,E.base,λj xs a e1 e2=>?_,λj dn e=>?_⟩
 ·rcases key j _ e with⟨_,q⟩|⟨_,q,w⟩
  ·cases q
  ·rw[w];exact E.env.val j d1 q
 ·obtain⟨q,w⟩:=own j xs e;rw[w];exact E.env.own j xs q
 ·obtain⟨q1,w1⟩:=own j xs e1;obtain⟨q2,w2⟩:=own l ys e2;rw[w1]at e3;rw[w2]at e4;exact E.env.one j l xs ys a q1 q2 e3 e4
 ·obtain⟨q,w⟩:=own j xs e1;rw[w]at e2;exact E.mine j xs a q e2
 ·rcases key j _ e with⟨hj,q⟩|⟨_,q,_⟩
  ·cases q;subst hj;refine⟨p,bs,PP hi,new,nd,λb h=>?_,λl d' w=>?_⟩
   ·obtain⟨w1,w2,w3,w4⟩:=hb b h;exact⟨w1,w2,w3,λl d' w=>by obtain⟨q,z⟩:=own l d' w;rw[z];exact w4 l d' q⟩
   ·rcases key l _ w with⟨hl,_⟩|⟨_,q,_⟩
    ·exact hl
    ·exact absurd q (jE hn l d')
  ·exact absurd q (jE hn j dn)
theorem v9:∀{bs:az}{xs:List D}{c:Nat}{x:D},jj K H O bs xs->bs.Nodup->xs[c]?=some x->∃b,bs[c]?=some b/\cD K H O b x/\∀(H':Hp)(O':az)(x':D),(∀c'∈bs,c'≠b->∀z,cD K H O c' z->cD K H' O' c' z)->cD K H' O' b x'->jj K H' O' bs (xs.set c x')
 |b::bs,y::xs,0,x,h,nd,e=>by
  cases e;exact⟨b,rfl,h.1,λH' O' x' f n=>⟨n,h.2.imp λc hc=>f c (PL _ hc) λz=>(List.nodup_cons.mp nd).1 (by rw[<-z];exact hc)⟩⟩
 |b::bs,y::xs,c+1,x,h,nd,e=>by
  obtain⟨b',q1,q2,q3⟩:=v9 h.2 (List.nodup_cons.mp nd).2 (show xs[c]?=some x from e);exact⟨b',q1,q2,λH' O' x' f n=>⟨f b PJ (λz=>(List.nodup_cons.mp nd).1 (by rw[z];exact Qi q1)) _ h.1,q3 H' O' x' (λc' hc=>f c' (PL _ hc)) n⟩⟩
 |[],_::_,_,_,h,_,_=>h.elim
 |[],[],_,_,_,_,e=>by simp at e
end
noncomputable def n8(i:Nat):bH:=λk ρ=>if EF ρ then k.nx (ρ.set i (some (.nest (.lst [.lst [],.lst []]))))else un
noncomputable def oC(i c:Nat)(f:FX):bH:=λk ρ=>match ρ[i]? with
 |some (some (.nest (.lst xs)))=>(match xs[c]? with
  |some (.lst ys)=>(xj (f ρ)).bind λv=>if small (ys.length+1)then k.nx (ρ.set i (some (.nest (.lst (xs.set c (.lst (ys++[v])))))))else un
  |_=>un)
 |_=>un
theorem wW{i c:Nat}{f:FX}{k:Ks}{ρ:aq}{r:R D}(h:oC i c f k ρ=r)(hr:r≠un):∃xs ys v,ρ[i]?=some (some (.nest (.lst xs)))/\xs[c]?=some (.lst ys)/\f ρ=.ok v/\small (ys.length+1)=true/\k.nx (ρ.set i (some (.nest (.lst (xs.set c (.lst (ys++[v])))))) )=r:=by
 unfold oC at h;split at h
 ·rename_i xs hi;split at h
  ·rename_i ys hc;cases e1:f ρ with
   |error z=>rw[e1]at h;exact absurd h.symm hr
   |ok v=>
    rw[e1]at h;have h:(if small (ys.length+1)then k.nx (ρ.set i (some (.nest (.lst (xs.set c (.lst (ys++[v])))))))else un)=r:=h;cases hs:small (ys.length+1)with
    |false=>rw[hs]at h;exact absurd h.symm hr
    |true=>rw[hs]at h;exact⟨xs,ys,v,hi,hc,rfl,hs,h⟩
  ·exact absurd h.symm hr
 ·exact absurd h.symm hr
end TG
namespace TX
open PySem PySem.Spec L2 TG
variable[aB]
structure XE(X:Cx)(e:T6)(F:FX):Prop where h:FE X e F
structure XT(X:Cx)(e:T6)(F:bT):Prop where h:FT X e F
structure XW(X:Cx)(e:T6)(F:bT):Prop where h:FW X e F
structure XA(X:Cx)(e:bx)(F:bE):Prop where h:FA X e F
structure XS(X:Cx)(e:T7)(F:bH):Prop where h:FS X e F
structure ny(X:Cx)(e:eJ)(F:bH):Prop where h:MS X e F
structure XI(X:Cx)(t e:T6)(F:bE):Prop where h:FI X t e F
structure XG(X:Cx)(e:T6)(F:GF):Prop where h:FG X e F
structure IR(X:Cx)(e:bx)(F:Ei):Prop where h:Pn X e F
structure XO(X:Cx)(e:Option T6)(F:aq->R dQ):Prop where h:FO X e F
structure XN(X:Cx)(e:T6)(F:FX):Prop where h:FN X e F
structure Lx(X:Cx)(e:bx)(F:bT):Prop where h:N5 X e F
structure XV(X:Cx)(e:T6)(i:Nat):Prop where h:PE X e (C3 i)
structure XB(X:Cx)(scope:Uk)(N:ax)(tg elt:T6)(ifs:bx)(g:GF)(C:bT)(Fe:FX)(cl:mj)(C':T5)(fp:az)(s:T8)(H:Hp)(E:bh):Prop where
 a:XG (cq X scope N cl C' fp s H E) tg g
 b:Lx (cq X scope N cl C' fp s H E) ifs C
 c:XE (cq X scope N cl C' fp s H E) elt Fe
structure ra(X:Cx)(scope:Uk)(N:ax)(tg elt:T6)(ifs:bx)(g:GF)(C:bT)(Fe:FX):Prop where
 q:∀cl C' fp s H E,XB X scope N tg elt ifs g C Fe cl C' fp s H E
theorem ra.h{X:Cx}{scope:Uk}{N:ax}{tg elt:T6}{ifs:bx}{g:GF}{C:bT}{Fe:FX}(x:ra X scope N tg elt ifs g C Fe):N6 X scope N tg elt ifs g C Fe:=λcl C' fp s H E=>⟨(x.q cl C' fp s H E).a.h,(x.q cl C' fp s H E).b.h,(x.q cl C' fp s H E).c.h⟩
theorem xv{X:Cx}(i:Nat){x:Str}{pos:Pos}(hN:X.N[i]?=some x:=by rfl)(hv:Ij X.env.scope x:=by first|exact Or.inl rfl|exact Or.inr (Or.inl rfl)|exact Or.inr (Or.inr rfl))(hd:(x==("__debug__":Str))=false:=by decide)
  (hcd:(x==("__classdict__":Str))=false:=by decide):XV X (.Name x pos) i:=⟨pv i hN hv hd hcd⟩
theorem N9{X:Cx}{e:T6}{f:bT}(h:XW X e f):XT X e f:=⟨FW.ft h.h⟩
section
variable[aB]{X:Cx}
theorem Fs{i:Nat}{x:Str}{pos:Pos}(h:XV X (.Name x pos) i):XE X (.Name x pos) (ae i):=⟨PE.weak h.h λσ H Q ⟨O,ρ,E,hF⟩=>by
  obtain⟨d,e,q⟩:=tW hF;obtain⟨v,e,dv⟩:=E.val i d e;exact⟨v,e,q v H (aR.refl H) dv⟩⟩
theorem Gm{i j pos}:XE X (.Constant (.int i) j pos) (fC (.int i)):=⟨j9 xG λ_ _=>eF.mpr rfl⟩
theorem IH{b j pos}:XE X (.Constant (.bool b) j pos) (fC (.bl b)):=⟨j9 Ka λ_ _=>ju.mpr rfl⟩
theorem Fk{j pos}:XE X (.Constant .none j pos) (fC .non):=⟨j9 JB λ_ _=>jB.mpr rfl⟩
theorem Fx{x j pos}:XE X (.Constant (.str x) j pos) (fC (.str x)):=⟨j9 JZ λ_ _=>eN.mpr rfl⟩
theorem GW:XA X [] af:=⟨TG.CT ⟩
theorem Cv{e:T6}{es:bx}{f:FX}{g:bE}(he:XE X e f)(hs:XA X es g)(hns:noStar e=true:=by rfl):XA X (e::es) (aa f g):=⟨TG.yS he.h hs.h hns⟩
theorem Fa{es:bx}{g:bE}{k pos}(h:XA X es g):XE X (.Tuple es k pos) (aL g):=⟨PE.weak (Je h.h) λσ H Q ⟨O,ρ,E,hF⟩=>⟨O,ρ,E,(gW.bind hF).imp λxs hF vs H1 s1 d1=>by
  obtain⟨d,e,q⟩:=gW.rO hF;obtain⟨hz,e⟩:=bD e;subst e;refine⟨by rw[<-d1.length];exact dJ hz,λp hp=>?_⟩;exact q _ _ (s1.trans (bj hp _)) (dY (E.all.same s1) hp d1)⟩⟩
theorem EW{es:bx}{g:bE}{pos}(h:XA X es g):XE X (.List es pos) (eV g):=⟨PE.weak (n6 h.h) λσ H Q ⟨O,ρ,E,hF⟩=>⟨O,ρ,E,(gW.bind hF).imp λxs hF vs H1 s1 d1=>by
  obtain⟨d,e,q⟩:=gW.rO hF;obtain⟨hz,e⟩:=bD e;subst e;refine⟨by rw[<-d1.length];exact dJ hz,λp hp=>?_⟩;exact q _ _ (s1.trans (bj hp _)) (cS (E.all.same s1) hp d1)⟩⟩
theorem gS{a b:T6}{op:Operator}{r:R2}{g:D->D->bG}{fa fb:FX}{pos:Pos}(ho:iL X (Uz op) r)(s:cW X.K r g)(ha:XE X a fa)(hb:XE X b fb):XE X (.BinOp a op b pos) (f2 g fa fb):=⟨PE.weak (K8 ho ha.h hb.h) (uw s)⟩
theorem gZ{a b:T6}{op:UB}{r:R2}{g:D->D->bG}{fa fb:FX}{pos:Pos}(ho:iL X (UA op) r)(s:cW X.K r g)(ha:XE X a fa)(hb:XE X b fb)(hm:UC op b=false):XE X (.Compare a [op] [b] pos) (f2 g fa fb):=⟨PE.weak (EV ho ha.h hb.h hm) (uw s)⟩
theorem gY{a b:T6}{op:UB}{r:R2}{g:D->D->bG}{fa fb:FX}{pos:Pos}(ho:iL X (UA op) r)(s:cW X.K r g)(ha:XE X a fa)(hb:XE X b fb)(hm:UC op b=false):XT X (.Compare a [op] [b] pos) (fB (f2 g fa fb)):=⟨PT.weak (GV ho ha.h hb.h hm) (uX (uw s))⟩
end
section
variable[aB]{X:Cx}{a b c:T6}{rest:bx}{pos:Pos}{f g:bT}
theorem EE(h:XT X a f):XT X (.UnaryOp .Not a pos) (lT f):=⟨PT.weak (IG h.h) λσ H Q ⟨O,ρ,E,hF⟩=>⟨O,ρ,E,(gW.bind hF).imp λb q H1 s1=>q H1 s1⟩⟩
theorem Bl(h:XT X a f):XW X (.BoolOp .And [a] pos) f:=⟨Fc h.h⟩
theorem Gq(h:XT X a f):XW X (.BoolOp .Or [a] pos) f:=⟨JO h.h⟩
theorem Fm(ha:XT X a f)(hb:XW X (.BoolOp .And (b::rest) pos) g):XW X (.BoolOp .And (a::b::rest) pos) (vN f g):=⟨PW.weak (HF ha.h hb.h) λσ H Q ⟨O,ρ,E,hF⟩=>⟨O,ρ,E,(gW.bind hF).imp λc hF H1 s1=>by
 cases c with
 |true=>exact wf ⟨O,ρ,E.same s1,(hF.mono s1).imp λb q H2 s2=>q H2 (s1.trans s2)⟩
 |false=>exact uT (hF H1 s1)⟩⟩
theorem Ic(ha:XT X a f)(hb:XW X (.BoolOp .Or (b::rest) pos) g):XW X (.BoolOp .Or (a::b::rest) pos) (xx f g):=⟨PW.weak (Kb ha.h hb.h) λσ H Q ⟨O,ρ,E,hF⟩=>⟨O,ρ,E,(gW.bind hF).imp λc hF H1 s1=>by
 cases c with
 |false=>exact uT ⟨O,ρ,E.same s1,(hF.mono s1).imp λb q H2 s2=>q H2 (s1.trans s2)⟩
 |true=>exact wf (hF H1 s1)⟩⟩
end
section
variable[aB]{X:Cx}{a b c:T6}{rest:bx}{pos:Pos}{f g:bT}{fa fb:FX}
theorem Em{op}(h:XE X a fa):XE X (.BoolOp op [a] pos) fa:=⟨JD h.h⟩
theorem EI(ha:XE X a fa)(hb:XE X (.BoolOp .And (b::rest) pos) fb):XE X (.BoolOp .And (a::b::rest) pos) (jr fa fb):=⟨PE.weak (HP ha.h hb.h) λσ H Q ⟨O,ρ,E,hF⟩=>⟨O,ρ,E,(gW.bind hF).imp λd hF x H1 s1 d1=>by
 cases d with
 |bl c=>
  refine⟨c,ju.mp d1,?_⟩;cases c with
  |true=>exact wf ⟨O,ρ,E.same s1,(hF.mono s1).imp λd q v H2 s2 d2=>q v H2 (s1.trans s2) d2⟩
  |false=>exact uT (hF _ H1 s1 (ju.mpr rfl))
 |_=>exact hF.elim⟩⟩
theorem HQ(ha:XE X a fa)(hb:XE X (.BoolOp .Or (b::rest) pos) fb):XE X (.BoolOp .Or (a::b::rest) pos) (Gr fa fb):=⟨PE.weak (J7 ha.h hb.h) λσ H Q ⟨O,ρ,E,hF⟩=>⟨O,ρ,E,(gW.bind hF).imp λd hF x H1 s1 d1=>by
 cases d with
 |bl c=>
  refine⟨c,ju.mp d1,?_⟩;cases c with
  |false=>exact uT ⟨O,ρ,E.same s1,(hF.mono s1).imp λd q v H2 s2 d2=>q v H2 (s1.trans s2) d2⟩
  |true=>exact wf (hF _ H1 s1 (ju.mpr rfl))
 |_=>exact hF.elim⟩⟩
theorem Fo(ha:XE X a fa):XE X (.UnaryOp .Not a pos) (vx fa):=⟨PE.weak (II ha.h) λσ H Q ⟨O,ρ,E,hF⟩=>⟨O,ρ,E,(gW.bind hF).imp λd hF x H1 s1 d1=>by
 obtain⟨d',e,q⟩:=gW.rO hF;cases d with
 |bl c=>
  cases e;exact⟨c,ju.mp d1,q _ H1 s1 (ju.mpr rfl)⟩
 |_=>cases e⟩⟩
theorem Jt(hc:XT X c f)(ha:XE X a fa)(hb:XE X b fb):XE X (.IfExp c a b pos) (La f fa fb):=⟨PE.weak (Bn hc.h ha.h hb.h) λσ H Q ⟨O,ρ,E,hF⟩=>⟨O,ρ,E,(gW.bind hF).imp λd hF H1 s1=>by
 cases d with
 |true=>exact wf ⟨O,ρ,E.same s1,(hF.mono s1).imp λd q v H2 s2 d2=>q v H2 (s1.trans s2) d2⟩
 |false=>exact uT ⟨O,ρ,E.same s1,(hF.mono s1).imp λd q v H2 s2 d2=>q v H2 (s1.trans s2) d2⟩⟩⟩
end
section
variable[aB]{X:Cx}
theorem HU{a b:T6}{fa fb:FX}{pos:Pos}(ha:XE X a fa)(hb:XE X b fb)(hs:pE b):XE X (.Subscript a b pos) (f2 ah fa fb):=⟨PE.weak (G5 NP ha.h hb.h hs) (uw b7)⟩
theorem BQ:XO X none av:=⟨λpins s σ H Q I ⟨O,ρ,E,q⟩=>Ge pins s σ H Q I (q H (aR.refl H))⟩
theorem Bm{e:T6}{f:FX}(h:XE X e f):XO X (some e) (aY f):=⟨λpins s σ H Q I ⟨O,ρ,E,hF⟩=>
 GC h.h pins s σ H Q I ⟨O,ρ,E,(gW.bind hF).imp λd hF v H1 s1 d1=>by
  obtain⟨o,e,q⟩:=gW.rO hF;cases d with
  |int i=>
   cases e;exact⟨i,eF.mp d1,q H1 s1⟩
  |_=>cases e⟩⟩
theorem As{e:T6}{f:FX}{l h:aq->R dQ}{lo hi:Option T6}{p2 pos:Pos}(he:XE X e f)(hl:XO X lo l)(hh:XO X hi h):XE X (.Subscript e (.Slice lo hi none p2) pos) (aH f l h):=⟨PE.weak (CF NV he.h hl.h hh.h) λσ H Q ⟨O,ρ,E,hF⟩=>⟨O,ρ,E,(gW.bind hF).imp λa hF x H1 s1 d1=>⟨O,ρ,E.same s1,((gW.bind hF).mono s1).imp λlo' hF H2 s2=>⟨O,ρ,E.same (s1.trans s2),((gW.bind hF).mono (s1.trans s2)).imp λhi' hF H3 s3=>by
  obtain⟨d,e,q⟩:=gW.rO hF;exact⟨O,a,d,E.all.same ((s1.trans s2).trans s3),d1.mono (bq (s2.trans s3)),e,λv H4 s4 d4=>q v H4 (((s1.trans s2).trans s3).trans s4) d4⟩⟩⟩⟩⟩
end
section
variable[aB]{X:Cx}{x:Str}{p pos:Pos}{e:T6}{es:bx}{id T:String}{g:List D->bG}{f:bE}
theorem ia(hc:dW X (.builtin id) (xO X.K g))(hg:Gl X x)(hm:X.mg x=none)(hv:Ui x=some (.builtin id))(ha:XA X (e::es) f)(hn:x≠"__name__":=by decide)(hdb:(x==("__debug__":Str))=false:=by decide)(hns:(e::es).all noStar=true:=by rfl):XE X (.Call (.Name x p) (e::es) [] pos) (fL g f):=⟨PE.weak (vX hc hg hm hv ha.h hn hdb (cm (Qm _ _ ▸ hns).1) (eL (Qm _ _ ▸ hns).2)) (C6 pQ)⟩
theorem gg(hc:dW X (.type T) (xO X.K g))(hg:Gl X x)(hm:X.mg x=none)(hv:Ui x=some (.type T))(ha:XA X (e::es) f)(hn:x≠"__name__":=by decide)(hdb:(x==("__debug__":Str))=false:=by decide)(hns:(e::es).all noStar=true:=by rfl):XE X (.Call (.Name x p) (e::es) [] pos) (fL g f):=⟨PE.weak (tM hc hg hm hv ha.h hn hdb (cm (Qm _ _ ▸ hns).1) (eL (Qm _ _ ▸ hns).2)) (C6 pQ)⟩
theorem o6{f:FX}{xT:Str}{p2:Pos}(ok:yj X.K T)(hg:Gl X "isinstance")(hm:X.mg "isinstance"=none)(hgT:Gl X xT)(hmT:X.mg xT=none)(hvT:Ui xT=some (.type T))(he:XE X e f)(hn2:xT≠"__name__":=by decide)(hd2:(xT==("__debug__":Str))=false:=by decide)(hns:noStar e=true:=by rfl):XE X (.Call (.Name "isinstance" p) [e,.Name xT p2] [] pos) (iR T f):=⟨PE.weak (vX (Bs ok) hg hm Dq (gq he.h (gq (EC (v:=.ty T) hgT hmT hvT rfl hn2 hd2) iI (cm rfl)) (cm hns)) (by decide) (by decide) (cm hns) (eL rfl)) λσ H Q ⟨O,ρ,E,hF⟩=>⟨O,ρ,E,(gW.bind hF).imp λa hF v H1 s1 d1=>by
  obtain⟨d,e,q⟩:=gW.rO hF;obtain⟨h1,h2⟩:=bD e;subst h2;exact⟨O,v,a,rfl,h1,d1,q _ H1 s1 (ju.mpr rfl)⟩⟩⟩
end
section
variable[aB]{X:Cx}{a:T6}{f:FX}{pos:Pos}
theorem Ae(h:XE X a f)(he:∀whole,isTrue a X.env whole=(do let v<-whole;standAt a.pos;holding [v] (truthy v)):=by intro _;rfl):XT X a (cQ f):=⟨PT.weak (C1 h.h he) λσ H Q ⟨O,ρ,E,hF⟩=>⟨O,ρ,E,(gW.bind hF).imp λd hF x H1 s1 d1=>by
 obtain⟨r,hF,q⟩:=gW.rO hF;refine⟨r,?_,q H1 s1⟩;cases d with
 |non=>cases hF;rw[jB.mp d1];rfl
 |bl b=>cases hF;rw[ju.mp d1];rfl
 |int i=>cases hF;rw[eF.mp d1];rfl
 |str y=>
  obtain⟨hz,e⟩:=bD hF;subst e;rw[eN.mp d1];refine⟨dJ hz,?_⟩;show(y.length !=0)=((y.length:Int) !=0)
  cases y.length<;>rfl
 |tup xs=>
  cases hF;obtain⟨p,vs,e,g1,g2⟩:=bY.mp d1;rw[e];refine .inr (.inl ⟨vs,bJ (aj H1 O) g1,?_⟩);have l:=g2.length;cases xs<;>cases vs<;>first|rfl|(simp at l)
 |lst xs=>
  cases hF;obtain⟨p,vs,e,g1,g2⟩:=bX.mp d1;rw[e];refine .inl ⟨vs,(aj H1 O).seq g1,?_⟩;have l:=g2.length;cases xs<;>cases vs<;>first|rfl|(simp at l)
 |_=>cases hF⟩⟩
end
section
variable[aB]{X:Cx}{tg:T6}
theorem Ek{e:T6}{f:FX}(h:XE X e f):XI X tg e (aG f):=by
 refine⟨?_⟩;rintro pins s σ H R I ⟨O,ρ,E,hG⟩;have hG':=gW.bind hG;cases hf:f ρ with
 |error z=>exact y6 h.h pins s σ H R I ⟨O,ρ,E,by rw[hf]at hG' ⊢;cases z with|none=>exact hG'.elim|some x=>exact hG'⟩
 |ok d=>
  rw[hf]at hG';obtain⟨ds,e1,q⟩:=gW.rO (α:=List D) (o:=qJ d) hG';cases d with
  |lst xs=>
   cases e1;refine y6 h.h pins s σ H R I ⟨O,ρ,E,?_⟩;rw[hf];refine λv H1 s1 d1=>?_;obtain⟨p,vs,ev,g1,g2⟩:=bX.mp d1;exact⟨p,ev,⟨vs,(aj H1 O).seq g1⟩,q _ H1 s1 (zR g1 g2)⟩
  |tup xs=>
   cases e1;refine JQ h.h pins s σ H R I ⟨O,ρ,E,?_⟩;rw[hf];refine λv H1 s1 d1=>?_;obtain⟨p,vs,ev,g1,g2⟩:=bY.mp d1;exact⟨p,ev,⟨vs,bJ (aj H1 O) g1⟩,q _ H1 s1 (BW g1 g2)⟩
  |_=>cases e1
theorem yq{a:T6}{f:bE}{p pos:Pos}(hg:Gl X "range")(hm:X.mg "range"=none)(ha:XA X [a] f)(hs:Um [a] X.env=[(false,eval a X.env)]:=by rfl):XI X tg (.Call (.Name "range" p) [a] [] pos) (eX f):=by
 refine⟨?_⟩;rintro pins s σ H R I ⟨O,ρ,E,hG⟩;refine Ag hg hm ha.h hs pins s σ H R I ⟨O,ρ,E,(gW.bind hG).imp λes hG' vs H1 s1 d1=>?_⟩;clear hG;obtain⟨ds,hG,q⟩:=gW.rO hG';clear hG';unfold lx at hG;split at hG
 ·rename_i j;obtain⟨h1,h2⟩:=bD hG;subst h2;obtain⟨j1,j2⟩:=of_decide_eq_true h1;obtain⟨v,ev,dv⟩:=d1.one;exact⟨j,by rw[ev,eF.mp dv],j1,j2,q _ H1 s1 (pY 0 _)⟩
 ·cases hG
theorem xn{a b:T6}{f:bE}{p pos:Pos}(hg:Gl X "range")(hm:X.mg "range"=none)(ha:XA X [a,b] f)(hs:Um [a,b] X.env=[(false,eval a X.env),(false,eval b X.env)]:=by rfl)(hs2:Um [b] X.env=[(false,eval b X.env)]:=by rfl):XI X tg (.Call (.Name "range" p) [a,b] [] pos) (o9 f):=by
 refine⟨?_⟩;rintro pins s σ H R I ⟨O,ρ,E,hG⟩;refine An hg hm ha.h hs hs2 pins s σ H R I ⟨O,ρ,E,(gW.bind hG).imp λes hG' vs H1 s1 d1=>?_⟩;clear hG;obtain⟨ds,hG,q⟩:=gW.rO hG';clear hG';unfold pp at hG;split at hG
 ·rename_i i j;obtain⟨h1,h2⟩:=bD hG;subst h2;rw[Qm]at h1;obtain⟨i1,i2⟩:=of_decide_eq_true h1.1;obtain⟨j1,j2⟩:=of_decide_eq_true h1.2;obtain⟨v,w,ev,dv,dw⟩:=d1.two;exact⟨i,j,by rw[ev,eF.mp dv,eF.mp dw],⟨i1,i2,j1,j2⟩,q _ H1 s1 (pY i _)⟩
 ·cases hG
end
section
variable[aB]{X:Cx}{pos:Pos}
theorem B4{i:Nat}{x:Str}(hN:X.N.Nodup)(hi:X.N[i]?=some x)(hx:Loc X.env.scope x)(hf:X.fn x=true\/X.env.scope.names.lookup x=some .local:=by first|exact .inl rfl|exact .inr rfl|assumption):XG X (.Name x pos) (gN i):=by
 refine⟨?_⟩;rintro pins s σ H v u Q I r ⟨O,ρ,d,ρ',E,hd,hg,q⟩;cases hg;have hiσ:i<σ.length:=by rw[I.len];exact(List.getElem?_eq_some_iff.mp hi).1
 refine GY hN hi hx hf pins s σ H v u Q I r (q _ (E.setV hiσ hd) λj x e nv=>?_);rcases aI e with⟨_,eq⟩|⟨ne,eq⟩
 ·cases eq;exact absurd rfl (nv _)
 ·exact⟨PQ (Ne.symm ne),eq⟩
theorem Bu:IR X [] G7:=by
 refine⟨?_⟩;rintro pins s σ H vs us Q I r ⟨O,ρ,ds,ρ',E,hd,hg,q⟩;cases ds with
 |nil=>
  cases hg;rw[cn]at hd;exact G1 pins s σ H vs us Q I r ⟨hd,q _ E λi x e _=>⟨rfl,e⟩⟩
 |cons _ _=>cases hg
theorem zK{e:T6}{es:bx}{g:GF}{h:Ei}(h1:XG X e g)(h2:IR X es h)(hs:(assignEach (e::es) X.env).map (·.2)=assign e X.env::(assignEach es X.env).map (·.2):=by rfl):IR X (e::es) (Bt g h):=by
 refine⟨?_⟩;rintro pins s σ H vs us Q I r ⟨O,ρ,ds,ρ',E,hd,hg,q⟩;cases ds with
 |nil=>cases hg
 |cons d ds=>
  obtain⟨ρ1,e1,e2⟩:=bind_some hg;rw[aX]at hd;obtain⟨v,vr,ev,d1,d2⟩:=hd;exact CG h1.h h2.h hs pins s σ H vs us Q I r ⟨v,vr,ev,O,ρ,d,ρ1,E,d1,e1,λσ1 E1 k1=>⟨O,ρ1,ds,ρ',E1,d2,e2,λσ2 E2 k2=>q σ2 E2 λi x e nv=>by
   obtain⟨a1,a2⟩:=k2 i x e nv;obtain⟨b1,b2⟩:=k1 i x a2 nv;exact⟨a1.trans b1,b2⟩⟩⟩
theorem EB{es:bx}{k:Nat}{g:Ei}{n:Nat}(hc:X.calm=true)(h:IR X es g)(hn:(assignEach es X.env).length=n:=by rfl)(hst:(assignEach es X.env).findIdx? (·.1)=none:=by rfl):XG X (.Tuple es k pos) (gT n g):=by
 refine⟨?_⟩;rintro pins s σ H v u Q I r ⟨O,ρ,d,ρ',E,hd,hg,q⟩;cases d with
 |tup xs=>
  obtain⟨p,vs,ev,g1,g2⟩:=bY.mp hd;have hg':(if xs.length=n then g xs ρ else none)=some ρ':=hg;by_cases hl:xs.length=n
  ·rw[if_pos hl]at hg';exact JA hc h.h hn hst pins s σ H v u Q I r ⟨p,vs,ev,bJ (aj H O) g1,by rw[<-g2.length];exact hl,O,ρ,xs,ρ',E,g2,hg',q⟩
  ·rw[if_neg hl]at hg';cases hg'
 |_=>cases hg
end
section
variable[aB]
theorem Ds{X:Cx}:Lx X [] bF:=⟨λpins s σ H Q I ⟨O,ρ,E,q⟩=>FU pins s σ H Q I (q H (aR.refl H))⟩
theorem CM{X:Cx}{c:T6}{F:bT}(h:XT X c F):Lx X [c] F:=⟨GH h.h⟩
end
section
variable[aB]{X:Cx}{elt tg iter:T6}{ifs:bx}{scope:Uk}{pos:Pos}{N:ax}{ix:gH}{G:bE}{g:GF}{C:bT}{Fe:FX}
theorem Ih(hc:X.calm=true)(ok:mQ X scope N ix)(tk:oT ix g)(hi:XI X tg iter G)(hb:ra X scope N tg elt ifs g C Fe)(hs:∀x,Ux iter X.env x=pure x:=by intro _;rfl):XE X (.ListComp elt [⟨tg,iter,ifs,0⟩] scope pos) (dA ix G g C Fe):=⟨PE.weak (Hc hc ok.cell ok.kind ok.names ok.free ok.ix hi.h hb.h.k hs) (HA tk)⟩
end
section
variable[aB]{X:Cx}{st:T7}{rest body:eJ}{pos:Pos}
theorem DR:ny X [] bC:=⟨λHb Ob=>wy.weak Gn λE σ H ⟨O,ρ,k,r,S,hF,hk⟩=>hk.nx O ρ σ H S hF⟩
theorem zD{F1 F2:bH}(h1:XS X st F1)(h2:ny X rest F2):ny X (st::rest) (ai F1 F2):=⟨λHb Ob=>wy.weak (Dj (h1.h Hb Ob) (h2.h Hb Ob)) λE σ H ⟨O,ρ,k,r,S,hF,hk⟩=>
 ⟨O,ρ,{k with nx:=F2 k},r,S,hF,hk.ne,λO' ρ' σ' H' S' e=>⟨O',ρ',k,r,S',e,hk⟩,hk.bk,hk.ct,hk.rt,hk.ex⟩⟩
theorem Dz{F1:bH}(h1:XS X st F1):ny X [st] F1:=⟨λHb Ob=>yz (h1.h Hb Ob)⟩
theorem FK{e:T6}{f:FX}(h:XE X e f):XS X (.Return (some e) pos) (aN f):=⟨λHb Ob=>PS.weak (JW h.h) λE σ H ⟨O,ρ,k,r,S,hF,hk⟩=>
 ⟨O,ρ,S.env,gW.on hF hk S λd e v H' s' d'=>hk.rt d O v H' e.symm (S.base.same' s') d'⟩⟩
theorem CU:XS X (.Pass pos) bC:=⟨λHb Ob=>PS.weak Gy λE σ H ⟨O,ρ,k,r,S,hF,hk⟩=>hk.nx O ρ σ H S hF⟩
theorem Et{x j pos'}:XS X (.Expr (.Constant (.str x) j pos) pos') bC:=⟨λHb Ob=>PS.weak Io λE σ H ⟨O,ρ,k,r,S,hF,hk⟩=>hk.nx O ρ σ H S hF⟩
theorem Jn{c:T6}{a b:eJ}{tc:bT}{A B:bH}(hc:XT X c tc)(ha:ny X a A)(hb:ny X b B):XS X (.If c a b pos) (fF tc A B):=⟨λHb Ob=>PS.weak (KS hc.h (ha.h Hb Ob) (hb.h Hb Ob)) λE σ H ⟨O,ρ,k,r,S,hF,hk⟩=>
 ⟨O,ρ,S.env,gW.on hF hk S fun z e H1 s1=>by
  cases z with
  |true=>exact wf ⟨O,ρ,k,r,S.same s1,e,hk⟩
  |false=>exact uT ⟨O,ρ,k,r,S.same s1,e,hk⟩⟩⟩
theorem GZ{i:Nat}{x:Str}{e:T6}{f:FX}{pos':Pos}(hN:X.N.Nodup)(hi:X.N[i]?=some x)(hx:Loc X.env.scope x)(he:XE X e f)(hs:swapsWith e (some (.Name x pos')) pos.line X.env=pure false:=by rfl)(hf:X.fn x=true\/X.env.scope.names.lookup x=some .local:=by first|exact .inl rfl|exact .inr rfl|assumption):XS X (.Assign [.Name x pos'] e pos) (aM i f):=⟨sS (List.getElem?_eq_some_iff.mp hi).1 (ua hN hi hx he.h hs hf)⟩
theorem IJ{elt tg iter:T6}{ifs:bx}{scope:Uk}{N:ax}{ix:gH}{G:bE}{g:GF}{C:bT}{Fe:FX}{i:Nat}{y:Str}{lpos py spos:Pos}(hN:X.N.Nodup)(hi':X.N[i]?=some y)(hx:Loc X.env.scope y)(hc:X.calm=true)(ok:mQ X scope N ix)(tk:oT ix g)(hi:XI X tg iter G)(hb:ra X scope N tg elt ifs g C Fe)(hsw:swapsWith (.ListComp elt [⟨tg,iter,ifs,0⟩] scope lpos) (some (.Name y py)) spos.line X.env=pure true:=by rfl)(hs:∀x,Ux iter X.env x=pure x:=by intro _;rfl)(hf:X.fn y=true\/X.env.scope.names.lookup y=some .local:=by first|exact .inl rfl|exact .inr rfl|assumption):XS X (.Assign [.Name y py] (.ListComp elt [⟨tg,iter,ifs,0⟩] scope lpos) spos) (aM i (dA ix G g C Fe)):=⟨sS (List.getElem?_eq_some_iff.mp hi').1 (PS.weak (Hu hN hi' hx hc ok.cell ok.kind ok.names ok.free ok.ix hi.h hb.h.k hsw hs hf) λE σ H q=>HA tk σ H _ q)⟩
theorem En{tg e:T6}{f:FX}{g:GF}(he:XE X e f)(hg:XG X tg g)(hs:swapsWithSole [tg] e pos.line X.env=pure false:=by rfl)(hw:swappedStores [tg] e X.env=pure none:=by rfl)(h1:(assignEach [tg] X.env).map (·.2)=[assign tg X.env]:=by rfl):XS X (.Assign [tg] e pos) (Fq f g):=⟨λHb Ob=>PS.weak (HH he.h hg.h hs hw h1) λE σ H ⟨O,ρ,k,r,S,hF,hk⟩=>
 ⟨O,ρ,S.env,gW.on hF hk S fun d e v H1 s1 d1=>by
  cases hg.h:g d ρ with
  |none=>rw[hg.h]at e;exact absurd e.symm hk.ne
  |some ρ1=>
   rw[hg.h]at e;refine⟨O,ρ,d,ρ1,(S.same s1).env,d1,hg.h,λσ' E' own=>hk.nx O ρ1 σ' H1 ((S.same s1).after E' own) e⟩⟩⟩
theorem C8:XS X st lJ:=⟨λHb Ob pins s σ H E I ⟨O,ρ,k,r,S,hF,hk⟩=>absurd hF.symm hk.ne⟩
theorem Ay{st:eJ}:ny X st lJ:=⟨λHb Ob pins s σ H E I ⟨O,ρ,k,r,S,hF,hk⟩=>absurd hF.symm hk.ne⟩
theorem zT{st:eJ}{F:bH}(is:List Nat)(h:ny X st F):ny X st (dC is F):=⟨λHb Ob=>wy.weak (h.h Hb Ob) λE σ H ⟨O,ρ,k,r,S,hF,hk⟩=>⟨O,TG.kill is ρ,k,r,S.kill is,hF,hk⟩⟩
theorem E7{tg iter:T6}{G:bE}{g:GF}{B:bH}(hp:Uw (model X.prog X.w) X.A X.env X.xe)(hc:X.calm=true)(hi:XI X tg iter G)(hg:XG X tg g)(hb:ny X body B)(hs:∀x,Ux iter X.env x=pure x:=by intro _;rfl):XS X (.For tg iter body [] pos) (iE G g B):=⟨λHb Ob pins s σ H E I ⟨O,ρ,k,r,S,hF,hk⟩=>by
 have hall:wy X body (λE σ H=>∃Hb',Mq X Hb' Ob B E σ H):=λpins s σ H E I ⟨Hb',q⟩=>hb.h Hb' Ob pins s σ H E I q;refine Iq hp hc hi.h hg.h hall hs pins s σ H E I ⟨O,ρ,S.env,gW.on hF hk S λds hF J H1 s1 wk=>?_⟩;have E1:=S.same s1;refine⟨λi m σ H=>m=ds.length-i/\i<=ds.length/\∃O' ρ',cY X.K (lb H1 O Ob) Ob O' H ρ' σ/\iu g B k (ds.drop i) ρ'=r,
  ⟨ds.length,by rw[QZ],P9 _,O,ρ,E1.loop,by rw[QJ];exact hF⟩,?_⟩
 rintro i m σ' H' ⟨rfl,hi',O',ρ',E',hr⟩;have sD:=Dc E1.base E'.base;by_cases hlt:i<ds.length
 ·right;obtain⟨go,yl⟩:=(wk H' O' i E'.env.all sD).1 ds[i] (by simp[hlt]);refine⟨go,λσ2 H2=>ds.length-(i+1)=ds.length-(i+1)/\i+1<=ds.length/\∃O' ρ',cY X.K (lb H1 O Ob) Ob O' H2 ρ' σ2/\iu g B k (ds.drop (i+1)) ρ'=r,λσ2 H2 z=>⟨ds.length-(i+1),by omega,z⟩,λx H2 y=>?_⟩;obtain⟨s2,dx⟩:=yl x H2 y;have E':=E'.same s2;rw[Rb hlt]at hr;cases hg':g ds[i] ρ' with
  |none=>
   have hr':(rO (g ds[i] ρ')).bind (λρ1=>B ⟨iu g B k (ds.drop (i+1)),k.nx,iu g B k (ds.drop (i+1)),k.ex⟩ ρ1)=r:=hr;rw[hg']at hr';exact absurd hr'.symm hk.ne
  |some ρ1=>
   have hr':(rO (g ds[i] ρ')).bind (λρ1=>B ⟨iu g B k (ds.drop (i+1)),k.nx,iu g B k (ds.drop (i+1)),k.ex⟩ ρ1)=r:=hr;rw[hg']at hr';refine⟨O',ρ',ds[i],ρ1,E'.env,dx,hg',λσ3 E3 own=>?_⟩;have E3':cY X.K (lb H1 O Ob) Ob O' H2 ρ1 σ3:=E'.after E3 own;exact⟨lb H1 O Ob,O',ρ1,⟨iu g B k (ds.drop (i+1)),k.nx,iu g B k (ds.drop (i+1)),k.ex⟩,r,E3',hr',hk.loop E1.base (λO4 ρ4 σ4 H4 E4 z=>⟨rfl,hlt,O4,ρ4,E4,z⟩) (λO4 ρ4 σ4 H4 E4 z=>⟨rfl,hlt,O4,ρ4,E4,z⟩) rfl rfl rfl rfl⟩
 ·left;have ei:i=ds.length:=by omega
  subst ei;refine⟨(wk H' O' ds.length E'.env.all sD).2 rfl,?_⟩;rw[Rg]at hr;exact hk.nx O' ρ' σ' H' (E'.back E1.base) hr⟩
end
section
variable[aB]{X:Cx}{pos:Pos}
theorem G0{es:bx}{g:bE}(h:XA X es g):XN X (.List es pos) (eV g):=⟨PE.weak (n6 h.h) λσ H Q ⟨O,ρ,E,hF⟩=>⟨O,ρ,E,(gW.bind hF).imp λxs hF vs H1 s1 d1=>by
  obtain⟨d,e,q⟩:=gW.rO hF;obtain⟨hz,e⟩:=bD e;subst e;refine⟨by rw[<-d1.length];exact dJ hz,λp hp=>?_⟩;exact q p _ (s1.trans (bj hp _)) (s1.free hp) ⟨_,ay,trivial⟩ (j5 hp d1)⟩⟩
theorem BJ{x:Str}{p:Pos}{e:T6}{f:bE}(hg:Gl X x)(hm:X.mg x=none)(hv:Ui x=some (.type "list"))(ha:XA X [e] f)(hn:x≠"__name__":=by decide)(hdb:(x==("__debug__":Str))=false:=by decide)(hns:noStar e=true:=by rfl):XN X (.Call (.Name x p) [e] [] pos) (fL lI f):=⟨PE.weak (tM jD hg hm hv ha.h hn hdb (cm hns) (eL rfl)) λσ H Q ⟨O,ρ,E,hF⟩=>⟨O,ρ,E,(gW.bind hF).imp λds hF vs H1 s1 d1=>by
  obtain⟨d,hg,q⟩:=gW.rO hF;unfold lI at hg;split at hg
  ·rename_i ys;cases hg;obtain⟨v,ev,h1⟩:=d1.one;rw[bX]at h1;obtain⟨p,ws,ep,g1,g2⟩:=h1;exact⟨p,ws,by rw[ev,ep],.inl ((aj H1 O).seq g1),λl hl=>q l _ (s1.trans (bj hl _)) (s1.free hl) ⟨_,ay,trivial⟩ (j5 hl g2)⟩
  ·rename_i ys;cases hg;obtain⟨v,ev,h1⟩:=d1.one;rw[bY]at h1;obtain⟨p,ws,ep,g1,g2⟩:=h1;exact⟨p,ws,by rw[ev,ep],.inr (bJ (aj H1 O) g1),λl hl=>q l _ (s1.trans (bj hl _)) (s1.free hl) ⟨_,ay,trivial⟩ (j5 hl g2)⟩
  ·cases hg⟩⟩
theorem Aj:XN X (.Dict [] [] pos) pL:=⟨TG.DJ ⟩
theorem GR{i:Nat}{x:Str}{e:T6}{f:FX}{pos':Pos}(hN:X.N.Nodup)(hi:X.N[i]?=some x)(hx:Loc X.env.scope x)(he:XN X e f)(hs:swapsWith e (some (.Name x pos')) pos.line X.env=pure false:=by rfl)(hf:X.fn x=true\/X.env.scope.names.lookup x=some .local:=by first|exact .inl rfl|exact .inr rfl|assumption):XS X (.Assign [.Name x pos'] e pos) (iY i f):=⟨rY (List.getElem?_eq_some_iff.mp hi).1 (ua hN hi hx he.h hs hf)⟩
end
section
variable[aB]
theorem AV{X:Cx}{elt tg iter:T6}{ifs:bx}{scope:Uk}{N:ax}{ix:gH}{G:bE}{g:GF}{C:bT}{Fe:FX}{i:Nat}{y:Str}{lpos py spos:Pos}(hN:X.N.Nodup)(hi':X.N[i]?=some y)(hx:Loc X.env.scope y)(hc:X.calm=true)(ok:mQ X scope N ix)(tk:oT ix g)(hi:XI X tg iter G)(hb:ra X scope N tg elt ifs g C Fe)(hsw:swapsWith (.ListComp elt [⟨tg,iter,ifs,0⟩] scope lpos) (some (.Name y py)) spos.line X.env=pure true:=by rfl)(hs:∀x,Ux iter X.env x=pure x:=by intro _;rfl)(hf:X.fn y=true\/X.env.scope.names.lookup y=some .local:=by first|exact .inl rfl|exact .inr rfl|assumption):XS X (.Assign [.Name y py] (.ListComp elt [⟨tg,iter,ifs,0⟩] scope lpos) spos) (iY i (dA ix G g C Fe)):=⟨rY (List.getElem?_eq_some_iff.mp hi').1 (PS.weak (Hu hN hi' hx hc ok.cell ok.kind ok.names ok.free ok.ix hi.h hb.h.k hsw hs hf) λE σ H q=>D4 tk σ H _ (Ha σ H _ q))⟩
theorem JL{X:Cx}{elt tg iter:T6}{ifs:bx}{scope:Uk}{pos:Pos}{N:ax}{ix:gH}{G:bE}{g:GF}{C:bT}{Fe:FX}(hc:X.calm=true)(ok:mQ X scope N ix)(tk:oT ix g)(hi:XI X tg iter G)(hb:ra X scope N tg elt ifs g C Fe)(hs:∀x,Ux iter X.env x=pure x:=by intro _;rfl):XN X (.ListComp elt [⟨tg,iter,ifs,0⟩] scope pos) (dA ix G g C Fe):=⟨PE.weak (Hc hc ok.cell ok.kind ok.names ok.free ok.ix hi.h hb.h.k hs) λσ H Q q=>D4 tk σ H _ (Ha σ H _ q)⟩
theorem Il{X : Cx}{i : Nat}{x m : Str}{id : String}{r : V -> aJ -> Hp -> VK -> Prop}{u : List D -> List D -> Option (List D)}{e : T6}{es : bx}{f : bE}{npos apos cpos pos : Pos}(slot : Slot "list" m id)(hty : typeOf (.builtin id) = pure (.type "method_descriptor"))(hm : LV X id r)(ok : G8 X.K r u)(hx : XV X (.Name x npos) i)(he : XA X (e :: es) f)(hbase : UH (.Name x npos) m X.env (eval (.Name x npos) X.env) = eval (.Name x npos) X.env := by rfl)(hfew : ((backTo cpos (Um (e :: es) X.env)).all (fun x => !x.1) && (backToKw cpos (UJ [] X.env)).all (fun x => x.1.isSome)
      && decide ((e::es:bx).length+([]:List UR).length+(if([]:List UR).isEmpty then 0 else 1)<30))=true:=by rfl)(hline:(apos.endLine==cpos.line)=true:=by rfl)(hs:Um (e::es) X.env=(false,eval e X.env)::Um es X.env:=by rfl)(hplain:(backTo cpos (Um es X.env)).any (·.1)=false:=by rfl)(hsw:swapsWith (.Call (.Attribute (.Name x npos) m apos) (e::es) [] cpos) none pos.line X.env=pure false:=by rfl):XS X (.Expr (.Call (.Attribute (.Name x npos) m apos) (e::es) [] cpos) pos) (xV i u f):=⟨λHb Ob pins s σ H E I ⟨O,ρ,k,rr,S,hF,hk⟩=>by
  unfold xV at hF;split at hF
  · rename_i xs hxs
    obtain⟨a,ha,haO,hat⟩:=S.env.own i _ hxs;obtain⟨o,vs0,ho,eo,dn⟩:=hat;subst eo;refine oX (vg F.plainAttrs_list slot hty hm hx.h he.h hbase hfew hline hs hplain) hsw pins s σ H E I ⟨.ref a,ha,.inl ⟨rfl,vs0,md.of ho⟩,O,ρ,S.env,gW.on hF hk S λds hr vs H1 s1 d1=>?_⟩;have S1:=S.same s1;cases hu1:u xs ds with
    |none=>rw[hu1]at hr;exact absurd hr.symm hk.ne
    |some ys=>
      rw[hu1]at hr;exact ok H1 O a xs ys ds vs0 vs _ S1.env.all haO (s1 _ _ ho) (dn.mono (bq s1)) d1 hu1 λws' v new=>hk.nx O _ σ _ (S1.setO hxs ha trivial (oP haO new)) hr
  ·exact absurd hF.symm hk.ne⟩
theorem Cy{X:Cx}{st:eJ}{F:bH}(i:Nat)(h:ny X st F):ny X st (fA i F):=⟨λHb Ob=>wy.weak (h.h Hb Ob) λE σ H ⟨O,ρ,k,r,S,hF,hk⟩=>by
 obtain⟨O',S'⟩:=S.frz i;exact⟨O',TG.frz i ρ,k,r,S',hF,hk⟩⟩
theorem Cq{X:Cx}{e:T6}{f:bT}(is:List Nat)(h:XT X e f):XT X e (ky is f):=⟨PT.weak h.h λσ H Q ⟨O,ρ,E,hF⟩=>by
 obtain⟨O',E'⟩:=E.frzs is;refine⟨O',TG.frzs is ρ,E',?_⟩;unfold ky at hF;cases hf:f (TG.frzs is ρ)with
 |error z=>rw[hf]at hF;exact hF.elim
 |ok d=>rw[hf]at hF;exact hF⟩
theorem xU{X:Cx}{k k':Nat}{ps:ax}{g:cO}{h:bE}{x:Str}{p pos:Pos}{e:T6}{es:bx}(C:Callee X.prog X.w X.K X.mg X.base k x ps g)(hn:Ar ps.length g)(hr:eY k' X.A)(hk:k<=k')(ha:XA X (e::es) h)(hg:Gl X x:=by rfl)(hdb:(x==("__debug__":Str))=false:=by decide)(hns:(e::es).all noStar=true:=by rfl):XE X (.Call (.Name x p) (e::es) [] pos) (fR g h):=by
 refine⟨?_⟩;obtain⟨f,fd,F,b,kp,m⟩:=C;exact PE.weak (CZ F (hr.mono hk) hg m kp b ha.h hdb (cm (Qm _ _ ▸ hns).1) (eL (Qm _ _ ▸ hns).2)) (Be hn)
end
section
variable[aB]{X:Cx}{a b c:T6}{fa fb fc:FX}{pos:Pos}
theorem zP{op op':UB}{r r':R2}{g g':D->D->bG}(ho:iL X (UA op) r)(s:cW X.K r g)(ho':iL X (UA op') r')(s':cW X.K r' g')(ha:XE X a fa)(hb:XE X b fb)(hc:XE X c fc)(hm:lastMarks [op,op'] [b,c]=false:=by with_unfolding_all rfl):XE X (.Compare a [op,op'] [b,c] pos) (lX g g' fa fb fc):=⟨PE.weak (Bj ho ho' ha.h hb.h hc.h hm) (rP s s')⟩
theorem z9{op op':UB}{r r':R2}{g g':D->D->bG}(ho:iL X (UA op) r)(s:cW X.K r g)(ho':iL X (UA op') r')(s':cW X.K r' g')(ha:XE X a fa)(hb:XE X b fb)(hc:XE X c fc)(hm:lastMarks [op,op'] [b,c]=false:=by with_unfolding_all rfl):XT X (.Compare a [op,op'] [b,c] pos) (fB (lX g g' fa fb fc)):=⟨PT.weak (Di ho ho' ha.h hb.h hc.h hm) (uX (rP s s'))⟩
theorem EX(ha:XE X a fa):XE X (.UnaryOp .USub a pos) (lD fa):=⟨PE.weak (J6 Ib ha.h) (IU λx d v O H Q _ e dv q=>by
 cases x with
 |int i=>cases e;exact⟨i,eF.mp dv,q _ H (aR.refl H) (eF.mpr rfl)⟩
 |_=>cases e)⟩
theorem DW{x:Str}{i:Int}(hg:Gl X x)(hm:∃t,X.mg x=some (.int i t))(hd:(x==("__debug__":Str))=false:=by decide):XE X (.Name x pos) (fC (.int i)):=by
 refine⟨?_⟩;obtain⟨t,m⟩:=hm;exact j9 (GI (v:=.int i) hg m ⟨t,rfl⟩ hd) λ_ _=>eF.mpr rfl
end
section
variable[aB]{X:Cx}
theorem Gf{a b:T6}{es:bx}{k:Nat}{tpos:Pos}{f:bE}{p pos:Pos}(hg:Gl X "zip")(hm:X.mg "zip"=none)(ha:XA X [a,b] f)(hs:Um [a,b] X.env=(false,eval a X.env)::Um [b] X.env:=by rfl)(hpl:(backTo pos (Um [b] X.env)).any (·.1)=false:=by rfl):XI X (.Tuple es k tpos) (.Call (.Name "zip" p) [a,b] [] pos) (oU f):=by
 refine⟨?_⟩;rintro pins s σ H RR I ⟨O,ρ,E,hG⟩;have hA:=ha.h pos pins s σ H (λvs H1=>∃ds r,rk ds=some r/\aK X.K (hid H1 O) ds vs/\∀J,Walk X.K (hid H1 O) J r->RR J H1) I ⟨O,ρ,E,(gW.bind hG).imp λds hG vs H1 s1 d1=>by
  obtain⟨r,e,q⟩:=gW.rO hG;exact⟨ds,r,e,d1,λJ wk=>q J H1 s1 wk⟩⟩
 refine TH (jH I hg hm PyProof.Rows.boot_zip (Tz (cN hA λus s1 ⟨vs,H1,I1,r1,ds,r,er,d1,q⟩=>?_) hs hpl));exact Jy I1 er d1 r1 q
theorem qV{a:T6}{es:bx}{k:Nat}{tpos:Pos}{f:bE}{p pos:Pos}(hg:Gl X "enumerate")(hm:X.mg "enumerate"=none)(ha:XA X [a] f)(hs:Um [a] X.env=(false,eval a X.env)::Um [] X.env:=by rfl)(hpl:(backTo pos (Um [] X.env)).any (·.1)=false:=by rfl):XI X (.Tuple es k tpos) (.Call (.Name "enumerate" p) [a] [] pos) (gb f):=by
 refine⟨?_⟩;rintro pins s σ H RR I ⟨O,ρ,E,hG⟩;have hA:=ha.h pos pins s σ H (λvs H1=>∃ds r,tE ds=some r/\aK X.K (hid H1 O) ds vs/\∀J,Walk X.K (hid H1 O) J r->RR J H1) I ⟨O,ρ,E,(gW.bind hG).imp λds hG vs H1 s1 d1=>by
  obtain⟨r,e,q⟩:=gW.rO hG;exact⟨ds,r,e,d1,λJ wk=>q J H1 s1 wk⟩⟩
 refine TH (jH I hg hm PyProof.Rows.boot_enumerate (Tz (cN hA λus s1 ⟨vs,H1,I1,r1,ds,r,er,d1,q⟩=>?_) hs hpl));exact Eo I1 er d1 r1 q
end
section
variable[aB]{X:Cx}{a o e:T6}{es:bx}{fa fo:FX}{fas:bE}{f m x:Str}{cs:ax}{pos apos p:Pos}{k k':Nat}{ps:ax}
theorem GD(ok:D6 X.K f cs)(h:XE X a fa)(hb:UH a f X.env (eval a X.env)=eval a X.env:=by rfl):XE X (.Attribute a f pos) (f1 (x9 f cs) fa):=⟨PE.weak (Iz h.h hb) λσ H Q ⟨O,ρ,E,hF⟩=>⟨O,ρ,E,(gW.bind hF).imp λd hF v H1 s1 d1=>by
  obtain⟨r,e,q⟩:=gW.rO hF;cases d with
  |obj c fs vs=>
   have e':(if cs.contains c then(fs.zip vs).lookup f else none)=some r:=e;cases hc:cs.contains c with
   |false=>rw[hc]at e';cases e'
   |true=>
    rw[hc]at e';obtain⟨a,ws,ev,g1,g2,C,dx,g3,g4⟩:=LN.mp d1;obtain⟨w,l1,l2⟩:=p5 g1 e';obtain⟨cl,na⟩:=ok c (List.contains_iff_mem.mp hc) C g3;exact⟨a,C,dx,_,w,ev,aj H1 O _ _ g4,cl,na,l1,q w H1 s1 l2⟩
  |_=>cases e⟩⟩
theorem DL{tbl : List (Str × (cO))}{pl : Sem Bool}(tb : qQ X.prog X.w X.K X.mg X.base k m ps tbl)(hr : eY k' X.A)(hk : k <= k')(ho : XE X o fo)(ha : XA X (e :: es) fas)(hns : (e :: es).all noStar = true := by rfl)(ht : eval (.Call (.Attribute o m apos) (e :: es) [] pos) X.env = (do
      let ov<-eval o X.env
      standAt apos.atName
      let (f,first)<-holding [ov] (getMethod ov m pl)
      UI pos f first (backTo pos (Um (e::es) X.env)) (backToKw pos (UJ [] X.env))):=by rfl):XE X (.Call (.Attribute o m apos) (e::es) [] pos) (dL m tbl fo fas):=⟨vJ tb (hr.mono hk) ho.h (λpins s1 σ H1 O ρ a f od Q g fd _ kp F b ar I1 E1 dO hP=>by
    refine S4 (first:=[.ref a]) (h₀:=X.base) I1.ok.mod.kin kp (cN (ha.h pos pins s1 σ H1 _ I1 ⟨O,ρ,E1,(gW.bind hP).imp λas hP vs H2 s2 d2=>pM (vs:=.ref a::vs) ar (E1.all.same s2) (aX.mpr ⟨_,_,rfl,dO.mono (bq s2),d2⟩) ((hP.mono s2).imp λd q v H3 s3 d3=>q v H3 (s2.trans s3) d3)⟩) λus s2 ⟨vs,H2,I2,r,Ex,hx,q2⟩=>⟨I2.kIn,?_⟩) (cm (Qm _ _ ▸ hns).1) (eL (Qm _ _ ▸ hns).2);exact t9 (us:=.ref a::us) (vs:=.ref a::vs) F (hr.mono hk) b hx I2 (.cons rfl r) q2) ht⟩
theorem AH{tbl : List (Str × (cO))}{pl : Sem Bool}(tb : qQ X.prog X.w X.K X.mg X.base k m ps tbl)(hr : eY k' X.A)(hk : k <= k')(ho : XE X o fo)(ht : eval (.Call (.Attribute o m apos) [] [] pos) X.env = (do
      let ov<-eval o X.env
      standAt apos.atName
      let (f,first)<-holding [ov] (getMethod ov m pl)
      UI pos f first (backTo pos (Um [] X.env)) (backToKw pos (UJ [] X.env))):=by rfl):XE X (.Call (.Attribute o m apos) [] [] pos) (dL m tbl fo af):=⟨vJ tb (hr.mono hk) ho.h (λpins s1 σ H1 O ρ a f od Q g fd _ kp F b ar I1 E1 dO hP=>by
    have hP':gW X σ O H1 (g [od]) λd=>∀v H',aR H1 H'->cu X.K (hid H' O) d v->Q v H':=hP;obtain⟨Ex,hx,q2⟩:=pM (vs:=[.ref a]) ar E1.all (aX.mpr ⟨_,_,rfl,dO,cn.mpr rfl⟩) hP';exact PySem.W.callWith_K0 (first:=[.ref a]) I1.kIn kp (t9 (us:=[.ref a]) (vs:=[.ref a]) F (hr.mono hk) b hx I1 (.cons rfl .nil) q2)) ht⟩
theorem FY{c:Str}{fs:ax}(IA:uP X.prog X.w X.K X.mg X.base k c ps fs)(hr:eY k' X.A)(hk:k+1<=k')(hg:Gl X c)(ha:XA X (e::es) fas)(hdb:(c==("__debug__":Str))=false:=by decide)(hns:(e::es).all noStar=true:=by rfl):XE X (.Call (.Name c p) (e::es) [] pos) (fNew c fs fas):=by
 refine⟨?_⟩;obtain⟨C,f,fd,h1,h2,h3,h4,h5⟩:=IA;refine PE.weak (GO (dvs:=[]) (E:=E0) h2 h3 (hr.mono hk) hg h5 h4 .nil K7 ha.h hdb (cm (Qm _ _ ▸ hns).1) (eL (Qm _ _ ▸ hns).2)) λσ H Q ⟨O,ρ,E,hF⟩=>⟨O,ρ,E,(gW.bind hF).imp λas hF vs H1 s1 d1 x dx hx hd ne=>?_⟩
 by_cases hl:as.length=fs.length
 ·rw[if_pos hl]at hF;rw[Qa];refine⟨x,dx,vs,rfl,by rw[<-d1.length,hl],by rw[ay],rfl,?_⟩;obtain⟨sm,dn⟩:=vo h1 hl d1 (E.all.same s1) hx hd ne;exact hF _ _ (s1.trans sm) dn
 ·rw[if_neg hl]at hF;exact hF.elim
end
section
variable[aB]
theorem Dd{X:Cx}{i:Nat}{x:Str}{idx value:T6}{fk fv:FX}{npos tpos pos:Pos}(hu:X.A.units+64<UL)(hx:XV X (.Name x npos) i)(hi:XE X idx fk)(hv:XE X value fv)(hs:swapsWith value (some (.Subscript (.Name x npos) idx tpos)) pos.line X.env=pure false:=by rfl):XS X (.Assign [.Subscript (.Name x npos) idx tpos] value pos) (rF i fk fv):=⟨λHb Ob pins s σ H E I ⟨O,ρ,k,rr,S,hF,hk⟩=>by
 unfold rF at hF;split at hF
 ·rename_i ks ds hxs;obtain⟨a,ha,haO,hat⟩:=S.env.own i _ hxs;have hP:=gW.on hF hk S (Q:=λal=>k.nx (ρ.set i (some (.own (bS al))))=rr) λp e=>e;refine B9 ‹0› hx.h hi.h hv.h hs pins s σ H E I ⟨O,ρ,S.env,(gW.bind hP).imp λy hP v H1 s1 d1=>?_⟩;have S1:=S.same s1;refine⟨.ref a,ha,O,ρ,S1.env,((gW.bind hP).mono s1).imp λj hP w H2 s2 d2=>?_⟩;have S2:=S1.same s2;obtain⟨al',hg,e⟩:=gW.rO hP;obtain⟨al,q,f1,f2,f3,f4,f5⟩:=wU hg;subst f1 f2 f3 f5;have s12:=s1.trans s2;obtain⟨b,ws,eb,g1,g2⟩:=bY.mp d2;rw[fZ g2]at g1;have hat2:cD X.K H2 O a (bS al):=hat.mono (let ⟨_,z⟩:=hat.some;o5 s12 z) (bq s12);have dv:cu X.K (hid H2 O) y v:=d1.mono (bq s2);have fin:∀kvs:List (List Key×V),kvs.map (·.1)=al.map (·.1)->aK X.K (hid H2 O) (al.map (·.2)) (kvs.map (·.2))->cD X.K (upd H2 a (.dT (putK kvs q v))) O a (bS (gG al q y)):=λkvs k2 k3=>
   ⟨_,_,ay,(zj dv k2 k3).mono (eM haO),.inr ⟨putK kvs q v,rfl,tX (vi k2 q v y),rfl⟩⟩
  rcases Nb hat2 with⟨kvs,k1,k2,k3⟩|⟨k1,rfl⟩
  ·have hl:kvs.length=al.length:=(by have:=congrArg List.length k2;simpa using this);exact⟨a,q,b,kvs,rfl,eb,(aj H2 O) _ _ g1,.inl k1,by rw[hl];exact Rc (of_decide_eq_true f4) (by decide),hk.nx O _ σ _ (S2.setO hxs ha trivial (fin kvs k2 k3)) e⟩
  ·exact⟨a,q,b,[],rfl,eb,(aj H2 O) _ _ g1,.inr ⟨k1,rfl⟩,by decide,hk.nx O _ σ _ (S2.setO hxs ha trivial (fin [] rfl (cn.mpr rfl))) e⟩
 ·exact absurd hF.symm hk.ne⟩
end
section
variable[aB]{X:Cx}{p pos kp:Pos}{e:T6}
theorem BE{f:FX}{i:Int}{j:Nat}{cp:Pos}(hc:X.calm=true)(hg:Gl X "max")(hm:X.mg "max"=none)(he:XE X e f)(hns:noStar e=true:=by rfl):XE X (.Call (.Name "max" p) [e] [⟨some "default",.Constant (.int i) j cp,kp⟩] pos) (f1 (oO i) f):=by
 refine⟨?_⟩;rintro pins s σ H Q I ⟨O,ρ,E,hF⟩;refine UQ (jH I hg hm Al ?_);have st:backTo pos (Um [e] X.env)=(false,eval e X.env)::backTo pos (Um [] X.env):=by rw[cm hns];rfl
 refine TJ ?_ ?_ (eL (by rw[QL,hns];rfl))
 ·refine cN (gq he.h iI (cm hns) pos pins s σ H (λvs H1=>∃v d a,vs=[v]/\aR H H1/\oO i a=some d/\cu X.K (hid H1 O) a v/\∀v H',aR H H'->cu X.K (hid H' O) d v->Q v H') I ⟨O,ρ,E,(gW.bind hF).imp λa hF v H1 s1 d1=>?_⟩) λus s1 ⟨vs,H1,I1,rv,v,d,a,ev,s1',hd,dn,q⟩=>?_
  ·obtain⟨d,e,q⟩:=gW.rO hF;exact⟨v,d,a,rfl,s1,e,d1,q⟩
  ·subst ev;refine cN (Gu (kws:=[]) xG IM pos pins s1 σ H1 (λzs H2=>zs=[.int i]/\H2=H1) I1 ⟨rfl,rfl⟩) λws s2 ⟨zs,H2,I2,rz,ez,eh⟩=>?_;subst ez eh;obtain⟨u,eu,ru⟩:=vals1 rv;obtain⟨wv,ew,rw'⟩:=vals1 rz;subst eu ew;unfold oO at hd;split at hd
   ·rename_i xs;cases ei:jY xs with
    |none=>rw[ei]at hd;cases hd
    |some ns=>
     rw[ei]at hd;cases hd;have exs:=sf ei;subst exs;obtain⟨l,ys,el,g1,g2⟩:=bX.mp dn;subst el;cases ru;obtain⟨its,ri,pl,hz⟩:=I2.list ((aj H2 O).seq g1);have hlen:its.length=ns.length:=(by rw[<-ri.length,<-g2.length,P7]);refine AU (I2.ok.hd hc) pl.isList (ns:=ns) (λk v hk=>?_) hlen λv h' tk hv kk=>?_
     ·exact yH g2 ri k v hk
     ·have I3:=I2.kept (t':=tk) kk;have q:∀(v:V)(H':Hp),aR H H'->cu X.K (hid H' O) (.int (if ns.length=0 then i else tU (λk=>ns.getD k 0) ns.length)) v->Q v H':=q;rcases hv with⟨z,rfl⟩|⟨z,t,rfl⟩
      ·rw[if_pos z]at q;exact⟨.int i,H2,I3,rw',q _ H2 s1' (eF.mpr rfl)⟩
      ·rw[if_neg ‹0›]at q;exact⟨.int _,H2,I3,⟨t,rfl⟩,q _ H2 s1' (eF.mpr rfl)⟩
   ·cases hd
 ·exact st
end
section
variable[aB]{X:Cx}{pins:bf}{s:T8}{σ:L2.St}{H:Hp}{O:az}
theorem A2{f:FX}{j:Nat}{k:Nat}{c P cc:T5}{e:T6}{p lpos kp pos np mp p2 spos:Pos}{row many:Str}{params:UU}{scope:Uk}(hr:eY k X.A)(hg:Gl X "sorted")(hm:X.mg "sorted"=none)(B:BG X.mg X.base c P)(hcode:X.env.code=.ref c)(hT:∀H,aB.tab H->H P=some (.ext (nQ P lpos (X.env.qual++"<lambda>"))))(he:XE X e f)(hN:X.N[j]?=some many)(hkm:X.env.kindOf many=some .cell)(hv:Ij X.env.scope many)(hcc:X.env.cells.lookup many=some cc)(hcl:closureFor scope X.env=pure [(many,cc)])(hdef:defaultsOf params X.env=([],[]))(hbind:∀cdv ctv v,bindArgs (PySem.W.kla_fn "<lambda>" (X.env.qual++"<lambda>") params (cutE row many np mp p2 spos) scope [(many,cc)] ((X.mg "__name__").getD .none) cdv ctv) ⟨[v],[]⟩=pure [(row,v)])(hco:scope.isCoroutine=false)(hgen:scope.isGenerator=false)(hk:scope.kind=.function)(hno:∀x∈scope.names,x.2≠.cell)(hlr:scope.names.lookup row=some .local)(hlm:scope.names.lookup many=some .free)(d1:(row==("__debug__":Str))=false)(d2:(many==("__debug__":Str))=false)(d3:(many==("__classdict__":Str))=false)(hns:noStar e=true:=by rfl):XE X (.Call (.Name "sorted" p) [e] [⟨some "key",.Lambda params (cutE row many np mp p2 spos) scope lpos,kp⟩] pos) (f2 om f (ae j)):=by
 refine⟨?_⟩;rintro pins s σ H Q I ⟨O,ρ,E,hF⟩;refine UQ (jH I hg hm me ?_);have st:backTo pos (Um [e] X.env)=(false,eval e X.env)::backTo pos (Um [] X.env):=by rw[cm hns];rfl
 refine TJ ?_ ?_ (eL (by rw[QL,hns];rfl))
 ·refine cN (gq he.h iI (cm hns) pos pins s σ H (λvs H1=>∃v d a m,vs=[v]/\aR H H1/\ρ[j]?=some (some (.val m))/\om a m=some d/\cu X.K (hid H1 O) a v/\∀v H',aR H H'->cu X.K (hid H' O) d v->Q v H') I ⟨O,ρ,E,(gW.bind hF).imp λa hF v H1 s1 d1=>?_⟩) λus s1 ⟨vs,H1,I1,rv,v,d,a,m,ev,s1',em,hd,dn,q⟩=>?_
  ·obtain⟨m,em,hF⟩:=tW (gW.bind hF);obtain⟨d,e,q⟩:=gW.rO hF;exact⟨v,d,a,m,rfl,s1,em,e,d1,q⟩
  ·subst ev;obtain⟨u,eu,ru⟩:=vals1 rv;subst eu;have E1:=E.same s1';show Ul _ _ (evalAll ((do let v<-eval (.Lambda params (cutE row many np mp p2 spos) scope lpos) X.env;standAt pos;pure v)::[])) _ _ s1;refine wpAny_evalAll_cons (Uu (Ea I1 B hcode (hT _ E1.all.1) hdef hcl λfa c' ctv s2 H2 I2 s2' hfa hcr=>Uu (UT (Ut (wpAny_evalAll_nil ?_)))));show Ul (model X.prog X.w) X.A (call (.builtin "sorted") [u] [(Str.ofString "key",.ref fa)]) (EP X pins σ Q) X.xe s2;have E2:=E1.same s2';obtain⟨vm,e3,dm⟩:=E2.val j m em;have core:∀(i:Int)(xs:List D),m=.int i->0<=i->pX i.toNat xs=some d->∀(ys:aJ)(its:aU),aK X.K (hid H2 O) xs ys->Vals ys its->
     (∀(Q':aU->cP),(∀h' tk,(∀b o,s2.heap.get? b=some o->h'.get? b=some o)->Q' its {s2 with heap:=h',toks:=tk})->Ul (model X.prog X.w) X.A.in1 (collect u) Q' X.xe s2)->
     Ul (model X.prog X.w) X.A (call (.builtin "sorted") [u] [(Str.ofString "key",.ref fa)]) (EP X pins σ Q) X.xe s2:=by
    intro i xs ei h0 hs ys its dl ri hcol;subst ei;rw[eF]at dm;subst dm;obtain⟨mm,hns',hl⟩:=I2.loc;obtain⟨uv,ruv,lk⟩:=hl j many (.int i) hN e3 hv;obtain⟨t,rfl⟩:=ruv;have hcell:s2.heap.IsCell cc (some (.int i t)):=by
     rcases lk with⟨z,_⟩|⟨_,c2,ec,hc2⟩
     ·rw[hkm]at z;cases z
     ·rw[hcc]at ec;cases ec;exact hc2
    have dp:=hr.dp;exact xk I2 E2.all dl ri h0 hs hfa hcr ‹0› (λv=>hbind (.ref c') ctv v) hco hgen hk hno hlr hlm hcell d1 d2 d3 hcol λv H' sm dd=>q v H' ((s1'.trans s2').trans sm) dd
   have dn2:=dn.mono (bq (O:=O) s2');unfold om at hd;split at hd
   ·rename_i xs i;split at hd
    ·rename_i h0;obtain⟨l,ys,el,g1,g2⟩:=bX.mp dn2;subst el;cases ru;obtain⟨its,ri,pl,hz⟩:=I2.list ((aj H2 O).seq g1);have hlen:=ri.length;obtain⟨o,ho,hc,n,hd'⟩:=pl.isList;exact core i xs rfl h0 hd ys its g2 ri λQ' hQ=>Vy l (.inl rfl) ho hc hd' (λh' k=>by simpa using hQ h' s2.toks k) (by simp only[P0]<;>omega)
    ·cases hd
   ·rename_i xs i;split at hd
    ·rename_i h0;obtain⟨l,ys,el,g1,g2⟩:=bY.mp dn2;subst el;cases ru;obtain⟨its,ri,⟨o,ho,hc,n,hd'⟩,hz⟩:=I2.tuple (bJ (aj H2 O) g1);have hlen:=ri.length;exact core i xs rfl h0 hd ys its g2 ri λQ' hQ=>Vy l (.inr rfl) ho hc hd' (λh' k=>by simpa using hQ h' s2.toks k) (by simp only[P0]<;>omega)
    ·cases hd
   ·cases hd
 ·exact st
end
section
variable[aB]
theorem Dw{X:Cx}{i:Nat}{x:Str}{idx value:T6}{fk fv:FX}{npos tpos pos:Pos}(hu:X.A.units+64<UL)(hx:XV X (.Name x npos) i)(hi:XE X idx fk)(hv:XE X value fv)(hs:swapsWith value (some (.Subscript (.Name x npos) idx tpos)) pos.line X.env=pure false:=by rfl):XS X (.Assign [.Subscript (.Name x npos) idx tpos] value pos) (lL i fk fv):=⟨λHb Ob pins s σ H E I ⟨O,ρ,k,rr,S,hF,hk⟩=>by
 unfold lL at hF;split at hF
 ·rename_i ks ds hxs;obtain⟨a,ha,haO,hat⟩:=S.env.own i _ hxs;have hP:=gW.on hF hk S (Q:=λal=>k.nx (ρ.set i (some (.own (vw al))))=rr) λp e=>e;refine Dt ‹0› hx.h hi.h hv.h hs pins s σ H E I ⟨O,ρ,S.env,(gW.bind hP).imp λy hP v H1 s1 d1=>?_⟩;have S1:=S.same s1;refine⟨.ref a,ha,O,ρ,S1.env,((gW.bind hP).mono s1).imp λj hP w H2 s2 d2=>?_⟩;have S2:=S1.same s2;obtain⟨al',hg,e⟩:=gW.rO hP;obtain⟨al,q,f1,f2,f3,f4,f5⟩:=yo hg;subst f1 f2 f3 f5;have s12:=s1.trans s2;have hat2:cD X.K H2 O a (vw al):=hat.mono (let ⟨_,z⟩:=hat.some;o5 s12 z) (bq s12);have dv:cu X.K (hid H2 O) y v:=d1.mono (bq s2);have fin:∀kvs:List (Key×V),kvs.map (·.1)=al.map (·.1)->aK X.K (hid H2 O) (al.map (·.2)) (kvs.map (·.2))->cD X.K (upd H2 a (.dK (putK kvs q v))) O a (vw (oW al q y)):=λkvs k2 k3=>
   ⟨_,_,ay,(B5 dv k2 k3).mono (eM haO),.inl ⟨putK kvs q v,rfl,GP (AY k2 q v y),rfl⟩⟩
  rcases M6 hat2 with⟨kvs,k1,k2,k3⟩|⟨k1,rfl⟩
  ·have hl:kvs.length=al.length:=(by have:=congrArg List.length k2;simpa using this);exact⟨a,q,kvs,rfl,qM d2,.inl k1,by rw[hl];exact Rc (of_decide_eq_true f4) (by decide),hk.nx O _ σ _ (S2.setO hxs ha trivial (fin kvs k2 k3)) e⟩
  ·exact⟨a,q,[],rfl,qM d2,.inr ⟨k1,rfl⟩,by decide,hk.nx O _ σ _ (S2.setO hxs ha trivial (fin [] rfl (cn.mpr rfl))) e⟩
 ·exact absurd hF.symm hk.ne⟩
end
section
variable[aB]{X:Cx}{o e f:T6}{apos cpos:Pos}
theorem Ax{fo fk fx : FX}(hu : X.A.units + 64 < UL)(ho : XE X o fo)(he : XE X e fk)(hf : XE X f fx)(hbase : UH o "get" X.env (eval o X.env) = eval o X.env := by rfl)(hfew : ((backTo cpos (Um [e, f] X.env)).all (fun x => !x.1) && (backToKw cpos (UJ [] X.env)).all (fun x => x.1.isSome)
      && decide (([e,f]:bx).length+([]:List UR).length+(if([]:List UR).isEmpty then 0 else 1)<30))=true:=by rfl)(hline:(apos.endLine==cpos.line)=true:=by rfl)(htr:backTo cpos (Um [e,f] X.env)=[(false,eval e X.env),(false,eval f X.env)]:=by rfl):XE X (.Call (.Attribute o "get" apos) [e,f] [] cpos) (nU fo fk fx):=⟨PE.weak (A9 ‹0› ho.h he.h hf.h ⟨hbase,hfew,hline,htr⟩) λσ H Q ⟨O,ρ,E,hF⟩=>⟨O,ρ,E,(gW.bind hF).imp λdd hF v H1 s1 d1=>by
    cases dd with
    |dct ks ds=>
      obtain⟨a,vs,rfl,_,hd⟩:=id (L3.mp d1);refine⟨a,rfl,?_,O,ρ,E.same s1,((gW.bind hF).mono s1).imp λk hF y H2 s2 d2=>⟨O,ρ,(E.same s1).same s2,((gW.bind hF).mono (s1.trans s2)).imp λx hF z H3 s3 d3=>?_⟩⟩
      · rcases hd with⟨kvs,e1,_⟩|⟨kvs,e1,_⟩|⟨kvs,o,e1,_⟩
        ·exact .inl ⟨kvs,.inl ((aj H1 O) _ _ e1)⟩
        ·exact .inr ⟨kvs,.inl ((aj H1 O) _ _ e1)⟩
        ·exact .inr ⟨kvs,.inr ⟨o,(aj H1 O) _ _ e1⟩⟩
      · obtain⟨d,hg,q⟩:=gW.rO hF
        obtain⟨al,qk,f1,f2,f3,f4⟩:=wZ hg;subst f1 f2 f3 f4;have s23:=s2.trans s3;have d1':cu X.K (hid H3 O) (bS al) (.ref a):=d1.mono (bq s23);have d2':=d2.mono (bq s3);obtain⟨b,ws,eb,g1,g2⟩:=bY.mp d2';rw[fZ g2]at g1;have g1':=(aj H3 O) _ _ g1;obtain⟨a',ea,hh⟩:=p4 d1';cases ea;subst eb;rcases hh with⟨kvs,k1,k2,k3⟩|⟨k1,rfl⟩
        · refine⟨gF kvs qk,.inl (wL.t ((aj H3 O) _ _ k1) g1'),q _ H3 (s1.trans s23) ?_⟩
          rcases qK qk k2 k3 with⟨z1,z2⟩|⟨w,d,z1,z2,z3⟩
          ·rw[z1,z2];exact d3
          ·rw[z1,z2];exact z3
        ·exact⟨none,.inr ⟨(aj H3 O) _ _ k1,rfl,b,qk,rfl,g1'⟩,q _ H3 (s1.trans s23) d3⟩
    |_=>exact hF.elim⟩⟩
end
section
variable[aB]{X:Cx}{pos:Pos}
theorem DT{i:Nat}{x:Str}{dp pos':Pos}(hN:X.N.Nodup)(hi:X.N[i]?=some x)(hx:Loc X.env.scope x)(hs:swapsWith (.Dict [] [] dp) (some (.Name x pos')) pos.line X.env=pure false:=by rfl)(hf:X.fn x=true\/X.env.scope.names.lookup x=some .local:=by first|exact .inl rfl|exact .inr rfl|assumption):XS X (.Assign [.Name x pos'] (.Dict [] [] dp) pos) (wt i):=⟨λHb Ob pins s σ H E I ⟨O,ρ,k,r,S,hF,hk⟩=>by
 unfold wt at hF;cases hn:EF ρ with
 |false=>rw[hn]at hF;exact absurd hF.symm hk.ne
 |true=>
  rw[hn]at hF;exact ua hN hi hx DJ hs hf pins s σ H E I ⟨O,ρ,S.env,λp H1 s1 hp m o=>hk.nx _ _ _ H1 (S.setNewN (by rw[I.len];exact(List.getElem?_eq_some_iff.mp hi).1) s1 hp m hn o) hF⟩⟩
end
section
variable[aB]
theorem AO{X:Cx}{st:eJ}{F:bH}(i:Nat)(h:ny X st F):ny X st (wq i F):=⟨λHb Ob=>wy.weak (h.h Hb Ob) λE σ H ⟨O,ρ,k,r,S,hF,hk⟩=>by
 obtain⟨O',S'⟩:=S.frzN i;exact⟨O',TG.frzN i ρ,k,r,S',hF,hk⟩⟩
end
section
variable[aB]{X:Cx}
theorem GA{i:Nat}{x:Str}{ke ve:T6}{fk fv:FX}{npos ap1 cp1 lp ap2 cp2 pos:Pos}(hu:X.A.units+64<UL)(hx:XV X (.Name x npos) i)(hke:XE X ke fk)(hve:XE X ve fv)(hn1:noStar ke=true:=by rfl)(hn2:noStar ve=true:=by rfl)(hb1:UH (.Name x npos) "setdefault" X.env (eval (.Name x npos) X.env)=eval (.Name x npos) X.env:=by rfl)(hf1:((backTo cp1 (Um [ke,.List [] lp] X.env)).all (λx=>!x.1)&&(backToKw cp1 (UJ [] X.env)).all (λx=>x.1.isSome)&&decide (([ke,.List [] lp]:bx).length+([]:List UR).length+(if([]:List UR).isEmpty then 0 else 1)<30))=true:=by rfl)(hl1:(ap1.endLine==cp1.line)=true:=by rfl)(hp1:(backTo cp1 (Um [.List [] lp] X.env)).any (·.1)=false:=by rfl)(hb2:UH (.Call (.Attribute (.Name x npos) "setdefault" ap1) [ke,.List [] lp] [] cp1) "append" X.env (eval (.Call (.Attribute (.Name x npos) "setdefault" ap1) [ke,.List [] lp] [] cp1) X.env)=eval (.Call (.Attribute (.Name x npos) "setdefault" ap1) [ke,.List [] lp] [] cp1) X.env:=by rfl)(hf2:((backTo cp2 (Um [ve] X.env)).all (λx=>!x.1)&&(backToKw cp2 (UJ [] X.env)).all (λx=>x.1.isSome)&&decide (([ve]:bx).length+([]:List UR).length+(if([]:List UR).isEmpty then 0 else 1)<30))=true:=by rfl)(hl2:(ap2.endLine==cp2.line)=true:=by rfl)(hp2:(backTo cp2 (Um [] X.env)).any (·.1)=false:=by rfl)(hsw:swapsWith (.Call (.Attribute (.Call (.Attribute (.Name x npos) "setdefault" ap1) [ke,.List [] lp] [] cp1) "append" ap2) [ve] [] cp2) none pos.line X.env=pure false:=by rfl):XS X (.Expr (.Call (.Attribute (.Call (.Attribute (.Name x npos) "setdefault" ap1) [ke,.List [] lp] [] cp1) "append" ap2) [ve] [] cp2) pos) (AG i fk fv):=by
 replace hx:=hx.h
 exact⟨λHb Ob pins s σ H E I ⟨O,ρ,k,rr,S,hF,hk⟩=>by
 obtain⟨al,q,v,al',hi,hfk,hfv,hsm,hg,hnx⟩:=Af hF hk.ne;obtain⟨a,bs,ha,hat,nd,hbs,one⟩:=S.nst i _ hi;obtain⟨kvs,hH,ek,ev,hO⟩:=qH hat;obtain⟨na,nb⟩:=List.nodup_cons.mp nd;obtain⟨aO,aHb,aOb,aS⟩:=hbs a PJ;have hlen:kvs.length<Ud:=by
  have:kvs.length=al.length:=by have:=congrArg List.length ek;simpa using this
  rw[this];exact Rc (of_decide_eq_true hsm) (by decide)
 refine oX (vg F.plainAttrs_list F.slot_list_append F.type_list_append kR (vg F.plainAttrs_dict F.slot_dict_setdefault F.type_dict_setdefault (FR hu) hx (gq hke.h (gq (n6 iI) iI) (cm hn1)) hb1 hf1 hl1 (cm hn1) hp1) (yS hve.h CT hn2) hb2 hf2 hl2 (cm hn2) hp2) hsw pins s σ H E I ?_;refine⟨.ref a,ha,.inr (.inr (.inl ⟨rfl,?_⟩)),O,ρ,S.env,?_⟩
 ·rcases hH with h|⟨h,_⟩
  ·exact .inr ⟨_,h⟩
  ·exact .inl ⟨_,h⟩
 rw[hfk];intro y H1 s1 d1;refine⟨P9 _,λp hp=>?_⟩;obtain⟨b,ws,eb,g1,g2⟩:=bY.mp d1;rw[fZ g2]at g1;have hb1':H1 b=some (.tup (q.map kV)):=(aj H1 O) _ _ g1;have bp:b≠p:=aE hb1' hp;have ap:a≠p:=by
  rcases hH with h|⟨h,_⟩
  ·exact aE (s1 _ _ h) hp
  ·exact aE (s1 _ _ h) hp
 have pHb:Hb p=none:=(S.base.same.trans s1).free hp;have pO:p∉O:=(S.env.all.same s1).not hp;have pOb:p∉Ob:=λz=>pO (S.base.sub p z);have bsp:∀c∈bs,c≠p:=λc hc=>by
  obtain⟨o,ho⟩:=hO.some c hc;exact aE (s1 _ _ ho) hp
 have E2:dE X.K (p::O) (upd H1 p (.lst [])) ρ σ:=(S.env.same s1).hideNew trivial hp;have sm2:aR (hid H O) (hid (upd H1 p (.lst [])) (p::O)):=(bq s1).trans (mC hp);have sH2:aR H (upd H1 p (.lst [])):=s1.trans (bj hp _);have pS:∀(j:Nat) d',ρ[j]?=some (some (.own d'))->σ[j]?≠some (some (.ref p)):=λj d' w z=>by
  obtain⟨c,e1,e2,_⟩:=S.env.own j d' w;rw[z]at e1;cases e1;exact pO e2
 have fin:∀(H3:Hp)(l:T5)(wl:aJ)(ys:List D)(bs':az)(kvs':List (List Key×V)),dE X.K (p::O) H3 ρ σ->aR (hid (upd H1 p (.lst [])) (p::O)) (hid H3 (p::O))->(∀c o,c≠a->(upd H1 p (.lst [])) c=some o->H3 c=some o)->l∈bs'->l≠a->H3 l=some (.lst wl)->aK X.K (hid H3 (p::O)) ys wl->ys.length+1<=100000->
   (H3 a=some (.dT kvs'))->kvs'.map (·.1)=al'.map (·.1)->kvs'.map (·.2)=bs'.map .ref->(a::bs').Nodup->(∀c∈bs',c∈bs\/c=p)->
   (∀H' O',(∀c∈bs',c≠l->∀x,cD X.K H3 (p::O) c x->cD X.K H' O' c x)->cD X.K H' O' l (.lst (ys++[v]))->jj X.K H' O' bs' (al'.map (·.2)))->
   NX X.K "list" (.ref l) H3/\L5 X (aa fv af) σ H3 λvs H4=>uI (.ref l) vs H4 λ_ H5=>E.nx σ H5:=by
  intro H3 l wl ys bs' kvs' E3 sm3 keep3 lb la hl3 dl ln ha3 k1 k2 nd' mem new;refine⟨.inl ⟨rfl,wl,md.of hl3⟩,p::O,ρ,E3,?_⟩;have e1:(aa fv af) ρ=.ok [v]:=by
   show(fv ρ).bind _=_;rw[hfv];rfl
  rw[e1];intro vs H4 s4 dv;obtain⟨y',rfl,dy⟩:=dv.one;have lO:l∈p::O:=by
   rcases mem l lb with z|z
   ·exact PL _ (hbs l (PL _ z)).1
   ·rw[z];exact PJ
  have lHb:Hb l=none:=by
   rcases mem l lb with z|z
   ·exact(hbs l (PL _ z)).2.1
   ·rw[z];exact pHb
  have lS:∀(j:Nat) d',ρ[j]?=some (some (.own d'))->σ[j]?≠some (some (.ref l)):=by
   rcases mem l lb with z|z
   ·exact(hbs l (PL _ z)).2.2.2
   ·rw[z];exact pS
  have hl4:=s4 _ _ hl3;have sm5:aR (hid H3 (p::O)) (hid (upd H4 l (.lst (wl++[y']))) (p::O)):=(bq s4).trans (eM lO);have wlen:=dl.length;refine⟨l,wl,y',rfl,rfl,hl4,by rw[<-wlen];exact Pz (Nat.lt_of_succ_le ln) (by decide),hk.nx (p::O) _ σ _ (S.setN hi (λc hc=>PL _ hc) ((sm2.trans sm3).trans sm5) ⟨λc u h=>?_,λc hc=>PL _ (S.base.sub c hc),λc hc=>?_⟩ ((E3.all.same s4).upd lO trivial) (λj xs c w1 w2=>?_) ?_) hnx⟩
  ·have ca:c≠a:=λz=>by rw[z,aHb]at h;cases h
   have cl:c≠l:=λz=>by rw[z,lHb]at h;cases h
   rw[ao cl];exact s4 _ _ (keep3 c u ca (sH2 _ _ (S.base.same c u h)))
  ·rcases List.mem_cons.mp hc with z|z
   ·rw[z];exact .inr pHb
   ·exact S.base.new c z
  ·obtain⟨c',q1,q2,q3⟩:=S.env.own j xs w1;rw[w2]at q1;cases q1;obtain⟨o,ho⟩:=q3.some;have ca:c≠a:=λz=>aS j xs w1 (by rw[<-z];exact w2);have cl:c≠l:=λz=>lS j xs w1 (by rw[<-z];exact w2);rw[ho,ao cl];exact(s4 _ _ (keep3 c o ca (sH2 _ _ ho))).symm
  ·refine⟨a,bs',ha,⟨al'.map (·.2),new _ _ (λc hc ne x hx=>hx.mono ?_ sm5) ⟨_,_,ay,rfl,?_⟩,.inr (.inl ⟨kvs',?_,?_,k2⟩)⟩,nd',λc hc=>?_,λj d' w=>?_⟩
   ·obtain⟨o,ho⟩:=hx.some;rw[ao ne,ho,s4 _ _ ho]
   ·exact(dl.mono sm5).append (aX.mpr ⟨y',[],rfl,dy.mono (eM lO),cn.mpr rfl⟩)
   ·show D.dct (encK al') _=_;rw[tX k1]
   ·rw[ao (Ne.symm la)];exact s4 _ _ ha3
   ·have own:∀(j:Nat) d',(ρ.set i (some (.nest (bS al'))))[j]?=some (some (.own d'))->ρ[j]?=some (some (.own d')):=λj d' w=>by
     rcases aI w with⟨_,z⟩|⟨_,z⟩
     ·cases z
     ·exact z
    rcases List.mem_cons.mp hc with z|z
    ·rw[z];exact⟨PL _ aO,aHb,aOb,λj d' w=>aS j d' (own j d' w)⟩
    ·rcases mem c z with z'|z'
     ·obtain⟨w1,w2,w3,w4⟩:=hbs c (PL _ z');exact⟨PL _ w1,w2,w3,λj d' w=>w4 j d' (own j d' w)⟩
     ·rw[z'];exact⟨PJ,pHb,pOb,λj d' w=>pS j d' (own j d' w)⟩
   ·rcases aI w with⟨hj,_⟩|⟨_,z⟩
    ·exact hj
    ·exact one j d' z
 have hH2:upd H1 p (.lst []) a=some (.dT kvs)\/(upd H1 p (.lst []) a=some (.dK [])/\kvs=[]):=by
  rw[ao ap];rcases hH with h|⟨h,z⟩
  ·exact .inl (s1 _ _ h)
  ·exact .inr ⟨s1 _ _ h,z⟩
 have hO2:jj X.K (upd H1 p (.lst [])) (p::O) bs (al.map (·.2)):=hO.mono sm2 λc hc ⟨o,ho⟩=>by rw[ao (bsp c hc),ho,s1 _ _ ho]
 refine⟨a,b,q,kvs,.ref p,rfl,by rw[eb],by rw[ao bp];exact hb1',hH2,hlen,λv' hv=>?_,λhv=>?_⟩
 ·rcases uC ek ev hO2 nb hg with⟨c,ys,w1,w2,w3,w4,w5,w6⟩|⟨w1,_⟩
  ·rw[w1]at hv;cases hv;obtain⟨o,wl,h1,h2,h3⟩:=w3;subst h2;rcases hH2 with hH2|⟨_,z⟩
   ·exact fin _ c wl ys bs kvs E2 (λ_ _ z=>z) (λ_ _ _ z=>z) w2 (λz=>na (by rw[<-z];exact w2)) h1 h3 (of_decide_eq_true w4) hH2 (ek.trans w5.symm) ev nd (λ_ z=>.inl z) w6
   ·subst z;cases w1
  ·rw[w1]at hv;cases hv
 ·rcases uC ek ev hO2 nb hg with⟨c,ys,w1,_⟩|⟨_,w2⟩
  ·rw[w1]at hv;cases hv
  ·subst w2;have aO2:a∈p::O:=PL _ aO;refine fin (upd (upd H1 p (.lst [])) a (.dT (putK kvs q (.ref p)))) p [] [] (bs++[p]) (putK kvs q (.ref p)) (E2.rewrite (show oV (.dT (putK kvs q (.ref p)))from trivial) aO2 aS) (eM aO2) (λc o ne z=>by rw[ao ne];exact z) (by simp) (Ne.symm ap) (by rw[ao (Ne.symm ap)];exact ay) (cn.mpr rfl) (by decide) ay ?_ ?_ ?_ (λc hc=>?_) λH' O' oth new=>?_
   ·rw[tu hv,QV,QV,ek];rfl
   ·rw[tu hv,QV,QV,ev];rfl
   ·refine List.nodup_cons.mpr ⟨λz=>?_,List.nodup_append.mpr ⟨nb,by simp,λc hc c' hc' e=>?_⟩⟩
    ·rcases List.mem_append.mp z with z|z
     ·exact na z
     ·exact ap (List.mem_singleton.mp z)
    ·rw[List.mem_singleton.mp hc']at e;exact bsp c hc e
   ·rcases List.mem_append.mp hc with z|z
    ·exact .inl z
    ·exact .inr (List.mem_singleton.mp z)
   ·rw[QV];refine jj.snoc new (hO2.imp λc hc x hx=>oth c (PN _ hc) (bsp c hc) x (hx.mono ?_ (eM aO2)));exact(ao λz=>na (by rw[<-z];exact hc)).symm⟩
theorem zE{o:T6}{es:bx}{k:Nat}{tpos:Pos}{f:FX}{apos cpos:Pos}(ho:XE X o f)(hbase:UH o "items" X.env (eval o X.env)=eval o X.env:=by rfl)(hline:(apos.endLine==cpos.line)=true:=by rfl):XI X (.Tuple es k tpos) (.Call (.Attribute o "items" apos) [] [] cpos) (mI f):=by
 refine⟨?_⟩;rintro pins s σ H RR I ⟨O,ρ,E,hG⟩;refine wpAny_Call_method0_late hbase hline (cN (ho.h pins s σ H (λv H1=>∃a o kvs,v=.ref a/\H1 a=some (.frz o (.dT kvs))/\RR (Nq a o kvs) H1) I ⟨O,ρ,E,(gW.bind hG).imp λd hG v H1 s1 d1=>?_⟩) λv s1 ⟨x,H1,I1,r1,a,o,kvs,ex,ha,hR⟩=>?_)
 ·obtain⟨ds,hg,q⟩:=gW.rO hG;unfold xA at hg;split at hg
  ·rename_i ks dl;cases e1:iM ks dl with
   |none=>rw[e1]at hg;cases hg
   |some al=>
    rw[e1]at hg;cases hg;obtain⟨f1,f2⟩:=gh e1;subst f1 f2;obtain⟨a,o,kvs,q1,q2,q3,q4⟩:=wm d1;exact⟨a,o,kvs,q1,(aj H1 O) _ _ q2,q _ H1 s1 (wN q2 q3 q4)⟩
  ·cases hg
 ·subst ex;cases r1;obtain⟨hob,hx,hsm,es2,ep,xs,hda,_⟩:=wI I1 ha;refine⟨"dict","dict.items",F.plainAttrs_dict,F.slot_dict_items,F.type_dict_items,⟨o,hob,hx.1⟩,λc e=>by cases e;exact⟨o,hob,hx.2.1⟩,Calls.callWith_builtin rfl (PySem.evalArgs_none ?_)⟩;refine xJ hob hx hsm (yd ⟨_,Tp _ rfl,rfl,rfl⟩ (To _ hob) hda ?_);have le:s1.heap.objs.size<=(s1.heap.push {cls:=.type "dict_items",data:=.fields #[.ref a]}).objs.size:=by rw[Tq];exact Qb _
  refine⟨_,_,_,_,H1,rfl,I1.kept (t':=s1.toks) λb u e=>To _ (To _ e),xR hda,⟨_,_,Tp _ rfl⟩,λb hb=>?_,hR⟩;rw[List.mem_singleton.mp hb];exact I1.fpOk le (I1.hok.fresh le)
end
section
variable[aB]
theorem A1{X:Cx}{st:eJ}{F:bH}(i:Nat)(h:ny X st F):ny X st (sd i F):=⟨λHb Ob pins s σ H E I ⟨O,ρ,k,r,S,hF,hk⟩=>by
 unfold sd Ko at hF;split at hF
 ·rename_i ks ds hd;split at hF
  ·rename_i al hal;obtain⟨f1,f2⟩:=gh hal;subst f1 f2;obtain⟨a,bs,h1,h2,h3,h4,h5⟩:=S.nst i _ hd;obtain⟨kvs,hH,ek,ev,hO⟩:=qH h2;obtain⟨na,_⟩:=List.nodup_cons.mp h3;have fin:∀(H0:Hp)(I0:Inv X pins σ H0 s),H0 a=some (.dT kvs)->(∀b,b≠a->H0 b=H b)->Ul (model X.prog X.w) X.A (execs st X.env) (SP X pins E) X.xe s:=λH0 I0 ha0 hH0=>by
    obtain⟨o,I1⟩:=Kr I0 ha0;have hH':∀b,b≠a->upd H0 a (.frz o (.dT kvs)) b=H b:=λb nb=>by rw[ao nb];exact hH0 b nb
    have tab:aB.tab (upd H0 a (.frz o (.dT kvs))):=by
     have:upd H0 a (.frz o (.dT kvs))=upd H a (.frz o (.dT kvs)):=by
      funext b;by_cases z:b=a
      ·rw[z,ay,ay]
      ·rw[ao z,ao z,hH0 b z]
     rw[this];obtain⟨u,q1,q2⟩:=S.env.all.2 a (h4 a PJ).1;exact aB.own S.env.all.1 q1 q2
    refine h.h Hb Ob pins s σ _ E I1 ⟨_,_,k,r,S.frzG hd h1 h4 h5 hH' tab λsm nn=>?_,hF,hk⟩;have hO':jj X.K (upd H0 a (.frz o (.dT kvs))) O bs (al.map (·.2)):=hO.mono (λb u e=>by
     unfold hid at e ⊢;by_cases hb:b∈O
     ·rw[if_pos hb]at e;cases e
     ·rw[if_neg hb]at e;rw[if_neg hb,hH' b λz=>hb (by rw[z];exact(h4 a PJ).1)];exact e) λb hb _=>hH' b λz=>na (by rw[<-z];exact hb)
    have sub:∀b∈O.filter (λb=>decide (b∉a::bs)),b∈O:=λb hb=>(List.mem_filter.mp hb).1;have g:=hO'.den (fw sub) λb hb=>nn b (PL _ hb);refine L3.mpr ⟨a,_,rfl,g,.inr (.inr ⟨kvs,o,by rw[gJ (nn a PJ)];exact ay,by rw[tX ek],ev.symm⟩)⟩
   rcases hH with hH|⟨hH,z⟩
   ·exact fin H I hH λ_ _=>rfl
   ·subst z;exact fin _ (Bc I hH) ay λb nb=>ao nb
  ·exact h.h Hb Ob pins s σ H E I ⟨O,ρ,k,r,S,hF,hk⟩
 ·exact h.h Hb Ob pins s σ H E I ⟨O,ρ,k,r,S,hF,hk⟩⟩
end
section
variable[aB]{X:Cx}
theorem GL{o e:T6}{fo fk:FX}{pos:Pos}(hu:X.A.units+64<UL)(ho:XE X o fo)(hi:XE X e fk)(hs:Jl e):XE X (.Subscript o e pos) (f2 yg fo fk):=⟨PE.weak (Ga ‹0› ho.h hi.h hs) λσ H Q ⟨O,ρ,E,hF⟩=>⟨O,ρ,E,(gW.bind hF).imp λdd hF v H1 s1 d1=>⟨O,ρ,E.same s1,((gW.bind hF).mono s1).imp λk hF y H2 s2 d2=>by
  obtain⟨d,hg,q⟩:=gW.rO hF;cases dd with
  |dct ks ds=>
   have hg:(Eh ks ds).bind (λal=>(fK k).bind λq=>jS al q)=some d:=hg;cases hk:Eh ks ds with
   |none=>rw[hk]at hg;cases hg
   |some al=>
    rw[hk]at hg;cases ht:fK k with
    |none=>rw[ht]at hg;cases hg
    |some qk=>
     rw[ht]at hg;have hg:jS al qk=some d:=hg;obtain⟨a,ea,hh⟩:=yR (d1.mono (bq s2)) hk;rw[jJ ht]at d2;obtain⟨b,ws,eb,g1,g2⟩:=bY.mp d2;rw[fZ g2]at g1;rcases hh with⟨kvs,hr,e1,e2⟩|⟨_,rfl⟩
     ·rcases qK qk e1 e2 with⟨_,z2⟩|⟨w,d',z1,z2,z3⟩
      ·rw[z2]at hg;cases hg
      ·rw[z2]at hg;cases hg;exact⟨a,w,ea,by rw[<-z1];exact .inr ⟨kvs,qk,b,HM hr,eb,(aj H2 O) _ _ g1,rfl⟩,q w H2 (s1.trans s2) z3⟩
     ·cases hg
  |_=>cases hg⟩⟩⟩
end
section
variable[aB]
theorem FD{X:Cx}{i:Nat}{x:Str}{e:T6}{f:FX}{npos apos cpos pos:Pos}(hx:XV X (.Name x npos) i)(he:XN X e f)(hns:noStar e=true:=by rfl)(hbase:UH (.Name x npos) "extend" X.env (eval (.Name x npos) X.env)=eval (.Name x npos) X.env:=by rfl)(hfew:((backTo cpos (Um [e] X.env)).all (λx=>!x.1)&&(backToKw cpos (UJ [] X.env)).all (λx=>x.1.isSome)&&decide (([e]:bx).length+([]:List UR).length+(if([]:List UR).isEmpty then 0 else 1)<30))=true:=by rfl)(hline:(apos.endLine==cpos.line)=true:=by rfl)(hplain:(backTo cpos (Um [] X.env)).any (·.1)=false:=by rfl)(hsw:swapsWith (.Call (.Attribute (.Name x npos) "extend" apos) [e] [] cpos) none pos.line X.env=pure false:=by rfl):XS X (.Expr (.Call (.Attribute (.Name x npos) "extend" apos) [e] [] cpos) pos) (wQ i f):=⟨λHb Ob pins s σ H E I ⟨O,ρ,k,rr,S,hF,hk⟩=>by
 unfold wQ at hF;split at hF
 ·rename_i xs hxs;obtain⟨a,ha,haO,hat⟩:=S.env.own i _ hxs;obtain⟨o,vs0,ho,eo,dn⟩:=hat;subst eo;refine oX (vg F.plainAttrs_list F.slot_list_extend F.type_list_extend zM hx.h (gq he.h iI (cm hns)) hbase hfew hline (cm hns) hplain) hsw pins s σ H E I ⟨.ref a,ha,.inl ⟨rfl,vs0,md.of ho⟩,O,ρ,S.env,gW.on hF hk S λd hr p H1 s1 hp m own=>?_⟩;have S1:=S.same s1;cases d with
  |lst ys=>
   have hr:(if small (xs.length+ys.length)then k.nx (ρ.set i (some (.own (.lst (xs++ys)))))else un)=rr:=hr;cases hsm:small (xs.length+ys.length)with
   |false=>rw[hsm]at hr;exact absurd hr.symm hk.ne
   |true=>
    rw[hsm]at hr;obtain⟨o,zs,h1,h2,h3⟩:=own;subst h2;have dz:aK X.K (hid H1 O) ys zs:=h3.mono (fw λb hb=>PL _ hb);have hz:=dJ hsm;exact⟨a,p,vs0,zs,rfl,rfl,s1 _ _ ho,h1,by rw[<-dn.length,<-dz.length];exact hz,hk.nx O _ σ _ (S1.setO hxs ha trivial (oP haO ((dn.mono (bq s1)).append dz))) hr⟩
  |_=>exact absurd (show un=rr from hr).symm hk.ne
 ·exact absurd hF.symm hk.ne⟩
end
section
variable[aB]{X:Cx}
theorem z6{i:Nat}{x:Str}{l1 l2 l3 pos pos':Pos}(hN:X.N.Nodup)(hi:X.N[i]?=some x)(hx:Loc X.env.scope x)(hs:swapsWith (.List [.List [] l1,.List [] l2] l3) (some (.Name x pos')) pos.line X.env=pure false:=by rfl)(hf:X.fn x=true\/X.env.scope.names.lookup x=some .local:=by first|exact .inl rfl|exact .inr rfl|assumption):XS X (.Assign [.Name x pos'] (.List [.List [] l1,.List [] l2] l3) pos) (n8 i):=⟨λHb Ob pins s σ H E I ⟨O,ρ,k,r,S,hF,hk⟩=>by
 unfold n8 at hF;cases hn:EF ρ with
 |false=>rw[hn]at hF;exact absurd hF.symm hk.ne
 |true=>
  rw[hn]at hF;refine ua hN hi hx (n6 (gq (n6 iI) (gq (n6 iI) iI))) hs hf pins s σ H E I ?_;refine⟨P9 _,λp1 h1=>⟨P9 _,λp2 h2=>⟨by show 2<=Ud;decide,λp hp=>?_⟩⟩⟩;have S1:=S.hide (o:=.lst []) trivial h1;have S2:=S1.hide (o:=.lst []) trivial h2;have S3:=S2.hide (o:=.lst [.ref p1,.ref p2]) trivial hp;obtain⟨a1,a2,a3⟩:=S.new h1;obtain⟨b1,b2,b3⟩:=S1.new h2;obtain⟨c1,c2,c3⟩:=S2.new hp;have n12:p1≠p2:=aE ay h2;have n1:p1≠p:=aE (by rw[ao n12];exact ay) hp;have n2:p2≠p:=aE ay hp;refine hk.nx _ _ _ _ (S3.setL (by rw[I.len];exact(List.getElem?_eq_some_iff.mp hi).1) hn (bs:=[p1,p2]) ⟨[.lst [],.lst []],⟨⟨_,[],by rw[ao n1,ao n12];exact ay,rfl,cn.mpr rfl⟩,⟨_,[],by rw[ao n2];exact ay,rfl,cn.mpr rfl⟩,trivial⟩,.inl ⟨rfl,ay⟩⟩ (by simp[n12,n1.symm,n2.symm]) λb hb=>?_) hF;rcases List.mem_cons.mp hb with z|hb
  ·rw[z];exact⟨PJ,c1,c2,c3⟩
  ·rcases List.mem_cons.mp hb with z|hb
   ·rw[z];exact⟨by simp,a1,a2,a3⟩
   ·rw[List.mem_singleton.mp hb];exact⟨by simp,b1,b2,b3⟩⟩
theorem Dv{i c:Nat}{ci:Int}{x:Str}{ve:T6}{fv:FX}{j:Nat}{npos jpos spos ap cp pos:Pos}(hx:XV X (.Name x npos) i)(hve:XE X ve fv)(hci:ci=(c:Int):=by rfl)(hpl:pE (.Constant (.int ci) j jpos):=by intro _ _;rfl)(hn2:noStar ve=true:=by rfl)(hb2:UH (.Subscript (.Name x npos) (.Constant (.int ci) j jpos) spos) "append" X.env (eval (.Subscript (.Name x npos) (.Constant (.int ci) j jpos) spos) X.env)=eval (.Subscript (.Name x npos) (.Constant (.int ci) j jpos) spos) X.env:=by rfl)(hf2:((backTo cp (Um [ve] X.env)).all (λx=>!x.1)&&(backToKw cp (UJ [] X.env)).all (λx=>x.1.isSome)&&decide (([ve]:bx).length+([]:List UR).length+(if([]:List UR).isEmpty then 0 else 1)<30))=true:=by rfl)(hl2:(ap.endLine==cp.line)=true:=by rfl)(hp2:(backTo cp (Um [] X.env)).any (·.1)=false:=by rfl)(hsw:swapsWith (.Call (.Attribute (.Subscript (.Name x npos) (.Constant (.int ci) j jpos) spos) "append" ap) [ve] [] cp) none pos.line X.env=pure false:=by rfl):XS X (.Expr (.Call (.Attribute (.Subscript (.Name x npos) (.Constant (.int ci) j jpos) spos) "append" ap) [ve] [] cp) pos) (oC i c fv):=by
 replace hx:=hx.h
 exact⟨λHb Ob pins s σ H E I ⟨O,ρ,k,rr,S,hF,hk⟩=>by
 obtain⟨xs,ys,v,hi,hxc,hfv,hsm,hnx⟩:=wW hF hk.ne;subst hci;obtain⟨a,bs,ha,⟨xs',hO,hat⟩,nd,hbs,one⟩:=S.nst i _ hi;obtain⟨rfl,hHa⟩:xs'=xs/\H a=some (.lst (bs.map .ref)):=by
  rcases hat with⟨e,q⟩|⟨_,e,_⟩|⟨e,_⟩
  ·cases e;exact⟨rfl,q⟩
  ·cases e
  ·cases e
 obtain⟨na,nb⟩:=List.nodup_cons.mp nd;obtain⟨aO,aHb,aOb,aS⟩:=hbs a PJ;obtain⟨l,hl,⟨o,wl,hl3,eo,dl⟩,new⟩:=v9 hO nb hxc;subst eo;have lb:=Qi hl;have la:l≠a:=λz=>na (by rw[<-z];exact lb);obtain⟨lO,lHb,lOb,lS⟩:=hbs l (PL _ lb);refine oX (vg F.plainAttrs_list F.slot_list_append F.type_list_append kR (G5 yw hx xG hpl) (yS hve.h CT hn2) hb2 hf2 hl2 (cm hn2) hp2) hsw pins s σ H E I ?_;refine⟨.ref a,ha,a,bs.map .ref,(c:Int),.ref l,rfl,rfl,md.of hHa,GQ (by rw[Qh,hl];rfl),.inl ⟨rfl,wl,md.of hl3⟩,O,ρ,S.env,?_⟩;have e1:(aa fv af) ρ=.ok [v]:=by
  show(fv ρ).bind _=_;rw[hfv];rfl
 rw[e1];intro vs H4 s4 dv;obtain⟨y',rfl,dy⟩:=dv.one;have hl4:=s4 _ _ hl3;have sm5:aR (hid H O) (hid (upd H4 l (.lst (wl++[y']))) O):=(bq s4).trans (eM lO);have wlen:=dl.length;refine⟨l,wl,y',rfl,rfl,hl4,by rw[<-wlen];exact Pz (Nat.lt_of_succ_le (of_decide_eq_true hsm)) (by decide),hk.nx O _ σ _ (S.setN hi (λc hc=>hc) sm5 ⟨λc u h=>?_,S.base.sub,S.base.new⟩ ((S.env.all.same s4).upd lO trivial) (λj xs c w1 w2=>?_) ?_) hnx⟩
 ·have cl:c≠l:=λz=>by rw[z,lHb]at h;cases h
  rw[ao cl];exact s4 _ _ (S.base.same c u h)
 ·obtain⟨c',q1,q2,q3⟩:=S.env.own j xs w1;rw[w2]at q1;cases q1;obtain⟨o,ho⟩:=q3.some;have cl:c≠l:=λz=>lS j xs w1 (by rw[<-z];exact w2);rw[ho,ao cl];exact(s4 _ _ ho).symm
 ·have own:∀(j:Nat) d' d2,(ρ.set i (some (.nest d2)))[j]?=some (some (.own d'))->ρ[j]?=some (some (.own d')):=λj d' d2 w=>by
   rcases aI w with⟨_,z⟩|⟨_,z⟩
   ·cases z
   ·exact z
  refine⟨a,bs,ha,⟨_,new _ _ (.lst (ys++[v])) (λc hc ne x hx=>hx.mono ?_ sm5) ⟨_,_,ay,rfl,?_⟩,.inl ⟨rfl,?_⟩⟩,nd,λc hc=>?_,λj d' w=>?_⟩
  ·obtain⟨o,ho⟩:=hx.some;rw[ao ne,ho,s4 _ _ ho]
  ·exact(dl.mono sm5).append (aX.mpr ⟨y',[],rfl,dy.mono (eM lO),cn.mpr rfl⟩)
  ·rw[ao (Ne.symm la)];exact s4 _ _ hHa
  ·obtain⟨w1,w2,w3,w4⟩:=hbs c hc;exact⟨w1,w2,w3,λj d' w=>w4 j d' (own j d' _ w)⟩
  ·rcases aI w with⟨hj,_⟩|⟨_,z⟩
   ·exact hj
   ·exact one j d' z⟩
end
noncomputable abbrev Lk(K:SH)(f:T5)(nm qual:Str)(st:T7)(oc:T2)(od:Option T5)(kV dc pm:T2)(an:Option T5)(cd ct:T2)(sl:Array (Option T2)):Prop:=K.lookup f=some ⟨oc,od,.func (S6 nm qual (jx st) (dF st) (aw st) .none kV dc pm an cd ct),sl⟩
structure yU(P:Ua)(w:T9)(K:SH)(mg:cB)(base:Uc)(k:Nat)(N:ax)(qual:Str)(st:T7)(f:T5)(B:bH):Prop where
 h:∀(cdv:T2)(A:Uj)(outer:List Env)(s:T8)(H:Hp)(E:XK),eY k (A.deeper (TC qual (aw st) s.heap.objs.size f cdv))->Uw (model P w) (A.deeper (TC qual (aw st) s.heap.objs.size f cdv)) (TC qual (aw st) s.heap.objs.size f cdv) (ie (j3 P w) P w K mg base N qual (aw st) f cdv A outer s H E).xe->
  ny (ie (j3 P w) P w K mg base N qual (aw st) f cdv A outer s H E) (dF st) B
structure Ik(P:Ua)(w:T9)(K:SH)(mg:cB)(base:Uc)(k:Nat)(N:ax)(qual:Str)(st:T7)(f:T5)(B:bH):Prop where
 h:∀(cdv:T2)(A:Uj)(outer:List Env)(s:T8)(H:Hp)(E:XK),rC K f cdv->eY k (A.deeper (TC qual (aw st) s.heap.objs.size f cdv))->Uw (model P w) (A.deeper (TC qual (aw st) s.heap.objs.size f cdv)) (TC qual (aw st) s.heap.objs.size f cdv) (ie (j3 P w) P w K mg base N qual (aw st) f cdv A outer s H E).xe->
  ny (ie (j3 P w) P w K mg base N qual (aw st) f cdv A outer s H E) (dF st) B
theorem Ik.ok{P:Ua}{w:T9}{K:SH}{mg:cB}{base:Uc}{k:Nat}{N:ax}{qual:Str}{st:T7}{f:T5}{B:bH}(h:Ik P w K mg base k N qual st f B):uH P w K mg base k N qual st f B:=⟨λcdv A outer s H E hc hr hp=>(h.h cdv A outer s H E hc hr hp).h⟩
theorem yU.ok{P:Ua}{w:T9}{K:SH}{mg:cB}{base:Uc}{k:Nat}{N:ax}{qual:Str}{st:T7}{f:T5}{B:bH}(h:yU P w K mg base k N qual st f B):BodyOk P w K mg base k N qual st f B:=⟨λcdv A outer s H E hr hp=>(h.h cdv A outer s H E hr hp).h⟩
section
variable{X:Cx}{x:Str}{pos:Pos}
theorem xw(i:Nat)(hN:X.N[i]?=some x:=by rfl)(hv:Ij X.env.scope x:=by first|exact Or.inl rfl|exact Or.inr (Or.inl rfl)|exact Or.inr (Or.inr rfl))(hd:(x==("__debug__":Str))=false:=by decide)(hcd:(x==("__classdict__":Str))=false:=by decide):XE X (.Name x pos) (ae i):=Fs (xv i hN hv hd hcd)
theorem xi{a b:T6}{fa fb:FX}(ha:XE X a fa)(hb:XE X b fb)(hs:pE b:=by exact λ_ _=>rfl):XE X (.Subscript a b pos) (f2 ah fa fb):=HU ha hb hs
theorem xs(i:Nat){e:T6}{f:FX}{pos':Pos}(hN:X.N.Nodup)(he:XE X e f)(hi:X.N[i]?=some x:=by rfl)(hx:Loc X.env.scope x:=by first|exact Or.inl rfl|exact Or.inr rfl)(hs:swapsWith e (some (.Name x pos')) pos.line X.env=pure false:=by rfl)(hf:X.fn x=true\/X.env.scope.names.lookup x=some .local:=by first|exact .inl rfl|exact .inr rfl|assumption):XS X (.Assign [.Name x pos'] e pos) (aM i f):=GZ hN hi hx he hs hf
end
noncomputable def Nf:ax->Bool
 |[]=>true
 |x::r=>!(r.contains x)&&Nf r
theorem pW{l:ax}(h:Nf l=true):l.Nodup:=by
 induction l with
 |nil=>exact Qy
 |cons x r ih=>
  simp only[Nf,Qm,Bool.not_eq_true']at h;exact List.nodup_cons.mpr ⟨λm=>by rw[List.contains_iff_mem.mpr m]at h;exact absurd h.1 (by decide),ih h.2⟩
noncomputable def Hh:T6->ax
 |.Name x _=>[x]
 |.Tuple es _ _=>es.filterMap λe=>match e with
  |.Name x _=>some x
  |_=>none
 |_=>[]
noncomputable def Bk(N:ax):gH->ax->ax
 |[],_=>[]
 |some j::r,t=>N.getD j ""::Bk N r t
 |none::r,x::t=>x::Bk N r t
 |none::r,[]=>""::Bk N r []
section
variable{X:Cx}{elt tg iter:T6}{ifs:bx}{scope:Uk}{ix:gH}{G:bE}{g:GF}{C:bT}{Fe:FX}{i:Nat}{y:Str}{lpos py pos:Pos}
theorem xl(hc:X.calm=true)(tk:oT ix g)(hi:XI X tg iter G)(hb:ra X scope (Bk X.N ix (Hh tg)) tg elt ifs g C Fe)(ok:kH X.env.scope.names X.N scope (Bk X.N ix (Hh tg)) ix=true:=by rfl)(hs:∀x,Ux iter X.env x=pure x:=by intro _;rfl):XE X (.ListComp elt [⟨tg,iter,ifs,0⟩] scope pos) (dA ix G g C Fe):=Ih hc (.of ok) tk hi hb hs
theorem O6(hc:X.calm=true)(tk:oT ix g)(hi:XI X tg iter G)(hb:ra X scope (Bk X.N ix (Hh tg)) tg elt ifs g C Fe)(ok:kH X.env.scope.names X.N scope (Bk X.N ix (Hh tg)) ix=true:=by rfl)(hs:∀x,Ux iter X.env x=pure x:=by intro _;rfl):XN X (.ListComp elt [⟨tg,iter,ifs,0⟩] scope pos) (dA ix G g C Fe):=JL hc (.of ok) tk hi hb hs
theorem OY(hN:X.N.Nodup)(hc:X.calm=true)(tk:oT ix g)(hi:XI X tg iter G)(hb:ra X scope (Bk X.N ix (Hh tg)) tg elt ifs g C Fe)(hi':X.N[i]?=some y:=by rfl)(hx:Loc X.env.scope y:=by first|exact Or.inl rfl|exact Or.inr rfl)(ok:kH X.env.scope.names X.N scope (Bk X.N ix (Hh tg)) ix=true:=by rfl)(hsw:swapsWith (.ListComp elt [⟨tg,iter,ifs,0⟩] scope lpos) (some (.Name y py)) pos.line X.env=pure true:=by rfl)(hs:∀x,Ux iter X.env x=pure x:=by intro _;rfl)(hf:X.fn y=true\/X.env.scope.names.lookup y=some .local:=by first|exact .inl rfl|exact .inr rfl|assumption):XS X (.Assign [.Name y py] (.ListComp elt [⟨tg,iter,ifs,0⟩] scope lpos) pos) (aM i (dA ix G g C Fe)):=IJ hN hi' hx hc (.of ok) tk hi hb hsw hs hf
theorem Ot(hN:X.N.Nodup)(hc:X.calm=true)(tk:oT ix g)(hi:XI X tg iter G)(hb:ra X scope (Bk X.N ix (Hh tg)) tg elt ifs g C Fe)(hi':X.N[i]?=some y:=by rfl)(hx:Loc X.env.scope y:=by first|exact Or.inl rfl|exact Or.inr rfl)(ok:kH X.env.scope.names X.N scope (Bk X.N ix (Hh tg)) ix=true:=by rfl)(hsw:swapsWith (.ListComp elt [⟨tg,iter,ifs,0⟩] scope lpos) (some (.Name y py)) pos.line X.env=pure true:=by rfl)(hs:∀x,Ux iter X.env x=pure x:=by intro _;rfl)(hf:X.fn y=true\/X.env.scope.names.lookup y=some .local:=by first|exact .inl rfl|exact .inr rfl|assumption):XS X (.Assign [.Name y py] (.ListComp elt [⟨tg,iter,ifs,0⟩] scope lpos) pos) (iY i (dA ix G g C Fe)):=AV hN hi' hx hc (.of ok) tk hi hb hsw hs hf
end
structure U where
 P:Ua
 w:T9
 K:SH
 mg:cB
 base:Uc
 cL:T5
 T:T5
noncomputable abbrev Ca(u:U)(k:Nat)(x:Str)(ps:ax)(g:cO):Prop:=Callee u.P u.w u.K u.mg u.base k x ps g
noncomputable abbrev Ma(u:U)(k:Nat)(c m:Str)(ps:ax)(g:cO):Prop:=MethAt u.P u.w u.K u.mg u.base k c m ps g
noncomputable abbrev Ta(u:U)(k:Nat)(m:Str)(ps:ax)(t:List (Str×(cO))):Prop:=qQ u.P u.w u.K u.mg u.base k m ps t
noncomputable def Df(u:U)(x:Str)(st:T7):Prop:=∃f fd,uQ u.K x x st f fd/\u.mg x=some (.ref f)
noncomputable def Dl(u:U)(x:Str)(st:T7):Prop:=∃f fd,uQ u.K x x st f fd/\u.mg x=some (.ref f)/\rC u.K f (.ref u.cL)
noncomputable def Dm(u:U)(c m qual:Str)(st:T7):Prop:=∃C f fd,clsAt u.K c C/\wB u.K C/\Meth u.K C m f/\uQ u.K m qual st f fd
noncomputable def Bd(x qual:Str)(st:T7)(ps:ax):Prop:=∀us:aU,us.length=ps.length->∀(kV doc pm:T2)(an:Option T5)(cdv ct:T2),bindArgs (S6 x qual (jx st) (dF st) (aw st) .none kV doc pm an cdv ct) ⟨us,[]⟩=pure (ps.zip us)
theorem uQ.bd{K:SH}{x qual:Str}{st:T7}{f:T5}{fd:UM}{ps:ax}(F:uQ K x qual st f fd)(h:Bd x qual st ps):Binds K fd ps []:=F.binds λkV doc pm an cdv ct us e=>h us e kV doc pm an cdv ct
section
variable{u:U}{x c m qual:Str}{st:T7}{ps:ax}{k:Nat}{B:bH}
theorem D8(M:ax)(d:Df u x st)(b:Bd x x st ps)(sc:dD (ps++M) ps (aw st))(h:(ps++M).Nodup->∀f,yU u.P u.w u.K u.mg u.base k (ps++M) x st f B):Ca u (k+1) x ps (aC B ps.length (ps++M).length):=by
 obtain⟨f,fd,F,e⟩:=d;exact Ba F (uQ.bd F b) e sc (h sc.nd f).ok
theorem Eg(d:Df u x st)(b:Bd x x st ps):Ca u k x ps λ_=>un:=by
 obtain⟨f,fd,F,e⟩:=d;exact u5 k F (uQ.bd F b) e
theorem Of(M:ax)(d:Dl u x st)(b:Bd x x st ps)(sc:dD (ps++M) ps (aw st))(h:(ps++M).Nodup->∀(f:T5)(A:Uj)(outer:List Env)(s:T8)(H:Hp)(E:XK),eY k (A.deeper (TC x (aw st) s.heap.objs.size f (.ref u.cL)))->Uw (model u.P u.w) (A.deeper (TC x (aw st) s.heap.objs.size f (.ref u.cL))) (TC x (aw st) s.heap.objs.size f (.ref u.cL)) (ie (j3 u.P u.w) u.P u.w u.K u.mg u.base (ps++M) x (aw st) f (.ref u.cL) A outer s H E).xe->
  ny (ie (j3 u.P u.w) u.P u.w u.K u.mg u.base (ps++M) x (aw st) f (.ref u.cL) A outer s H E) (dF st) B):Ca u (k+1) x ps (aC B ps.length (ps++M).length):=by
 obtain⟨f,fd,F,e,hc⟩:=d;refine yn F (uQ.bd F b) e sc (Ik.ok ⟨λcdv A outer s H E hd hr hp=>?_⟩);obtain rfl:=hd.one hc;exact h sc.nd f A outer s H E hr hp
theorem O1(M:ax)(d:Dm u c m qual st)(b:Bd m qual st ps)(sc:dD (ps++M) ps (aw st))(h:(ps++M).Nodup->∀f,yU u.P u.w u.K u.mg u.base k (ps++M) qual st f B):Ma u (k+1) c m ps (aC B ps.length (ps++M).length):=by
 obtain⟨C,f,fd,h1,h2,h3,F⟩:=d;exact Am h1 h2 h3 F (uQ.bd F b) sc (h sc.nd f).ok
theorem OC(M:ax){f:T5}{fd:UM}(F:uQ u.K x x st f fd)(sc:dD (ps++M) ps (aw st))(h:(ps++M).Nodup->yU u.P u.w u.K u.mg u.base k (ps++M) x st f B):ir u.P u.w u.K u.mg u.base (j3 u.P u.w) (k+1) f fd ps (zV u.K ps.length (aC B ps.length (ps++M).length)):=tY F sc (h sc.nd).ok
end
noncomputable def KD(K:SH)(x:Str)(st:T7):Prop:=∃f oc od kV dc pm an cd ct sl,S8 K Ug x=some (some (.ref f))/\Lk K f x x st oc od kV dc pm an cd ct sl/\S7 K cd x=true/\S0 K (.ref f)=true
theorem KD.mk{K:SH}{x:Str}{st:T7}{f:T5}{oc:T2}{od:Option T5}{kV dc pm:T2}{an:Option T5}{cd ct:T2}{sl:Array (Option T2)}(a:S8 K Ug x=some (some (.ref f)))(l:Lk K f x x st oc od kV dc pm an cd ct sl)(c:S7 K cd x=true)(k:S0 K (.ref f)=true):KD K x st:=⟨f,oc,od,kV,dc,pm,an,cd,ct,sl,a,l,c,k⟩
noncomputable def KDs(K:SH):List (Str×T7)->Prop
 |[]=>True
 |p::r=>KD K p.1 p.2/\KDs K r
theorem KDs.mk{K:SH}{x:Str}{st:T7}{r:List (Str×T7)}(h:KD K x st)(t:KDs K r):KDs K ((x,st)::r):=⟨h,t⟩
noncomputable def L1(u:U)(Z:Prop):List (Str×T7)->Prop
 |[]=>Z
 |p::r=>L1 u Z r/\Df u p.1 p.2
noncomputable def KZs(K:SH):ax->Prop
 |[]=>True
 |x::r=>S8 K Ug x=some none/\KZs K r
theorem KZs.mk{K:SH}{x:Str}{r:ax}(h:S8 K Ug x=some none)(t:KZs K r):KZs K (x::r):=⟨h,t⟩
noncomputable def Zs(u:U):ax->Prop
 |[]=>True
 |x::r=>Zs u r/\u.mg x=none
section
variable{u:U}{h:Uc}
theorem L1.of{Z:Prop}(X:u.K.In h)(G:h.Ns Ug u.mg)(z:Z):∀{l:List (Str×T7)},KDs u.K l->L1 u Z l
 |[],_=>z
 |_::_,h=>by
  obtain⟨⟨_,_,_,_,_,_,_,_,_,_,a,l,c,k⟩,r⟩:=h;exact⟨L1.of X G z r,_,_,gO l c k,Th X G a⟩
theorem Zs.of(X:u.K.In h)(G:h.Ns Ug u.mg):∀{l:ax},KZs u.K l->Zs u l
 |[],_=>trivial
 |_::_,⟨a,r⟩=>⟨Zs.of X G r,PySem.W.mg_none_of X G a⟩
end
theorem BM{us:aU}{n:Nat}(h:us.length=n+1):∃a r,us=a::r/\r.length=n:=by
 cases us with
 |nil=>cases h
 |cons a r=>exact⟨a,r,rfl,Nat.succ.inj h⟩
theorem Kt{us:aU}(h:us.length=1):∃a,us=[a]:=List.length_eq_one_iff.mp h
theorem Jb{us:aU}(h:us.length=2):∃a b,us=[a,b]:=by
 obtain⟨a,r,rfl,k⟩:=BM h;obtain⟨b,rfl⟩:=Kt k;exact⟨a,b,rfl⟩
theorem KA{us:aU}(h:us.length=3):∃a b c,us=[a,b,c]:=by
 obtain⟨a,r,rfl,k⟩:=BM h;obtain⟨b,c,rfl⟩:=Jb k;exact⟨a,b,c,rfl⟩
theorem KH{us:aU}(h:us.length=4):∃a b c d,us=[a,b,c,d]:=by
 obtain⟨a,r,rfl,k⟩:=BM h;obtain⟨b,c,d,rfl⟩:=KA k;exact⟨a,b,c,d,rfl⟩
theorem Lz{us:aU}(h:us.length=5):∃a b c d e,us=[a,b,c,d,e]:=by
 obtain⟨a,r,rfl,k⟩:=BM h;obtain⟨b,c,d,e,rfl⟩:=KH k;exact⟨a,b,c,d,e,rfl⟩
theorem M7{us:aU}(h:us.length=6):∃a b c d e f,us=[a,b,c,d,e,f]:=by
 obtain⟨a,r,rfl,k⟩:=BM h;obtain⟨b,c,d,e,f,rfl⟩:=Lz k;exact⟨a,b,c,d,e,f,rfl⟩
end TX
namespace TG
open L2
instance(priority:=low) noTabs:aB:=⟨λ_=>True,λ_ _=>trivial,λ_ _ _=>trivial⟩
open PySem PySem.Spec L2
theorem nr{α:Sort _}{a b:α}(h:a=b):a=b:=h
theorem cJ{α β:Type}(a:α)(f:α->R β):Except.bind (Except.ok a:R α) f=f a:=nr rfl
theorem tP{α β:Type}(x:Option Ex)(f:α->R β):Except.bind (Except.error x:R α) f=.error x:=nr rfl
theorem qB{α:Type}(a:α)(k:Ks)(ρ:aq)(f:α->R D):o7 (.ok a) k ρ f=f a:=nr rfl
theorem sG{α:Type}(x:Ex)(k:Ks)(ρ:aq)(f:α->R D):o7 (.error (some x)) k ρ f=k.ex x ρ:=nr rfl
theorem gQ{α:Type}(a:α):xj (.ok a:R α)=.ok a:=nr rfl
theorem eA{α:Type}(a:α):rO (some a)=.ok a:=nr rfl
theorem ge_0(d:D)(ρ:aq):qU (some (.val d)::ρ) 0=.ok d:=rfl
theorem AZ(x:Option S)(ρ:aq)(i:Nat):qU (x::ρ) (i+1)=qU ρ i:=rfl
theorem nT(i:Nat)(ρ:aq):ae i ρ=qU ρ i:=rfl
theorem zS(d:D)(ρ:aq):fC d ρ=.ok d:=rfl
theorem nz(ρ:aq):af ρ=.ok []:=rfl
theorem kW(f:FX)(g:bE)(ρ:aq):aa f g ρ=(f ρ).bind λx=>(g ρ).bind λxs=>.ok (x::xs):=rfl
theorem oa(g:bE)(ρ:aq):aL g ρ=(g ρ).bind λxs=>rO (qb xs):=rfl
theorem nK(g:bE)(ρ:aq):eV g ρ=(g ρ).bind λxs=>rO (jP xs):=rfl
theorem A6(g:D->bG)(f:FX)(ρ:aq):f1 g f ρ=(f ρ).bind λa=>rO (g a):=rfl
theorem A7(g:D->D->bG)(f h:FX)(ρ:aq):f2 g f h ρ=(f ρ).bind λa=>(h ρ).bind λb=>rO (g a b):=rfl
theorem Au(f:FX)(ρ:aq):fB f ρ=(f ρ).bind λd=>rO (N1 d):=rfl
theorem zN(g:List D->bG)(f:bE)(ρ:aq):fL g f ρ=(f ρ).bind λds=>rO (g ds):=rfl
theorem Az(g:cO)(f:bE)(ρ:aq):fR g f ρ=(f ρ).bind g:=nr rfl
theorem nR(f:bT)(ρ:aq):lT f ρ=(f ρ).bind λb=>.ok (!b):=rfl
theorem oj(f g:bT)(ρ:aq):vN f g ρ=(f ρ).bind λb=>if b then g ρ else .ok false:=rfl
theorem tQ(f g:bT)(ρ:aq):xx f g ρ=(f ρ).bind λb=>if b then .ok true else g ρ:=rfl
theorem iQ(f:FX)(ρ:aq):cQ f ρ=(f ρ).bind λd=>rO (truth d):=rfl
theorem kY(f g:FX)(ρ:aq):jr f g ρ=(f ρ).bind λd=>xg d (g ρ):=rfl
theorem nN(f g:FX)(ρ:aq):Gr f g ρ=(f ρ).bind λd=>LD d (g ρ):=rfl
theorem kE(f:FX)(ρ:aq):vx f ρ=(f ρ).bind λa=>rO (yh a):=rfl
theorem tL(t:bT)(f g:FX)(ρ:aq):La t f g ρ=(t ρ).bind λc=>if c then f ρ else g ρ:=rfl
theorem nq(T:String)(f:FX)(ρ:aq):iR T f ρ=(f ρ).bind λa=>rO (fD T a):=rfl
theorem nG(f:FX)(ρ:aq):MR f ρ=(f ρ).bind λa=>.ok (.bl (isNon a)):=rfl
theorem kA(f:FX)(ρ:aq):Kv f ρ=(f ρ).bind λa=>.ok (.bl (!isNon a)):=rfl
theorem nS(f:FX)(ρ:aq):lD f ρ=(f ρ).bind λa=>rO (IX a):=rfl
theorem jd(f:FX)(ρ:aq):HS f ρ=(f ρ).bind λa=>rO (C7 a):=rfl
theorem ou(f:FX)(ρ:aq):NU f ρ=(f ρ).bind λa=>rO (Jc a):=rfl
theorem iX(g g':D->D->bG)(fa fb fc:FX)(ρ:aq):lX g g' fa fb fc ρ=(fa ρ).bind λx=>(fb ρ).bind λy=>(rO (g x y)).bind λz=>xg z ((fc ρ).bind λw=>rO (g' y w)):=rfl
theorem jc(f:FX)(ρ:aq):aG f ρ=(f ρ).bind λd=>rO (qJ d):=rfl
theorem hJ(f:bE)(ρ:aq):eX f ρ=(f ρ).bind λds=>rO (lx ds):=rfl
theorem hU(f:bE)(ρ:aq):o9 f ρ=(f ρ).bind λds=>rO (pp ds):=rfl
theorem n9(f:bE)(ρ:aq):oU f ρ=(f ρ).bind λds=>rO (rk ds):=rfl
theorem kN(f:bE)(ρ:aq):gb f ρ=(f ρ).bind λds=>rO (tE ds):=rfl
theorem n5(z:Str):Oh (.str z)=some z:=rfl
theorem h7(ρ:aq):av ρ=.ok none:=rfl
theorem kJ(f:FX)(ρ:aq):aY f ρ=(f ρ).bind λd=>rO (wK d):=rfl
theorem iZ(f:FX)(l h:aq->R dQ)(ρ:aq):aH f l h ρ=(f ρ).bind λa=>(l ρ).bind λlo=>(h ρ).bind λhi=>rO (qC a lo hi):=rfl
theorem lr(ρ:aq):bF ρ=.ok true:=rfl
theorem kG(k:Ks)(ρ:aq):bC k ρ=k.nx ρ:=nr rfl
theorem gX(A B:bH)(k:Ks)(ρ:aq):ai A B k ρ=A {k with nx:=B k} ρ:=nr rfl
theorem li(f:FX)(k:Ks)(ρ:aq):aN f k ρ=o7 (f ρ) k ρ .ok:=nr rfl
theorem ji(k:Ks)(ρ:aq):KY k ρ=.ok .non:=nr rfl
theorem lR(c:bT)(A B:bH)(k:Ks)(ρ:aq):fF c A B k ρ=o7 (c ρ) k ρ λb=>if b then A k ρ else B k ρ:=nr rfl
theorem ly(i:Nat)(f:FX)(k:Ks)(ρ:aq):aM i f k ρ=o7 (f ρ) k ρ λd=>k.nx (setV i d ρ):=nr rfl
theorem jn(is:List Nat)(F:bH)(k:Ks)(ρ:aq):dC is F k ρ=F k (kill is ρ):=nr rfl
theorem iA(G:bE)(g:GF)(B:bH)(k:Ks)(ρ:aq):iE G g B k ρ=o7 (G ρ) k ρ λds=>iu g B k ds ρ:=nr rfl
theorem zH(d:D)(x:Option S)(ρ:aq):setV 0 d (x::ρ)=some (.val d)::ρ:=rfl
theorem Ai(i:Nat)(d:D)(x:Option S)(ρ:aq):setV (i+1) d (x::ρ)=x::setV i d ρ:=rfl
theorem m9(ρ:aq):kill [] ρ=ρ:=rfl
theorem kU(i:Nat)(is:List Nat)(ρ:aq):kill (i::is) ρ=kill is (ρ.set i none):=rfl
theorem gI(B:bH)(n:Nat)(a:D):aC B 1 n [a]=B K0 (env0 n [a]):=nr rfl
theorem cE(B:bH)(n:Nat)(a b:D):aC B 2 n [a,b]=B K0 (env0 n [a,b]):=nr rfl
theorem jy(B:bH)(n:Nat)(a b c:D):aC B 3 n [a,b,c]=B K0 (env0 n [a,b,c]):=nr rfl
theorem wG(B:bH)(n:Nat)(a b c d:D):aC B 4 n [a,b,c,d]=B K0 (env0 n [a,b,c,d]):=nr rfl
theorem IY(B:bH)(n:Nat)(a b c d e:D):aC B 5 n [a,b,c,d,e]=B K0 (env0 n [a,b,c,d,e]):=nr rfl
theorem nu(ρ:aq):inB [] ρ=[]:=rfl
theorem lj(ix:gH)(ρ:aq):inB (none::ix) ρ=none::inB ix ρ:=rfl
noncomputable def pick(ρ:aq)(i:Nat):Option S:=match ρ[i]? with
 |some (some (.val d))=>some (.val d)
 |_=>none
theorem kX(i:Nat)(ix:gH)(ρ:aq):inB (some i::ix) ρ=pick ρ i::inB ix ρ:=rfl
theorem Ab(d:D)(ρ:aq):pick (some (.val d)::ρ) 0=some (.val d):=rfl
theorem zv(x:Option S)(ρ:aq)(i:Nat):pick (x::ρ) (i+1)=pick ρ i:=rfl
theorem kZ(i:Nat)(f:FX)(k:Ks)(ρ:aq):iY i f k ρ=o7 (f ρ) k ρ λd=>k.nx (ρ.set i (some (.own d))):=nr rfl
theorem kM(i:Nat)(F:bH)(k:Ks)(ρ:aq):fA i F k ρ=F k (frz i ρ):=nr rfl
theorem AX(d:D)(ρ:aq):frz 0 (some (.own d)::ρ)=some (.val d)::ρ:=rfl
theorem sj(d:D)(ρ:aq):frz 0 (some (.val d)::ρ)=some (.val d)::ρ:=rfl
theorem AC(i:Nat)(x:Option S)(ρ:aq):frz (i+1) (x::ρ)=x::frz i ρ:=by
 unfold frz;rw[Rm];split<;>rename_i h
 ·rw[h];rfl
 ·rfl
theorem jI(i:Nat)(u:List D->List D->Option (List D))(f:bE)(k:Ks)(ρ:aq){xs:List D}(h:ρ[i]?=some (some (.own (.lst xs)))):xV i u f k ρ=o7 (f ρ) k ρ λds=>(rO (u xs ds)).bind λys=>k.nx (ρ.set i (some (.own (.lst ys)))):=by
 unfold xV;rw[h]
theorem jK{xs:List D}{y:D}(h:xs.length<100000):eK xs [y]=some (xs++[y]):=by
 show(if small (xs.length+1)then some (xs++[y])else none)=_;rw[cK ‹0›];rfl
theorem mY(i j:Int):aW (.int i) (.int j)=some (.int (i+j)):=nr rfl
theorem nJ(i j:Int):TG.uc (.int i) (.int j)=some (.int (i-j)):=nr rfl
theorem rV(i j:Int):Pa (.int i) (.int j)=some (.bl (decide (i<j))):=nr rfl
theorem nH(i j:Int):mE (.int i) (.int j)=some (.bl (decide (i<j))):=nr rfl
theorem ot(x y:Str):mE (.str x) (.str y)=some (.bl (decide (x.cps.toList<y.cps.toList))):=nr rfl
theorem nD(c d:Bool):Nt (.bl c) (.bl d)=some (.bl (c==d)):=nr rfl
theorem ic(c d:Bool):Ft (.bl c) (.bl d)=some (.bl (!(c==d))):=nr rfl
theorem su(i j:Int):Dr (.int i) (.int j)=some (.bl (decide (i<=j))):=nr rfl
theorem rS(i j:Int):J2 (.int i) (.int j)=some (.bl (decide (j<i))):=nr rfl
theorem tD(i j:Int):Lb (.int i) (.int j)=some (.bl (decide (j<=i))):=nr rfl
theorem mX(i:Int):IX (.int i)=some (.int (-i)):=nr rfl
theorem d9{i j:Int}(h:0<j):bP (.int i) (.int j)=some (.int (i%j)):=by
 show(if decide (0<j)then some (D.int (i%j))else none)=_;rw[decide_eq_true h];rfl
theorem ki{i j:Int}(h:0<j)(h':j<10^200):cH (.int i) (.int j)=some (.int (i/j)):=by
 show(if decide (0<j/\j<10^200)then some (D.int (i/j))else none)=_;rw[decide_eq_true ⟨h,h'⟩];rfl
theorem oY{i j:Int}(h:-(2^64)<i)(h':i<2^64):lE (.int i) (.int j)=some (.int (i*j)):=by
 show(if decide ((-(2^64)<i/\i<2^64)\/(-(2^64)<j/\j<2^64))then some (D.int (i*j))else none)=_;rw[decide_eq_true (.inl ⟨h,h'⟩)];rfl
theorem mF{i j:Int}(h:-(2^64)<j)(h':j<2^64):lE (.int i) (.int j)=some (.int (i*j)):=by
 show(if decide ((-(2^64)<i/\i<2^64)\/(-(2^64)<j/\j<2^64))then some (D.int (i*j))else none)=_;rw[decide_eq_true (.inr ⟨h,h'⟩)];rfl
theorem uG(i:Int)(n:Nat)(h:n<=1000000)(h':i.natAbs<2^64):iK (.int i) (.int n)=some (.int (i^n)):=by
 show(if decide (0<=(n:Int)/\(n:Int)<=1000000/\i.natAbs<2^64)then some (D.int (i^(n:Int).toNat))else none)=_;rw[decide_eq_true ⟨by omega,by omega,h'⟩];rfl
theorem Cd:iK (.int 10) (.int 59)=some (.int (10^59)):=uG 10 59 (by decide) (by decide)
noncomputable def A3:Int:=10^59
noncomputable def OT:Int:=10^60
theorem Hz:1000000<A3/\A3*10=OT:=by decide +kernel
theorem xZ:iK (.int 10) (.int 59)=some (.int A3):=Cd
theorem jl(i j:Int):eS (.int i) (.int j)=some (.bl (i==j)):=by unfold eS pyEq;rfl
theorem ja(i j:Str):eS (.str i) (.str j)=some (.bl (i==j)):=by unfold eS pyEq;rfl
theorem iU(i j:Bool):eS (.bl i) (.bl j)=some (.bl (i==j)):=by unfold eS pyEq;rfl
theorem jb(i j:Int):rH (.int i) (.int j)=some (.bl (!(i==j))):=by unfold rH pyEq;rfl
theorem jg(i j:Str):rH (.str i) (.str j)=some (.bl (!(i==j))):=by unfold rH pyEq;rfl
theorem iT(i j:Bool):rH (.bl i) (.bl j)=some (.bl (!(i==j))):=by unfold rH pyEq;rfl
theorem HR{α:Type}(xs:List α)(n:Nat):lK xs (n:Int)=xs[n]?:=by
 unfold lK CP;rw[if_pos ‹0›];by_cases h:n<xs.length
 ·rw[if_pos ‹0›];rfl
 ·rw[if_neg ‹0›,RV ‹0›];rfl
theorem Aw{α:Type}(a:α)(xs:List α):lK (a::xs) 0=some a:=HR (a::xs) 0
theorem AI{α:Type}(a:α)(xs:List α)(n:Nat):lK (a::xs) ((n+1:Nat):Int)=lK xs (n:Int):=by
 rw[HR,HR,Rm]
theorem Kx(xs:List D)(i:Int):ah (.tup xs) (.int i)=lK xs i:=nr rfl
theorem HV(xs:List D)(i:Int):ah (.lst xs) (.int i)=lK xs i:=nr rfl
theorem mO(a:D)(xs:List D):ah (.tup (a::xs)) (.int 0)=some a:=Aw a xs
theorem sU(a b:D)(xs:List D):ah (.tup (a::b::xs)) (.int 1)=some b:=(AI a _ 0).trans (Aw b xs)
theorem si(a b c:D)(xs:List D):ah (.tup (a::b::c::xs)) (.int 2)=some c:=(AI a _ 1).trans ((AI b _ 0).trans (Aw c xs))
theorem rW(a:D)(xs:List D):ah (.lst (a::xs)) (.int 0)=some a:=Aw a xs
theorem sE(a b:D)(xs:List D):ah (.lst (a::b::xs)) (.int 1)=some b:=(AI a _ 0).trans (Aw b xs)
theorem rE(a b c:D)(xs:List D):ah (.lst (a::b::c::xs)) (.int 2)=some c:=(AI a _ 1).trans ((AI b _ 0).trans (Aw c xs))
theorem jk(xs:List D):dS [.lst xs]=some (.int xs.length):=nr rfl
theorem i5(xs:List D):dS [.tup xs]=some (.int xs.length):=nr rfl
theorem fO(xs:List D):aZ [.lst xs]=some (.tup xs):=nr rfl
theorem fH(xs:List D):aZ [.tup xs]=some (.tup xs):=nr rfl
theorem nV(b:Bool):N1 (.bl b)=some b:=nr rfl
theorem g9(i:Int):wK (.int i)=some (some i):=nr rfl
theorem fN(b:Bool):truth (.bl b)=some b:=nr rfl
theorem fV(xs:List D):truth (.tup xs)=some (!xs.isEmpty):=nr rfl
theorem fM(xs:List D):truth (.lst xs)=some (!xs.isEmpty):=nr rfl
theorem jG(i j:Int):lN [.int i,.int j]=some (.int (if j>i then j else i)):=nr rfl
theorem jC(i j:Int):je [.int i,.int j]=some (.int (if j<i then j else i)):=nr rfl
theorem vU(b:Bool):vc [.bl b]=some (.int (if b then 1 else 0)):=nr rfl
theorem fT(xs:List D):qJ (.lst xs)=some xs:=nr rfl
theorem fW(xs:List D):qJ (.tup xs)=some xs:=nr rfl
theorem iS(k:R D):xg (.bl true) k=k:=nr rfl
theorem i9(k:R D):xg (.bl false) k=.ok (.bl false):=nr rfl
theorem lg(k:R D):LD (.bl true) k=.ok (.bl true):=nr rfl
theorem kK(k:R D):LD (.bl false) k=k:=nr rfl
theorem jh(a b:Bool):xg (.bl a) (.ok (.bl b))=.ok (.bl (a&&b)):=by cases a<;>rfl
theorem lu(a b:Bool):LD (.bl a) (.ok (.bl b))=.ok (.bl (a||b)):=by cases a<;>rfl
theorem nF(b:Bool):yh (.bl b)=some (.bl (!b)):=nr rfl
theorem oh(xs:List D):Jc (.lst xs)=some (.lst xs.reverse):=nr rfl
theorem jm(n:Nat)(h:n<2^62):lx [.int n]=some (eR 0 n):=by
 show(if okR (n:Int)then some (eR 0 ((n:Int).toNat))else none)=_
 have:okR (n:Int)=true:=decide_eq_true ⟨by omega,by omega⟩
 rw[this];rfl
theorem DQ{xs:List D}(h:xs.length<=100000):jP xs=some (.lst xs):=by unfold jP;rw[cK h];rfl
theorem mP{α:Type}(f:α->D)(h:∀a,pl (f a)=true):∀xs:List α,lA (xs.map f)=true
 |[]=>rfl
 |x::xs=>by
  show(pl (f x)&&lA (xs.map f))=true;rw[h,mP f h xs];rfl
theorem EQ(f:Str->D)(hf:f=D.str)(w:Str)(ws:ax):inD (.str w) (ws.map f)=ws.any λy=>y==w:=by
 subst hf;unfold inD;rw[RO];congr 1
theorem pA(w:Str)(ws:ax):u6 (.str w) (.tup (ws.map .str))=some (.bl (ws.contains w)):=by
 show(if(pl (.str w)&&lA (ws.map .str))&&dU 8 (.str w)then some (D.bl (inD (.str w) (ws.map .str)))else none)=_;rw[EQ _ rfl,mP _ λ_=>rfl];show some (D.bl _)=_;congr 2
 induction ws with
 |nil=>rfl
 |cons x xs ih=>rw[Qs,Rt,ih,Bool.beq_comm]
theorem Gs(w:Str)(ws:ax):u6 (.str w) (.lst (ws.map .str))=some (.bl (ws.contains w)):=pA w ws
theorem qx(xs ys:List D)(h:xs.length+ys.length<=100000):aW (.lst xs) (.lst ys)=some (.lst (xs++ys)):=by
 show(if small (xs.length+ys.length)then some (D.lst (xs++ys))else none)=_;rw[cK h];rfl
theorem cw(xs ys:List D)(h:xs.length+ys.length<=100000):aW (.tup xs) (.tup ys)=some (.tup (xs++ys)):=by
 show(if small (xs.length+ys.length)then some (D.tup (xs++ys))else none)=_;rw[cK h];rfl
theorem kQ(xs:List D)(lo hi:dQ):qC (.lst xs) lo hi=some (.lst (cutD xs lo hi)):=nr rfl
theorem kO(xs:List D)(lo hi:dQ):qC (.tup xs) lo hi=some (.tup (cutD xs lo hi)):=nr rfl
theorem cj{ix:gH}{G:bE}{g:GF}{C:bT}{Fe:FX}{ρ:aq}{ds r:List D}(h1:G ρ=.ok ds)(h2:ds.length<=100000)(h3:yx (inB ix ρ) g C Fe ds=.ok r):dA ix G g C Fe ρ=.ok (.lst r):=by
 unfold dA;rw[h1,cJ,cK h2,h3];rfl
theorem iq{α:Type}{ρ:aq}{g:GF}{C:bT}{Fe:FX}(mk:α->D)(p:α->Bool)(v:α->D):∀xs:List α,(∀a∈xs,∃ρ1,g (mk a) ρ=some ρ1/\C ρ1=.ok (p a)/\Fe ρ1=.ok (v a))->
  yx ρ g C Fe (xs.map mk)=.ok ((xs.filter p).map v)
 |[],_=>rfl
 |a::xs,h=>by
  obtain⟨ρ1,h1,h2,h3⟩:=h a PJ;rw[P6,j8,h1,eA,cJ,h2,gQ,cJ,h3,gQ,cJ,iq mk p v xs λb hb=>h b (PL _ hb)];cases e:p a with
  |true=>rw[if_pos rfl,RH e];rfl
  |false=>rw[if_neg P4,RJ (by simp[e])]
theorem eP{α:Type}{ρ:aq}{g:GF}{C:bT}{Fe:FX}(mk:α->D)(v:α->D)(xs:List α)(h:∀a∈xs,∃ρ1,g (mk a) ρ=some ρ1/\C ρ1=.ok true/\Fe ρ1=.ok (v a)):yx ρ g C Fe (xs.map mk)=.ok (xs.map v):=by
 rw[iq mk (λ_=>true) v xs h,List.filter_eq_self.mpr λ_ _=>rfl]
theorem zc{g:GF}{B:bH}{k:Ks}(Iv:Nat->aq->Prop):∀(ds:List D)(i:Nat)(ρ:aq),(∀j d ρ (k':Ks),i<=j->ds[j-i]?=some d->Iv j ρ->∃ρ1 ρ2,g d ρ=some ρ1/\Iv (j+1) ρ2/\B k' ρ1=k'.nx ρ2)->Iv i ρ->∃ρ',Iv (i+ds.length) ρ'/\iu g B k ds ρ=k.nx ρ'
 |[],i,ρ,_,h=>⟨ρ,h,rfl⟩
 |d::ds,i,ρ,st,h=>by
  obtain⟨ρ1,ρ2,e1,h2,e2⟩:=st i d ρ ⟨iu g B k ds,k.nx,iu g B k ds,k.ex⟩ (PX _) (by rw[Rx];rfl) h;obtain⟨ρ',h3,e3⟩:=zc (g:=g) (B:=B) (k:=k) Iv ds (i+1) ρ2 (λj d' ρ k' hj hd=>st j d' ρ k' ‹0› (by rw[show j-i=(j-(i+1))+1 by omega,Rm];exact hd)) h2;refine⟨ρ',?_,?_⟩
  ·rw[P5]
   have:i+(ds.length+1)=i+1+ds.length:=(by omega);rw[this];exact h3
  ·show((rO (g d ρ)).bind λρ1=>B ⟨iu g B k ds,k.nx,iu g B k ds,k.ex⟩ ρ1)=_;rw[e1,eA,cJ,e2];exact e3
theorem cZ{g:GF}{B:bH}{k:Ks}{ds:List D}{ρ:aq}{Q:R D->Prop}(Iv:Nat->aq->Prop)(st:∀i d ρ (k':Ks),ds[i]?=some d->Iv i ρ->∃ρ1 ρ2,g d ρ=some ρ1/\Iv (i+1) ρ2/\B k' ρ1=k'.nx ρ2)(h:Iv 0 ρ)(q:∀ρ',Iv ds.length ρ'->Q (k.nx ρ')):Q (iu g B k ds ρ):=by
 obtain⟨ρ',h1,e⟩:=zc (k:=k) Iv ds 0 ρ (λj d ρ k' _ hd=>st j d ρ k' hd) h;rw[e];rw[Rq]at h1;exact q ρ' h1
theorem bW{α:Type}{xs:List α}{i:Nat}{a:α}(h:xs[i]?=some a):i<xs.length:=by
 rcases RU i xs.length with z|z
 ·exact z
 ·rw[RV z]at h;cases h
theorem pF{α β:Type}(f:α->β)(xs:List α)(i:Int):lK (xs.map f) i=(lK xs i).map f:=by
 unfold lK;rw[P7];cases CP xs.length i with
 |none=>rfl
 |some j=>simp
theorem p9{α:Type}{xs:List α}{k:Nat}(h:k<xs.length):lK xs (k:Int)=some xs[k]:=by
 unfold lK CP;rw[if_pos ‹0›,if_pos ‹0›];simp[h]
theorem mH{α:Type}{xs:List α}{i:Int}(h0:0<=i)(h:i<xs.length):lK xs i=some (xs[i.toNat]'‹0›):=by
 have e:i=((i.toNat:Nat):Int):=by omega
 conv=>lhs;rw[e]
 exact p9 ‹0›
noncomputable def G4:bH:=ai (fF (fB (f2 mE (ae 1) (fL dS (aa (ae 0) af)))) (aN (f2 ah (ae 0) (ae 1))) bC) (aN (fC (.int 0)))
theorem uf(ns:List Int)(k:Nat):aC G4 2 2 [.lst (ns.map .int),.int k]=.ok (.int (ns.getD k 0)):=by
 show(if decide ((k:Int)<((ns.map D.int).length:Int))then o7 (rO (lK (ns.map D.int) (k:Int))) _ _ .ok else .ok (.int 0))=_;rw[P7];by_cases h:k<ns.length
 ·rw[if_pos (by simpa using h),pF,p9 h,Option.map_some,RM,QO h];rfl
 ·rw[if_neg (by simpa using h),RM,RV ‹0›];rfl
theorem BZ(ns:List Int)(i:Int)(h:0<=i):∃c:Int,aC G4 2 2 [.lst (ns.map .int),.int i]=.ok (.int c):=by
 have e:i=((i.toNat:Nat):Int):=by omega
 exact⟨ns.getD i.toNat 0,by rw[e];exact uf ns i.toNat⟩
theorem yB(x y:Str):(x++y).length=x.length+y.length:=by
 show(x.cps++y.cps).size=_;rw[Array.size_append];rfl
theorem gz(x y:Str)(h:x.length<=1000)(h':y.length<=1000):aW (.str x) (.str y)=some (.str (x++y)):=by
 show(if small (x.length+y.length)then some (D.str (x++y))else none)=_;rw[cK ‹0›];rfl
theorem pG(x:Str)(h:x.length<=1000)(i:Int)(h0:0<=i)(h1:i<x.length):∃y:Str,y.length=1/\ah (.str x) (.int i)=some (.str y):=by
 have hl:x.cps.toList.length=x.length:=by simp[Str.length]
 have hi:i<x.cps.toList.length:=by omega
 refine⟨⟨#[x.cps.toList[i.toNat]'‹0›]⟩,rfl,?_⟩;show(if small x.length then(lK x.cps.toList i).bind λc=>some (D.str ⟨#[c]⟩)else none)=_;rw[cK ‹0›,if_pos rfl,mH h0 hi];rfl
theorem iP(lo:Int)(n:Nat):eR lo n=(List.range n).map λ(k:Nat)=>D.int (lo+(k:Int)):=nr rfl
theorem cC(lo:Int)(n:Nat):(eR lo n).length=n:=by unfold eR;rw[P7,QX]
theorem eZ{α:Type}(xs:List α)(m:Nat):cutD xs none (some (m:Int))=xs.take m:=by
 unfold cutD;rw[HT.KC,HT.Md,QJ,QZ];rcases RY m xs.length with h|h
 ·rw[RZ h]
 ·rw[R3 h,RW h,RW (PX _)]
theorem fh{α:Type}(xs:List α)(m:Nat):cutD xs (some (m:Int)) none=xs.drop m:=by
 unfold cutD;rw[HT.KC,HT.Md];rcases RY m xs.length with h|h
 ·rw[RZ h];exact RW (by rw[Ql];exact PX _)
 ·rw[R3 h,Rx,QG,R6 h]
theorem uK(ρ:aq):pL ρ=.ok (.dct [] []):=nr rfl
theorem mK(q:cX):fK (.tup (q.map bg))=some q:=bR q
theorem FC{i:Nat}{fk fv:FX}{k:Ks}{ρ:aq}{al:cx}{q:cX}{v:D}(h:ρ[i]?=some (some (.own (bS al))))(ek:fk ρ=.ok (.tup (q.map bg)))(ev:fv ρ=.ok v)(hl:al.length<=100000):rF i fk fv k ρ=k.nx (ρ.set i (some (.own (bS (gG al q v))))):=by
 have e:sI (encK al) (al.map (·.2)) (.tup (q.map bg)) v=some (gG al q v):=by
  unfold sI;rw[gx];show(fK (.tup (q.map bg))).bind _=_;rw[mK];show(if small al.length then _ else _)=_;rw[cK hl];rfl
 unfold rF;rw[h];show o7 ((fv ρ).bind λv=>(fk ρ).bind λq=>rO (sI (encK al) (al.map (·.2)) q v)) k ρ _=_;rw[ev,cJ,ek,cJ,e];rfl
theorem Bv{α:Type}(xs:List α)(a:α):cutD (xs++[a]) none (some (-1))=xs:=by
 unfold cutD;have e:HT.sIx (xs++[a]).length (xs++[a]).length (some (-1))=xs.length:=by
  show(if(-1:Int)<0 then((-1:Int)+((xs++[a]).length:Int)).toNat else min (-1:Int).toNat (xs++[a]).length)=_;rw[if_pos (by decide),Qj,Qo];omega
 rw[HT.KC,e,QJ,QZ,List.take_left]
theorem t6:∀{σ τ:bQ}{a b:List D},Sh σ a->Sh τ b->Sh (σ++τ) (a++b)
 |_,_,_,_,.nil,h=>h
 |_,_,_,_,.int i h,h'=>.int i (t6 h h')
 |_,_,_,_,.str i h,h'=>.str i (t6 h h')
local macro_rules
 |`(tactic| simp! only[$xs,*])=>`(tactic| simp only[cJ,tP,qB,sG,gQ,eA,ge_0,AZ,nT,zS,nz,kW,oa,nK,A6,A7,Au,zN,Az,nR,oj,tQ,iQ,kY,nN,kE,tL,nq,nG,kA,nS,jd,ou,iX,jc,hJ,hU,n9,kN,h7,kJ,iZ,lr,kG,gX,li,ji,lR,ly,jn,iA,kZ,kM,AX,sj,AC,zH,Ai,m9,kU,nu,lj,kX,Ab,zv,R7,R8,P6,Qq,QE,QT,K0,env0,List.replicate,Ry,Qa,Rq,Nat.reduceAdd,Nat.reduceSub,P5,Qv,mY,nJ,rV,nH,ot,nD,ic,n5,su,rS,tD,mX,jl,ja,iU,jb,jg,iT,mO,sU,si,rW,sE,rE,jk,i5,fO,fH,nV,g9,fN,fV,fM,jG,jC,fT,fW,iS,i9,lg,kK,jh,lu,nF,oh,kQ,kO,gN,if_true,if_false,R9,Sa,QB,$xs,*])
theorem Ej(a b c:D):qb [a,b,c]=some (.tup [a,b,c]):=nr rfl
theorem mV(a b:D):qb [a,b]=some (.tup [a,b]):=nr rfl
theorem Kf(a:D):qb [a]=some (.tup [a]):=nr rfl
theorem J4:qb []=some (.tup []):=nr rfl
theorem HI:jP []=some (.lst []):=nr rfl
noncomputable def Ed:bH:=aN (fL aZ (aa (dA [none] (aG (f2 aW (f2 ah (ae 0) (fC (.int 0))) (f2 ah (ae 0) (fC (.int 1))))) (gN 0) bF (f2 ah (ae 0) (fC (.int 1)))) af))
theorem kinds_ok(kf rf:List D)(ps:dZ)(hl:kf.length+rf.length<=100)(e:kf++rf=ps.map (λp=>.tup [.str p.1,p.2])):aC Ed 1 1 [.tup [.tup kf,.tup rf]]=.ok (.tup (ps.map (·.2))):=by
 have hl':ps.length<=100:=by have:=congrArg List.length e;rw[Qj,P7]at this;omega
 have f0:dA [none] (aG (f2 aW (f2 ah (ae 0) (fC (.int 0))) (f2 ah (ae 0) (fC (.int 1))))) (gN 0) bF (f2 ah (ae 0) (fC (.int 1))) [some (.val (.tup [.tup kf,.tup rf]))]=.ok (.lst (ps.map (·.2))):=by
  refine cj (ds:=ps.map (λp=>.tup [.str p.1,p.2])) ?_ (by rw[P7];omega) ?_
  ·simp! only[];rw[cw _ _ ‹0›,e];simp! only[]
  ·refine eP _ _ ps λp _=>⟨_,rfl,rfl,?_⟩
   simp! only[]
 rw[gI];unfold Ed;simp! only[f0]
noncomputable def xY(m:Nat)(rows:bB):Prop:=rows.Pairwise λr s=>cV (r.take m) (s.take m)=some true
inductive F2{α β:Type}(R:α->β->Prop):List α->List β->Prop where
 |nil:F2 R [] []
 |cons {a:α} {b:β} {as:List α} {bs:List β} (h:R a b) (t:F2 R as bs):F2 R (a::as) (b::bs)
theorem BH{ρ:aq}{g:GF}{C:bT}{Fe:FX}:∀(ds:List D)(P:Nat->D->Prop),(∀i d,ds[i]?=some d->∃ρ1 v,g d ρ=some ρ1/\C ρ1=.ok true/\Fe ρ1=.ok v/\P i v)->∃vs:List D,vs.length=ds.length/\(∀i v,vs[i]?=some v->P i v)/\yx ρ g C Fe ds=.ok vs
 |[],_,_=>⟨[],rfl,(λ_ _ h=>nomatch h),rfl⟩
 |d::ds,P,h=>by
  obtain⟨ρ1,w,h1,h2,h3,h4⟩:=h 0 d rfl;obtain⟨ws,e1,e2,e3⟩:=BH (ρ:=ρ) (g:=g) (C:=C) (Fe:=Fe) ds (λi v=>P (i+1) v) λi d' hd=>h (i+1) d' (by rw[Rm];exact hd);refine⟨w::ws,by rw[P5,P5,e1],λi v hv=>?_,?_⟩
  ·cases i with
   |zero=>cases hv;exact h4
   |succ i=>rw[Rm]at hv;exact e2 i v hv
  ·rw[j8,h1,eA,cJ,h2,gQ,cJ,h3,gQ,cJ,e3];rfl
theorem uJ:∀{σ:bQ}{a b:List D},Sh σ a->Sh σ b->(eI a b=true↔a=b)
 |_,_,_,.nil,.nil=>by unfold eI;simp
 |_,_,_,.int i h,.int j h'=>by
  unfold eI pyEq;rw[Qm,uJ h h'];simp
 |_,_,_,.str i h,.str j h'=>by
  unfold eI pyEq;rw[Qm,uJ h h'];simp
theorem yK:∀{σ:bQ}{a:List D},Sh σ a->lA a=true
 |_,_,.nil=>rfl
 |_,_,.int i h=>by
  show(pl (.int i)&&lA _)=true;rw[yK h];rfl
 |_,_,.str i h=>by
  show(pl (.str i)&&lA _)=true;rw[yK h];rfl
theorem xM:∀{σ:bQ}{a:List D}(n:Nat),Sh σ a->a.all (dU (n+1))=true
 |_,_,_,.nil=>rfl
 |_,_,n,.int i h=>by rw[QL,xM n h];rfl
 |_,_,n,.str i h=>by rw[QL,xM n h];rfl
end TG
namespace TD
open PySem PySem.Spec L2 TG TX
noncomputable def cy:bH:=ai (fF (fB (f2 mE (ae 1) (fL dS (aa (ae 0) af)))) (aN (f2 ah (ae 0) (ae 1))) bC) (aN (fC (.int 0)))
noncomputable def fY:bH:=aN (fL aZ (aa (dA [none] (aG (f2 aW (f2 ah (ae 0) (fC (.int 0))) (f2 ah (ae 0) (fC (.int 1))))) (gN 0) bF (f2 ah (ae 0) (fC (.int 0)))) af))
noncomputable def dI:bH:=aN (fL aZ (aa (dA [none] (aG (f2 aW (f2 ah (ae 0) (fC (.int 0))) (f2 ah (ae 0) (fC (.int 1))))) (gN 0) bF (f2 ah (ae 0) (fC (.int 1)))) af))
noncomputable def bc:bH:=aN (f2 bP (f2 aW (f2 aW (f2 lE (ae 0) (ae 0)) (f2 lE (fC (.int 48271)) (ae 0))) (fC (.int 11))) (fC (.int 2147483647)))
noncomputable def cz:bH:=ai (aM 2 (f2 bP (f2 aW (f2 aW (f2 bP (fR (aC cy 2 2) (aa (ae 0) (aa (ae 1) af))) (fC (.int 2147483647))) (f2 lE (f2 lE (fC (.int 69621)) (ae 1)) (ae 1))) (fC (.int 5))) (fC (.int 2147483647)))) (aN (fR (aC bc 1 1) (aa (fR (aC bc 1 1) (aa (ae 2) af)) af)))
noncomputable def bL:bH:=ai (aM 2 (fC (.str "abcdefghijklmnopqrstuvwxyz"))) (ai (aM 1 (f2 bP (f2 aW (f2 lE (ae 1) (f2 ah (eV (aa (fC (.int 1)) (aa (fC (.int 5)) (aa (fC (.int 7)) (aa (fC (.int 11)) (aa (fC (.int 13)) (aa (fC (.int 23)) af))))))) (f2 bP (ae 0) (fC (.int 6))))) (f2 cH (ae 0) (fC (.int 6)))) (fC (.int 24)))) (ai (aM 0 (f2 cH (ae 0) (fC (.int 144)))) (ai (fF (fB (f2 eS (f2 bP (ae 0) (fC (.int 3))) (fC (.int 0)))) (aN (f2 oK (f2 ah (ae 2) (f2 bP (f2 aW (f2 cH (ae 0) (fC (.int 3))) (f2 cH (ae 1) (fC (.int 8)))) (fC (.int 26)))) (f2 aW (fC (.int 1)) (f2 bP (ae 1) (fC (.int 8)))))) bC) (ai (aM 3 (f2 aW (fC (.int 1)) (f2 bP (f2 cH (ae 0) (fC (.int 3))) (fC (.int 8))))) (ai (aM 4 (fC (.str ""))) (ai (iE (eX (aa (ae 3) af)) (gN 5) (ai (aM 6 (f2 cH (ae 0) (f2 aW (fC (.int 24)) (f2 lE (f2 lE (fC (.int 11)) (ae 5)) (ae 5))))) (ai (fF (fB (f2 eS (ae 5) (f2 bP (f2 cH (ae 0) (fC (.int 24))) (ae 3)))) (aM 6 (f2 aW (ae 6) (ae 1))) bC) (ai (aM 4 (f2 aW (ae 4) (f2 ah (ae 2) (f2 bP (ae 6) (fC (.int 26)))))) (dC [5,6] bC))))) (aN (ae 4))))))))
noncomputable def dG:bH:=ai (fF (fB (f2 mE (f2 bP (ae 0) (fC (.int 3))) (fC (.int 2)))) (ai (aM 1 (f2 ah (eV (aa (fC (.int 0)) (aa (lD (fC (.int 3))) (aa (f2 uc (fC (.int 0)) (f2 bP (f2 iK (ae 0) (fC (.int 7))) (f2 iK (fC (.int 10)) (fC (.int 59))))) (aa (f2 bP (f2 iK (ae 0) (fC (.int 7))) (f2 iK (fC (.int 10)) (fC (.int 59)))) af))))) (f2 bP (f2 cH (ae 0) (fC (.int 3))) (fC (.int 4))))) (aN (aL (aa (fC (.str "number")) (aa (ae 1) (aa (f2 aW (ae 1) (f2 ah (eV (aa (fC (.int 0)) (aa (fC (.int 1)) (aa (fC (.int 6)) (aa (f2 iK (fC (.int 10)) (fC (.int 59))) af))))) (f2 bP (f2 cH (ae 0) (fC (.int 12))) (fC (.int 4))))) af)))))) bC) (ai (aM 2 (fC (.str "abcdefghijklmnopqrstuvwxyz"))) (ai (aM 3 (f2 ah (ae 2) (f2 bP (f2 cH (ae 0) (fC (.int 3))) (fC (.int 26))))) (ai (aM 4 (f2 ah (ae 2) (f2 bP (f2 cH (ae 0) (fC (.int 78))) (fC (.int 26))))) (ai (aM 5 (eV (aa (fC (.str "")) (aa (ae 3) (aa (ae 4) (aa (f2 aW (ae 3) (ae 4)) (aa (f2 aW (ae 4) (ae 3)) (aa (f2 oK (ae 3) (fC (.int 8))) (aa (f2 aW (ae 3) (ae 3)) (aa (f2 oK (ae 4) (fC (.int 3))) af)))))))))) (ai (iY 6 pL) (dC [1,2,4] (ai (iE (eX (aa (fC (.int 8)) af)) (gN 7) (ai (fF (fB (f2 eS (f2 oQ (f2 u9 (f2 cH (ae 0) (fC (.int 2028))) (ae 7)) (fC (.int 1))) (fC (.int 1)))) (lL 6 (f2 ah (ae 5) (ae 7)) (fC (.bl true))) bC) (dC [7] bC))) (ai (fF (ky [6] (fB (f2 eS (fL qA (aa (ae 6) af)) (fC (.int 0))))) (lL 6 (ae 3) (fC (.bl true))) bC) (fA 6 (aN (aL (aa (fC (.str "word")) (aa (fL aZ (aa (fL eB (aa (fL jt (aa (ae 6) af)) af)) af)) af)))))))))))))
open PySem PySem.Spec L2 TG
local macro_rules
 |`(tactic| simp! only[$xs,*])=>`(tactic| simp only[cJ,tP,qB,sG,gQ,eA,ge_0,AZ,nT,zS,nz,kW,oa,nK,A6,A7,Au,zN,Az,nR,oj,tQ,iQ,kY,nN,kE,tL,nq,nG,kA,nS,jd,ou,iX,jc,hJ,hU,n9,kN,h7,kJ,iZ,lr,kG,gX,li,ji,lR,ly,jn,iA,kZ,kM,AX,sj,AC,zH,Ai,m9,kU,nu,lj,kX,Ab,zv,R7,R8,P6,Qq,QE,QT,K0,env0,List.replicate,Ry,Qa,Rq,Nat.reduceAdd,Nat.reduceSub,P5,Qv,mY,nJ,rV,nH,ot,nD,ic,n5,su,rS,tD,mX,jl,ja,iU,jb,jg,iT,mO,sU,si,rW,sE,rE,jk,i5,fO,fH,nV,g9,fN,fV,fM,jG,jC,fT,fW,iS,i9,lg,kK,jh,lu,nF,oh,kQ,kO,gN,if_true,if_false,R9,Sa,QB,$xs,*])
theorem LZ(ns:List Int)(i:Int)(h:0<=i):∃c:Int,aC cy 2 2 [.lst (ns.map .int),.int i]=.ok (.int c):=BZ ns i h
theorem yV:∀bs:bQ,allB (bs.map .bl)=some (bs.all id)
 |[]=>rfl
 |b::bs=>by
  show(allB (bs.map .bl)).bind (λc=>some (b&&c))=_;rw[yV bs];rfl
theorem nI(xs ys:List D):rk [.tup xs,.tup ys]=some (gR xs ys):=nr rfl
local macro_rules
 |`(tactic| simp! only[$xs,*])=>`(tactic| simp only[cJ,tP,qB,sG,gQ,eA,ge_0,AZ,nT,zS,nz,kW,oa,nK,A6,A7,Au,zN,Az,nR,oj,tQ,iQ,kY,nN,kE,tL,nq,nG,kA,nS,jd,ou,iX,jc,hJ,hU,n9,kN,h7,kJ,iZ,lr,kG,gX,li,ji,lR,ly,jn,iA,kZ,kM,AX,sj,AC,zH,Ai,m9,kU,nu,lj,kX,Ab,zv,R7,R8,P6,Qq,QE,QT,K0,env0,List.replicate,Ry,Qa,Rq,Nat.reduceAdd,Nat.reduceSub,P5,Qv,mY,nJ,rV,nH,ot,nD,ic,n5,su,rS,tD,mX,jl,ja,iU,jb,jg,iT,mO,sU,si,rW,sE,rE,jk,i5,fO,fH,nV,g9,fN,fV,fM,jG,jC,fT,fW,iS,i9,lg,kK,jh,lu,nF,oh,kQ,kO,gN,if_true,if_false,R9,Sa,QB,$xs,*])
noncomputable abbrev fld(p:Str×D):D:=.tup [.str p.1,p.2]
theorem yk(kf rf:List D)(ps:dZ)(hl:ps.length<=100)(e:kf++rf=ps.map fld):aC fY 1 1 [.tup [.tup kf,.tup rf]]=.ok (.tup (ps.map λp=>.str p.1)):=by
 have hl':kf.length+rf.length<=100:=by have:=congrArg List.length e;rw[Qj,P7]at this;omega
 have f0:dA [none] (aG (f2 aW (f2 ah (ae 0) (fC (.int 0))) (f2 ah (ae 0) (fC (.int 1))))) (gN 0) bF (f2 ah (ae 0) (fC (.int 0))) [some (.val (.tup [.tup kf,.tup rf]))]=.ok (.lst (ps.map λp=>.str p.1)):=by
  refine cj (ds:=ps.map fld) ?_ (by rw[P7];omega) ?_
  ·simp! only[];rw[cw _ _ ‹0›,e];simp! only[]
  ·refine eP _ _ ps λp _=>⟨_,rfl,rfl,?_⟩
   simp! only[]
 rw[gI];unfold fY;simp! only[f0]
end TD
namespace T4
open PySem PySem.Spec L2 TG TD
local macro_rules
 |`(tactic| simp! only[$xs,*])=>`(tactic| simp only[cJ,tP,qB,sG,gQ,eA,ge_0,AZ,nT,zS,nz,kW,oa,nK,A6,A7,Au,zN,Az,nR,oj,tQ,iQ,kY,nN,kE,tL,nq,nG,kA,nS,jd,ou,iX,jc,hJ,hU,n9,kN,h7,kJ,iZ,lr,kG,gX,li,ji,lR,ly,jn,iA,kZ,kM,AX,sj,AC,zH,Ai,m9,kU,nu,lj,kX,Ab,zv,R7,R8,P6,Qq,QE,QT,K0,env0,List.replicate,Ry,Qa,Rq,Nat.reduceAdd,Nat.reduceSub,P5,Qv,mY,nJ,rV,nH,ot,nD,ic,n5,su,rS,tD,mX,jl,ja,iU,jb,jg,iT,mO,sU,si,rW,sE,rE,jk,i5,fO,fH,nV,g9,fN,fV,fM,jG,jC,fT,fW,iS,i9,lg,kK,jh,lu,nF,oh,kQ,kO,gN,if_true,if_false,R9,Sa,QB,$xs,*])
theorem BA{x:Str}{n:Int}(h:1<=n)(h':n<=1000)(hx:x.length<=1000):oK (.str x) (.int n)=some (.str (iN x n)):=by
 show(if decide (1<=n/\n<=1000/\x.length<=1000)then some (D.str (iN x n))else none)=_;rw[decide_eq_true ⟨h,h',hx⟩];rfl
theorem eU(x:Int)(h0:0<=x)(h1:x<2147483700):∃y:Int,0<=y/\y<2147483647/\aC bc 1 1 [.int x]=.ok (.int y):=by
 have m1:=oY (i:=x) (j:=x) ‹0› ‹0›;have m2:=oY (i:=48271) (j:=x) (by decide) (by decide);have g:=λi=>d9 (i:=i) (show(0:Int)<2147483647 by decide);refine⟨(x*x+48271*x+11)%2147483647,Sb _ (by decide),Sd _ (by decide),?_⟩;rw[gI];unfold bc;simp! only[m1,m2,g]
theorem o8(ns:List Int)(k:Nat)(hk:k<=100):∃y:Int,0<=y/\y<2147483647/\aC cz 2 3 [.lst (ns.map .int),.int k]=.ok (.int y):=by
 obtain⟨c,ec⟩:=TD.LZ ns k ‹0›;have m1:=oY (i:=69621) (j:=(k:Int)) (by decide) (by decide);have m2:=mF (i:=69621*(k:Int)) (j:=(k:Int)) ‹0› ‹0›;have g:=λi=>d9 (i:=i) (show(0:Int)<2147483647 by decide);obtain⟨y1,a1,b1,e1⟩:=eU ((c%2147483647+69621*(k:Int)*(k:Int)+5)%2147483647) (Sb _ (by decide)) (by have:=Sd (c%2147483647+69621*(k:Int)*(k:Int)+5) (show(0:Int)<2147483647 by decide);omega);obtain⟨y2,a2,b2,e2⟩:=eU y1 a1 ‹0›;refine⟨y2,a2,b2,?_⟩;rw[cE];unfold cz;simp! only[ec,g,m1,m2,e1,e2]
theorem uj{i:Nat}{fk fv:FX}{k:Ks}{ρ:aq}{al:List (Key×D)}{q:Key}{d v:D}(h:ρ[i]?=some (some (.own (vw al))))(ek:fk ρ=.ok d)(hd:d=bg q)(ev:fv ρ=.ok v)(hl:al.length<=1000):
  lL i fk fv k ρ=k.nx (ρ.set i (some (.own (vw (oW al q v))))):=by
 subst hd;have e:rQ (gC al) (al.map (·.2)) (bg q) v=some (oW al q v):=by
  unfold rQ;rw[sg];show(keyOf (bg q)).bind _=_;rw[js];show(if small al.length then _ else _)=_;rw[cK ‹0›];rfl
 unfold lL;rw[h];show o7 ((fv ρ).bind λv=>(fk ρ).bind λq=>rO (rQ (gC al) (al.map (·.2)) q v)) k ρ _=_;rw[ev,cJ,ek,cJ,e];rfl
noncomputable abbrev zm(ws:ax):List (Key×D):=ws.map λw=>((.inr w:Key),D.bl true)
noncomputable abbrev wd(ws:ax):D:=vw (zm ws)
noncomputable def nZ(ws:ax)(w:Str):ax:=if w∈ws then ws else ws++[w]
theorem w8(ws:ax)(w:Str):oW (zm ws) (.inr w) (.bl true)=zm (nZ ws w):=by
 have e:((zm ws).any λp=>decide (p.1=(.inr w:Key)))=decide (w∈ws):=by
  induction ws with
  |nil=>simp
  |cons a ws ih=>
   show(decide ((.inr a:Key)=.inr w)||(zm ws).any λp=>decide (p.1=(.inr w:Key)))=_;rw[ih];by_cases z:a=w
   ·subst z;simp
   ·have z':¬(.inr a:Key)=.inr w:=λq=>z (Sum.inr.inj q);have z2:¬w=a:=λq=>z q.symm;simp[z',z2]
 unfold oW nZ;rw[e];by_cases h:w∈ws
 ·rw[if_pos (by simpa using h),if_pos h];show(ws.map _).map _=_;rw[RN];refine QU λa _=>?_;show(if(.inr a:Key)=.inr w then((.inr a:Key),D.bl true)else((.inr a:Key),D.bl true))=_;split<;>rfl
 ·rw[if_neg (by simpa using h),if_neg h];show _=(ws++[w]).map _;rw[QV];rfl
theorem tZ{ws:ax}(w:Str)(h:ws.Nodup):(nZ ws w).Nodup:=by
 unfold nZ;split
 ·exact h
 ·rename_i z;exact List.nodup_append.mpr ⟨h,List.nodup_cons.mpr ⟨by simp,Qy⟩,λa ha b hb e=>by
   rw[RX]at hb;subst hb e;exact z ha⟩
theorem p3(ws:ax)(w:Str):(nZ ws w).length<=ws.length+1:=by
 unfold nZ;split
 ·omega
 ·simp
theorem HE(ws:ax):gC (zm ws)=ws.map D.str:=by
 show(ws.map _).map _=_;rw[RN];rfl
theorem CB(ws:ax):keysOf (gC (zm ws))=some (ws.map .inr):=by
 rw[show gC (zm ws)=(ws.map (.inr:Str->Key)).map bg from by rw[HE,RN];rfl];exact bR _
theorem E9(ws:ax):qA [wd ws]=some (.int ws.length):=by
 show(keysOf (gC (zm ws))).bind _=_;rw[CB];show some (D.int ((ws.map _).length:Int))=_;rw[P7]
theorem vD(ws:ax):jt [wd ws]=some (.lst (ws.map .str)):=by
 show(keysOf (gC (zm ws))).bind _=_;rw[CB];show some (D.lst (gC (zm ws)))=_;rw[HE]
theorem qR(is:List Nat)(f:bT)(ρ:aq):ky is f ρ=xj (f (frzs is ρ)):=nr rfl
theorem Jx(i:Nat)(ρ:aq):frzs [i] ρ=frz i ρ:=nr rfl
theorem C5(i:Int)(k:Nat):u9 (.int i) (.int k)=some (.int (i/2^k)):=by
 show(if decide (0<=(k:Int))then some (D.int (i/2^(k:Int).toNat))else none)=_;rw[decide_eq_true ‹0›];rfl
theorem uA(i j:Int):oQ (.int i) (.int j)=some (.int (Builtin.bitAnd i j)):=nr rfl
theorem KP(a b c d:D):jP [a,b,c,d]=some (.lst [a,b,c,d]):=nr rfl
theorem N2(a b c d e f g h:D):jP [a,b,c,d,e,f,g,h]=some (.lst [a,b,c,d,e,f,g,h]):=nr rfl
theorem OM(a b c d:D)(i:Int)(h0:0<=i)(h1:i<4):∃x∈[a,b,c,d],ah (.lst [a,b,c,d]) (.int i)=some x:=by
 rcases(show i=0\/i=1\/i=2\/i=3 by omega)with z|z|z|z<;>subst z
 ·exact⟨a,by simp,rfl⟩
 ·exact⟨b,by simp,rfl⟩
 ·exact⟨c,by simp,rfl⟩
 ·exact⟨d,by simp,rfl⟩
theorem HG:(("number":Str)==("rows":Str))=false:=by decide +kernel
theorem Gh:(("word":Str)==("rows":Str))=false:=by decide +kernel
theorem JF(B:bH)(n:Nat)(a b c d e f:D):aC B 6 n [a,b,c,d,e,f]=B K0 (env0 n [a,b,c,d,e,f]):=nr rfl
noncomputable abbrev fm(ps qs:dZ):D:=.tup [.tup (ps.map fld),.tup (qs.map fld)]
theorem o3{α:Type}{ρ:aq}{g:GF}{C:bT}{Fe:FX}(mk:α->D)(p:α->Bool)(v:α->D):∀xs:List α,(∀a∈xs,∃ρ1,g (mk a) ρ=some ρ1/\C ρ1=.ok (p a)/\(p a=true->Fe ρ1=.ok (v a)))->
  yx ρ g C Fe (xs.map mk)=.ok ((xs.filter p).map v)
 |[],_=>rfl
 |a::xs,h=>by
  obtain⟨ρ1,h1,h2,h3⟩:=h a PJ;rw[P6,j8,h1,eA,cJ,h2,gQ,cJ,o3 mk p v xs λb hb=>h b (PL _ hb)];cases e:p a with
  |true=>rw[if_pos rfl,h3 e,gQ,cJ,RH e];rfl
  |false=>rw[if_neg P4,RJ (by simp[e])]
noncomputable def mx(a b:Int):Int:=if b>a then b else a
theorem vA(vs:List Int)(hp:∀v∈vs,0<v):∀j,j+1<=vs.length->tU (λk=>vs.getD k 0) (j+1)=(vs.take (j+1)).foldl mx 0
 |0,h=>by
  cases vs with
  |nil=>simp at h
  |cons v vs=>
   have:=hp v PJ
   show v=mx 0 v;unfold mx;rw[if_pos this]
 |j+1,h=>by
  have ih:=vA vs hp j ‹0›;have e:vs.take (j+2)=vs.take (j+1)++[vs.getD (j+1) 0]:=by
   rw[QW,QO ‹0›,RM,QO ‹0›];rfl
  rw[e,Se,<-ih];show(if _ then _ else _)=mx _ _;rfl
theorem BI(vs:List Int)(hp:∀v∈vs,0<v):(if vs.length=0 then 0 else tU (λk=>vs.getD k 0) vs.length)=vs.foldl mx 0:=by
 cases vs with
 |nil=>rfl
 |cons v vs=>
  rw[if_neg (by simp)]
  have:=vA (v::vs) hp vs.length (by simp)
  rw[show(v::vs).length=vs.length+1 from rfl,this,RW (by simp)]
theorem BD(ps qs:dZ)(h1:ps.length<=8)(h2:qs.length<=8):aC dI 1 1 [fm ps qs]=.ok (.tup ((ps++qs).map (·.2))):=
 kinds_ok _ _ (ps++qs) (by simp;omega) (by rw[QV])
local macro_rules
 |`(tactic| simp! only[$xs,*])=>`(tactic| simp only[cJ,tP,qB,sG,gQ,eA,ge_0,AZ,nT,zS,nz,kW,oa,nK,A6,A7,Au,zN,Az,nR,oj,tQ,iQ,kY,nN,kE,tL,nq,nG,kA,nS,jd,ou,iX,jc,hJ,hU,n9,kN,h7,kJ,iZ,lr,kG,gX,li,ji,lR,ly,jn,iA,kZ,kM,AX,sj,AC,zH,Ai,m9,kU,nu,lj,kX,Ab,zv,R7,R8,P6,Qq,QE,QT,K0,env0,List.replicate,Ry,Qa,Rq,Nat.reduceAdd,Nat.reduceSub,P5,Qv,mY,nJ,rV,nH,ot,nD,ic,n5,su,rS,tD,mX,jl,ja,iU,jb,jg,iT,mO,sU,si,rW,sE,rE,jk,i5,fO,fH,nV,g9,fN,fV,fM,jG,jC,fT,fW,iS,i9,lg,kK,jh,lu,nF,oh,kQ,kO,gN,if_true,if_false,R9,Sa,QB,$xs,*])
noncomputable def LT:List Nat:=("abcdefghijklmnopqrstuvwxyz":Str).cps.toList
theorem BV:∀a<26,∀b<26,LT[a]?=LT[b]?->a=b:=by decide +kernel
noncomputable def stp(b:Int):Int:=([1,5,7,11,13,23]:List Int).getD (b%6).toNat 0
noncomputable def kk(b k:Int):Int:=(k*stp b+b/6)%24
noncomputable def jz(b:Int):Int:=b/144/24%(1+b/144/3%8)
noncomputable def vy(b k:Int)(w:Str):Prop:=
 (b/144%3=0->w.length=(1+kk b k%8).toNat/\w.cps.toList[0]?=LT[((b/144/3+kk b k/8)%26).toNat]?)/\
 (b/144%3≠0->w.cps.toList[(jz b).toNat]?=LT[((b/144/(24+11*jz b*jz b)+kk b k)%26).toNat]?)
theorem LC(b k:Int):0<=kk b k/\kk b k<24:=⟨Sb _ (by decide),Sd _ (by decide)⟩
theorem Iw{b k1 k2:Int}(a1:0<=k1)(a2:k1<24)(b1:0<=k2)(b2:k2<24)(h:kk b k1=kk b k2):k1=k2:=by
 unfold kk stp at h;rcases(show b%6=0\/b%6=1\/b%6=2\/b%6=3\/b%6=4\/b%6=5 by omega)with z|z|z|z|z|z<;>rw[z]at h<;>simp at h<;>omega
theorem ER{b k1 k2:Int}{w:Str}(a1:0<=k1)(a2:k1<24)(b1:0<=k2)(b2:k2<24)(h1:vy b k1 w)(h2:vy b k2 w):k1=k2:=by
 refine Iw (b:=b) a1 a2 b1 b2 ?_;have q1:=LC b k1;have q2:=LC b k2;by_cases z:b/144%3=0
 ·obtain⟨l1,e1⟩:=h1.1 z;obtain⟨l2,e2⟩:=h2.1 z
  have:=BV _ ‹0› _ ‹0› (e1.symm.trans e2)
  omega
 ·have:=BV _ ‹0› _ ‹0› ((h1.2 z).symm.trans (h2.2 z))
  omega
theorem xD(x:Str)(h:x.length<=1000)(i:Int)(h0:0<=i)(h1:i<x.length):∃y:Str,y.length=1/\y.cps.toList[0]?=x.cps.toList[i.toNat]?/\ah (.str x) (.int i)=some (.str y):=by
 have hl:x.cps.toList.length=x.length:=by simp[Str.length]
 have hi:i<x.cps.toList.length:=by omega
 have hn:i.toNat<x.cps.toList.length:=by omega
 refine⟨⟨#[x.cps.toList[i.toNat]'hn]⟩,rfl,?_,?_⟩
 ·rw[QO hn];rfl
 ·show(if small x.length then(lK x.cps.toList i).bind λc=>some (D.str ⟨#[c]⟩)else none)=_;rw[cK ‹0›,if_pos rfl,mH h0 hi];rfl
theorem sK(c:Array Nat)(hc:0<c.size):∀(n:Nat)(a:Array Nat),((List.replicate n c).foldl (·++·) a).toList[0]?=if a.size=0 then(if n=0 then none else c.toList[0]?)else a.toList[0]?
 |0,a=>by
  rw[Ry,List.foldl_nil];split
  ·rename_i h;simp[h]
  ·rfl
 |n+1,a=>by
  rw[RA,RB,sK c hc n (a++c)]
  have:¬(a++c).size=0:=by rw[Array.size_append];omega
  rw[if_neg this,Array.toList_append];by_cases h:a.size=0
  ·rw[if_pos h,if_neg ‹0›,Qe (by simp[h])];simp[h]
  ·rw[if_neg h,Qg (by simp;omega)]
theorem DX{y:Str}{n:Int}(h:1<=n)(hy:y.length=1):(iN y n).cps.toList[0]?=y.cps.toList[0]?:=by
 unfold iN;split
 ·rfl
 ·have hc:0<y.cps.size:=by have:y.cps.size=1:=hy;omega
  rw[sK y.cps hc n.toNat #[]];split
  ·rw[if_neg ‹0›]
  ·rename_i z;exact absurd rfl z
theorem yT(x y:Str):(x++y).cps.toList=x.cps.toList++y.cps.toList:=by
 show(x.cps++y.cps).toList=_;rw[Array.toList_append]
theorem uh(x:Str):x.cps.toList.length=x.length:=by simp[Str.length]
theorem pH(b k:Int)(hb:0<=b)(hk:0<=k):∃w:Str,aC bL 2 7 [.int b,.int k]=.ok (.str w)/\vy b k w:=by
 have LL:(("abcdefghijklmnopqrstuvwxyz":Str)).length=26:=by decide +kernel
 have hLT:LT=("abcdefghijklmnopqrstuvwxyz":Str).cps.toList:=rfl;generalize hL:("abcdefghijklmnopqrstuvwxyz":Str)=L at LL hLT;have g3:=λi=>d9 (i:=i) (show(0:Int)<3 by decide);have g6:=λi=>d9 (i:=i) (show(0:Int)<6 by decide);have g8:=λi=>d9 (i:=i) (show(0:Int)<8 by decide);have g24:=λi=>d9 (i:=i) (show(0:Int)<24 by decide);have g26:=λi=>d9 (i:=i) (show(0:Int)<26 by decide);have d3:=λi=>ki (i:=i) (show(0:Int)<3 by decide) (show(3:Int)<10^200 by decide);have d6:=λi=>ki (i:=i) (show(0:Int)<6 by decide) (show(6:Int)<10^200 by decide);have d8:=λi=>ki (i:=i) (show(0:Int)<8 by decide) (show(8:Int)<10^200 by decide);have d24:=λi=>ki (i:=i) (show(0:Int)<24 by decide) (show(24:Int)<10^200 by decide);have d144:=λi=>ki (i:=i) (show(0:Int)<144 by decide) (show(144:Int)<10^200 by decide);obtain⟨st,hst,hstp,est⟩:∃st:Int,(0<=st/\st<=25)/\stp b=st/\ah (.lst [.int 1,.int 5,.int 7,.int 11,.int 13,.int 23]) (.int (b%6))=some (.int st):=by
  rcases(show b%6=0\/b%6=1\/b%6=2\/b%6=3\/b%6=4\/b%6=5 by omega)with z|z|z|z|z|z<;>rw[z]
  ·exact⟨1,by decide,by unfold stp;rw[z];rfl,rfl⟩
  ·exact⟨5,by decide,by unfold stp;rw[z];rfl,rfl⟩
  ·exact⟨7,by decide,by unfold stp;rw[z];rfl,rfl⟩
  ·exact⟨11,by decide,by unfold stp;rw[z];rfl,rfl⟩
  ·exact⟨13,by decide,by unfold stp;rw[z];rfl,rfl⟩
  ·exact⟨23,by decide,by unfold stp;rw[z];rfl,rfl⟩
 have l6:∀a b c d e f:D,jP [a,b,c,d,e,f]=some (.lst [a,b,c,d,e,f]):=λ_ _ _ _ _ _=>rfl;have ms:=mF (i:=k) (j:=st) ‹0› ‹0›;have hkk:kk b k=(k*st+b/6)%24:=by unfold kk;rw[hstp]
 generalize hk':(k*st+b/6)%24=k' at hkk;have k1:0<=k'/\k'<24:=by omega
 have hP:∀w,vy b k w=((b/144%3=0->w.length=(1+kk b k%8).toNat/\w.cps.toList[0]?=LT[((b/144/3+kk b k/8)%26).toNat]?)/\(b/144%3≠0->w.cps.toList[(jz b).toNat]?=LT[((b/144/(24+11*jz b*jz b)+kk b k)%26).toNat]?)):=λ_=>rfl;have hj:jz b=b/144/24%(1+b/144/3%8):=rfl;generalize hb':b/144=b' at hP hj;generalize jz b=j0 at hP hj;rw[hkk]at hP;simp only[hP];have b0:0<=b':=by omega
 rw[cE];unfold bL;by_cases h:b'%3=0
 ·have h':(b'%3==0)=true:=by simp[h]
  obtain⟨y,hy,hy0,e1⟩:=xD L ‹0› ((b'/3+k'/8)%26) ‹0› ‹0›;have mu:=BA (x:=y) (n:=1+k'%8) ‹0› ‹0› ‹0›;refine⟨iN y (1+k'%8),?_,λ_=>⟨by rw[vO ‹0›,hy,Nat.mul_one],by rw[DX ‹0› hy,hy0,hLT]⟩,λz=>absurd h z⟩;simp! only[hL,g6,l6,est,ms,d6,g24,hk',d144,hb',g3,h',d3,d8,g26,e1,g8,mu]
 ·have h':(b'%3==0)=false:=by simp[h]
  obtain⟨n,hn,hn1,hn2⟩:∃n:Nat,1+b'/3%8=(n:Int)/\1<=n/\n<=8:=⟨(1+b'/3%8).toNat,by omega,by omega,by omega⟩
  rw[hn]at hj;have hj1:0<=j0/\j0<(n:Int):=by rw[hj];exact⟨Sb _ ‹0›,Sd _ ‹0›⟩
  have rn:=jm n ‹0›;obtain⟨T,hT⟩:∃T:bH,T=(ai (iE (eX (aa (ae 3) af)) (gN 5) (ai (aM 6 (f2 cH (ae 0) (f2 aW (fC (.int 24)) (f2 lE (f2 lE (fC (.int 11)) (ae 5)) (ae 5))))) (ai (fF (fB (f2 eS (ae 5) (f2 bP (f2 cH (ae 0) (fC (.int 24))) (ae 3)))) (aM 6 (f2 aW (ae 6) (ae 1))) bC) (ai (aM 4 (f2 aW (ae 4) (f2 ah (ae 2) (f2 bP (ae 6) (fC (.int 26)))))) (dC [5,6] bC))))) (aN (ae 4))):=⟨_,rfl⟩
  have key:∃w:Str,(w.cps.toList[j0.toNat]?=LT[((b'/(24+11*j0*j0)+k')%26).toNat]?)/\T K0 [some (.val (.int b')),some (.val (.int k')),some (.val (.str L)),some (.val (.int n)),some (.val (.str "")),none,none]=.ok (.str w):=by
   rw[hT,gX,iA];simp! only[rn];refine cZ (Q:=λz=>∃w:Str,(w.cps.toList[j0.toNat]?=LT[((b'/(24+11*j0*j0)+k')%26).toNat]?)/\z=.ok (.str w)) (λi ρ=>∃w:Str,w.length=i/\(j0<(i:Int)->w.cps.toList[j0.toNat]?=LT[((b'/(24+11*j0*j0)+k')%26).toNat]?)/\ρ=[some (.val (.int b')),some (.val (.int k')),some (.val (.str L)),some (.val (.int n)),some (.val (.str w)),none,none]) ?_ ?_ ?_
   ·rintro i d ρ kx hd ⟨w,hw,hw2,rfl⟩;have hi:=bW hd;rw[cC]at hi;have hdi:d=.int (i:Int):=by
     rw[iP,Qh,Ra hi]at hd;cases hd;simp
    subst hdi;have m1:=oY (i:=11) (j:=(i:Int)) (by decide) (by decide);have m2:=mF (i:=11*(i:Int)) (j:=(i:Int)) ‹0› ‹0›;have ii:0<=11*(i:Int)*(i:Int):=Int.mul_nonneg ‹0› ‹0›;have ii2:11*(i:Int)*(i:Int)<=11*8*8:=Int.mul_le_mul ‹0› ‹0› ‹0› (by decide);have dd:=λz=>ki (i:=z) (show(0:Int)<24+11*(i:Int)*(i:Int)by omega) (show 24+11*(i:Int)*(i:Int)<10^200 by
     have:(10:Int)^200>10000:=by decide +kernel
     omega)
    have gn:=λz=>d9 (i:=z) (show(0:Int)<(n:Int)by omega);generalize hs:b'/(24+11*(i:Int)*(i:Int))=s;by_cases hq:((i:Int)==b'/24%(n:Int))=true
    ·obtain⟨y,hy,hy0,e1⟩:=xD L ‹0› ((s+k')%26) ‹0› ‹0›;have ad:=gz w y ‹0› ‹0›;refine⟨_,_,rfl,⟨w++y,by rw[yB];omega,λ_=>?_,rfl⟩,?_⟩
     ·have eq:(i:Int)=b'/24%(n:Int):=(by simpa using hq);rw[<-hj]at eq;subst eq;rw[yT,Qe (by rw[uh];omega),uh,hw,Qk,Rx,hy0,hLT,<-hs]
     simp! only[m1,m2,dd,hs,d24,gn,hq,g26,e1,ad]
    ·have hq':((i:Int)==b'/24%(n:Int))=false:=(by simpa using hq);obtain⟨y,hy,hy0,e1⟩:=xD L ‹0› (s%26) ‹0› ‹0›;have ad:=gz w y ‹0› ‹0›;refine⟨_,_,rfl,⟨w++y,by rw[yB];omega,λz=>?_,rfl⟩,?_⟩
     ·have ne:j0≠(i:Int):=λq=>hq (by rw[<-q,<-hj];simp);rw[yT,Qg (by rw[uh];omega)];exact hw2 ‹0›
     simp! only[m1,m2,dd,hs,d24,gn,hq',g26,e1,ad]
   ·exact⟨"",by decide +kernel,λz=>by omega,rfl⟩
   ·rintro ρ' ⟨w,hw,hw2,rfl⟩;rw[cC]at hw2;exact⟨w,hw2 ‹0›,by simp! only[]⟩
  obtain⟨w,hw,ew⟩:=key;refine⟨w,?_,λz=>absurd z h,λ_=>hw⟩;rw[<-hT];simp only[K0]at ew;simp! only[hL,g6,l6,est,ms,d6,g24,hk',d144,hb',g3,h',d3,g8,hn,ew]
theorem uo{α:Type}{motive:List α->Prop}(nil:motive [])(snoc:∀(t:List α)(r:α),motive t->motive (t++[r]))(t:List α):motive t:=by
 have h:∀l:List α,motive l.reverse:=λl=>by
  induction l with
  |nil=>exact nil
  |cons a l ih=>rw[List.reverse_cons];exact snoc _ _ ih
 have:=h t.reverse
 rw[List.reverse_reverse]at this;exact this
theorem pj:∀{σ:bQ}{a:List D}(m:Nat),Sh σ a->Sh (σ.take m) (a.take m)
 |_,_,0,_=>by rw[QG,QG];exact .nil
 |_,_,m+1,.nil=>by rw[QH,QH];exact .nil
 |_,_,m+1,.int i h=>by rw[QI,QI];exact .int i (pj m h)
 |_,_,m+1,.str i h=>by rw[QI,QI];exact .str i (pj m h)
theorem pf:∀{σ:bQ}{a:List D},Sh σ a->∃q:cX,a=q.map bg
 |_,_,.nil=>⟨[],rfl⟩
 |_,_,.int i h=>by
  obtain⟨q,e⟩:=pf h;exact⟨.inl i::q,by rw[P6,e];rfl⟩
 |_,_,.str x h=>by
  obtain⟨q,e⟩:=pf h;exact⟨.inr x::q,by rw[P6,e];rfl⟩
theorem qi:∀{p q:cX},p.map bg=q.map bg->p=q:=λ{p q} h=>by
 have:=congrArg keysOf h
 rw[bR,bR]at this;exact Option.some.inj this
section
open Classical
variable(m:Nat)
noncomputable def J5(acc:bB)(r:List D):bB:=if r.take m∈acc then acc else acc++[r.take m]
noncomputable def fs(t:bB):bB:=t.foldl (J5 m) []
noncomputable def gp(t:bB)(f:List D):bB:=(t.filter λr=>decide (r.take m=f)).map (List.drop m)
theorem pC(t:bB)(r:List D):fs m (t++[r])=J5 m (fs m t) r:=by
 unfold fs;rw[Se];rfl
theorem yp{t:bB}{f:List D}:f∈fs m t↔∃r∈t,r.take m=f:=by
 induction t using uo with
 |nil=>unfold fs;simp
 |snoc t r ih=>
  rw[pC];unfold J5;split
  ·rename_i h;rw[ih];constructor
   ·rintro⟨x,h1,h2⟩;exact⟨x,PN _ h1,h2⟩
   ·rintro⟨x,h1,h2⟩;rcases List.mem_append.mp h1 with z|z
    ·exact⟨x,z,h2⟩
    ·rw[List.mem_singleton.mp z]at h2;rw[h2]at h;exact ih.mp h
  ·rw[List.mem_append,ih,RX];constructor
   ·rintro(⟨x,h1,h2⟩|h2)
    ·exact⟨x,PN _ h1,h2⟩
    ·exact⟨r,by simp,h2.symm⟩
   ·rintro⟨x,h1,h2⟩;rcases List.mem_append.mp h1 with z|z
    ·exact .inl ⟨x,z,h2⟩
    ·rw[List.mem_singleton.mp z]at h2;exact .inr h2.symm
theorem B1(t:bB):(fs m t).Nodup:=by
 induction t using uo with
 |nil=>exact Qy
 |snoc t r ih=>
  rw[pC];unfold J5;split
  ·exact ih
  ·rename_i h;exact List.nodup_append.mpr ⟨ih,by simp,λa ha b hb e=>by
    rw[List.mem_singleton.mp hb]at e;rw[e]at ha;exact h ha⟩
theorem DA(t:bB):(fs m t).length<=t.length:=by
 induction t using uo with
 |nil=>exact PX _
 |snoc t r ih=>
  rw[pC];unfold J5;split
  ·rw[Qj];omega
  ·rw[Qj,Qj];simpa using ih
theorem El(t:bB)(r f:List D):gp m (t++[r]) f=gp m t f++(if r.take m=f then[r.drop m]else[]):=by
 unfold gp;rw[Sf,QV];congr 1;by_cases h:r.take m=f
 ·rw[if_pos h,RH (by simpa using h)];rfl
 ·rw[if_neg h,RJ (by simpa using h)];rfl
noncomputable def flat(t:bB):bB:=(fs m t).flatMap λf=>(gp m t f).map (f++·)
end
open Classical in
theorem sW(al:cx)(q:cX)(v:D):(gG al q v).map (·.1)=if q∈al.map (·.1)then al.map (·.1)else al.map (·.1)++[q]:=by
 have e:(al.any λp=>decide (p.1=q))=true↔q∈al.map (·.1):=by
  rw[List.any_eq_true,List.mem_map];simp only[decide_eq_true_eq]
 unfold gG;by_cases h:q∈al.map (·.1)
 ·rw[if_pos (e.mpr h),if_pos h,RN];refine QU λp _=>?_;show(if p.1=q then(p.1,v)else p).1=p.1;split<;>rfl
 ·rw[if_neg λz=>h (e.mp z),if_neg h,QV];rfl
theorem Cw{al:cx}{q:cX}{v:D}{p:List Key×D}(h:p∈gG al q v):p∈al\/p=(q,v):=by
 unfold gG at h;split at h
 ·obtain⟨a,ha,e⟩:=List.mem_map.mp h;by_cases z:a.1=q
  ·rw[if_pos z]at e;exact .inr (by rw[<-e,z])
  ·rw[if_neg z]at e;exact .inl (by rw[<-e];exact ha)
 ·rcases List.mem_append.mp h with z|z
  ·exact .inl z
  ·exact .inr (List.mem_singleton.mp z)
theorem Fg{al:cx}(q:cX)(v:D)(h:(al.map (·.1)).Nodup):((gG al q v).map (·.1)).Nodup:=by
 rw[sW];split
 ·exact h
 ·rename_i z;exact List.nodup_append.mpr ⟨h,by simp,λa ha b hb e=>by
   rw[List.mem_singleton.mp hb]at e;rw[e]at ha;exact z ha⟩
theorem Dy(al:cx)(q:cX)(v:D):(gG al q v).length<=al.length+1:=by
 have:=congrArg List.length (sW al q v)
 rw[P7]at this;rw[this];split<;>simp
theorem qO:∀{al:cx}{p:List Key×D},(al.map (·.1)).Nodup->p∈al->jS al p.1=some p.2
 |a::al,p,h,hp=>by
  obtain⟨h1,h2⟩:=List.nodup_cons.mp (by simpa using h:(a.1::al.map (·.1)).Nodup);unfold jS;by_cases e:a.1=p.1
  ·rw[R4 (by simpa using e)];rcases List.mem_cons.mp hp with z|z
   ·rw[z];rfl
   ·exact absurd (show a.1∈al.map (·.1)from by rw[e];exact List.mem_map.mpr ⟨p,z,rfl⟩) h1
  ·rw[R5 (by simpa using e)];rcases List.mem_cons.mp hp with z|z
   ·exact absurd (by rw[z]) e
   ·exact qO h2 z
theorem yD(al:cx):Eh (encK al) (al.map (·.2))=some al:=by
 cases al with
 |nil=>rfl
 |cons p al=>exact gx (p::al)
theorem CN(al:cx):lY [bS al]=some (.lst (encK al)):=by
 show(Eh (encK al) (al.map (·.2))).bind _=_;rw[yD];rfl
theorem JK(al:cx)(q:cX):yg (bS al) (.tup (q.map bg))=jS al q:=by
 show(Eh (encK al) (al.map (·.2))).bind _=_;rw[yD];show(fK (.tup (q.map bg))).bind _=_;rw[mK];rfl
theorem BF(al:cx):xA (vT al)=some (al.map jU):=by
 show(iM (encK al) (al.map (·.2))).map _=_;rw[gx];rfl
theorem FP{al:cx}{σ:bQ}(nd:(al.map (·.1)).Nodup)(hs:∀p∈al,Sh σ (p.1.map bg))(h0:σ≠[])(hl:al.length<64):eB [.lst (encK al)]=some (.lst (iy de (encK al)))/\vM de (iy de (encK al)):=by
 have hx:∀x∈encK al,∃k,x=.tup k/\Sh σ k:=λx hx=>by
  obtain⟨p,hp,rfl⟩:=List.mem_map.mp hx;exact⟨_,rfl,hs p hp⟩
 have pw:(encK al).Pairwise λx y=>de x≠de y:=by
  rw[RL]
  have:=List.pairwise_map.mp nd
  exact this.imp λ{a b} ne e=>ne (qi e)
 have a:Jf (encK al):=⟨by rw[P7];exact hl,σ,h0,hx,pw⟩
 refine⟨?_,nO (σ:=σ) (λx h=>by obtain⟨k,e,s⟩:=hx x h;rw[e];exact s) pw⟩;show oI (encK al)=_;unfold oI;rw[if_pos a]
theorem yA:∀vs:List D,(∀v∈vs,∃r,v=.tup r)->∃t:bB,vs=t.map .tup
 |[],_=>⟨[],rfl⟩
 |v::vs,h=>by
  obtain⟨r,e⟩:=h v PJ;obtain⟨t,et⟩:=yA vs λv hv=>h v (PL _ hv);exact⟨r::t,by rw[e,et];rfl⟩
noncomputable def AL:Nat->D->Prop
 |0,d=>(∃i,d=.int i)\/∃x,d=.str x
 |n+1,d=>((∃i,d=.int i)\/∃x,d=.str x)\/∃ds,d=.tup ds/\ds.length<=1000/\∀x∈ds,AL n x
theorem AL.of0{d:D}(h:AL 0 d):∀n,AL n d
 |0=>h
 |_+1=>.inl h
theorem AL.up:∀{n:Nat}{d:D},AL n d->AL (n+1) d
 |0,_,h=>.inl h
 |n+1,_,h=>by
  rcases h with h|⟨ds,e,l,f⟩
  ·exact .inl h
  ·exact .inr ⟨ds,e,l,λx hx=>AL.up (f x hx)⟩
theorem AL.le{n m:Nat}(h:n<=m){d:D}(hd:AL n d):AL m d:=by
  induction m with
  | zero => have : n = 0 := by omega
            subst this;exact hd
  |succ m ih=>
    by_cases e:n=m+1
    ·subst e;exact hd
    ·exact AL.up (ih ‹0›)
theorem AL.tup{n:Nat}{ds:List D}(l:ds.length<=1000)(h:∀x∈ds,AL n x):AL (n+1) (.tup ds):=.inr ⟨ds,rfl,l,h⟩
theorem mD:∀{σ:bQ}{a:List D},Sh σ a->∀x∈a,AL 0 x
 |_,_,.int i h,x,hx=>by
  rcases List.mem_cons.mp hx with z|z
  ·exact .inl ⟨i,z⟩
  ·exact mD h x z
 |_,_,.str i h,x,hx=>by
  rcases List.mem_cons.mp hx with z|z
  ·exact .inr ⟨i,z⟩
  ·exact mD h x z
end T4
namespace Tk53
open PySem PySem.Spec L2 TG TX TD
noncomputable def top(i:Nat):T7:=PySem.Challenge.pw_twoglass_k53_gathered.main.body.getD i (.Pass ⟨0,0,0,0⟩)
noncomputable abbrev iC:T7:=inClass (top 32) 0
theorem lP:dD ["self","name"] ["self","name"] (aw iC):=⟨rfl,rfl,rfl,by decide +kernel,rfl,by decide +kernel,by decide +kernel⟩
noncomputable def bV(au:cO):bH:=ai (fF (cQ (iR "str" (ae 1))) (aN (jr (iR "str" (ae 0)) (f2 eS (ae 0) (ae 1)))) bC) (ai (fF (xx (cQ (iR "bool" (ae 1))) (cQ (iR "bool" (ae 0)))) (aN (jr (iR "bool" (ae 1)) (jr (iR "bool" (ae 0)) (f2 eS (ae 0) (ae 1))))) bC) (ai (fF (cQ (iR "int" (ae 1))) (aN (jr (iR "int" (ae 0)) (f2 eS (ae 0) (ae 1)))) bC) (ai (fF (xx (lT (cQ (iR "tuple" (ae 0)))) (fB (f2 rH (fL dS (aa (ae 0) af)) (fL dS (aa (ae 1) af))))) (aN (fC (.bl false))) bC) (ai (iE (oU (aa (ae 0) (aa (ae 1) af))) (gT 2 (jR [2,3])) (ai (fF (lT (cQ (fR au (aa (ae 2) (aa (ae 3) af))))) (aN (fC (.bl false))) bC) (dC [2,3] bC))) (aN (fC (.bl true)))))))
noncomputable def au:Nat->cO
 |0=>λ_=>un
 |n+1=>aC (bV (au n)) 2 4
theorem iB(n:Nat):au (n+1)=aC (bV (au n)) 2 4:=by rw[au]
theorem jO:∀n:Nat,Ar 2 (au n)
 |0=>λ_ h=>absurd (by rw[au]) h
 |n+1=>by rw[iB];exact gD
noncomputable def dH:bH:=aN (f2 ah (ae 2) (fC (.int 0)))
noncomputable def il:bH:=aN (jr (iR "int" (ae 0)) (vx (iR "bool" (ae 0))))
noncomputable def gA:bH:=aN (jr (iR "tuple" (ae 0)) (f2 eS (fL dS (aa (ae 0) af)) (ae 1)))
noncomputable def kr:bH:=ai (aM 2 (dA [none,some 0] (aG (ae 1)) (gN 0) bF (aH (ae 0) av (aY (ae 1))))) (aN (fL uW (aa (dA [none,some 2] (eX (aa (f2 uc (fL dS (aa (ae 2) af)) (fC (.int 1))) af)) (gN 0) bF (f2 mE (f2 ah (ae 1) (ae 0)) (f2 ah (ae 1) (f2 aW (ae 0) (fC (.int 1)))))) af)))
noncomputable def ue(dg cM bK:cO):bH:=ai (fF (fB (f2 eS (f2 ah (ae 0) (fC (.int 0))) (fC (.str "number")))) (aN (jr (fR (aC il 1 1) (aa (ae 1) af)) (lX Dr Dr (f2 ah (ae 0) (fC (.int 1))) (ae 1) (f2 ah (ae 0) (fC (.int 2)))))) bC) (ai (fF (fB (f2 eS (f2 ah (ae 0) (fC (.int 0))) (fC (.str "word")))) (aN (jr (iR "str" (ae 1)) (f2 u6 (ae 1) (f2 ah (ae 0) (fC (.int 1)))))) bC) (aN (jr (fR cM (aa (f2 ah (ae 0) (fC (.int 1))) (aa (ae 1) af))) (Gr (f2 J2 (fL dS (aa (ae 1) af)) (fC (.int 0))) (vx (f2 ah (ae 0) (fC (.int 2))))))))
noncomputable def ui(dg cM bK:cO):bH:=ai (fF (lT (cQ (iR "tuple" (ae 1)))) (aN (fC (.bl false))) bC) (ai (aM 2 (fR (aC dI 1 1) (aa (ae 0) af))) (aN (jr (fL uW (aa (dA [none,some 2] (aG (ae 1)) (gN 0) bF (fR bK (aa (ae 1) (aa (ae 0) af)))) af)) (fR (aC kr 2 3) (aa (fL dS (aa (f2 ah (ae 0) (fC (.int 0))) af)) (aa (ae 1) af))))))
noncomputable def mU(dg cM bK:cO):bH:=ai (fF (lT (cQ (fR (aC gA 2 2) (aa (ae 1) (aa (fL dS (aa (ae 0) af)) af))))) (aN (fC (.bl false))) bC) (aN (fL uW (aa (dA [none,none] (oU (aa (ae 0) (aa (ae 1) af))) (gT 2 (jR [0,1])) bF (fR dg (aa (ae 0) (aa (ae 1) af)))) af)))
mutual
noncomputable def dg:Nat->cO
 |0=>λ_=>un
 |n+1=>aC (ue (dg n) (cM n) (bK n)) 2 2
noncomputable def cM:Nat->cO
 |0=>λ_=>un
 |n+1=>aC (ui (dg n) (cM n) (bK n)) 2 3
noncomputable def bK:Nat->cO
 |0=>λ_=>un
 |n+1=>aC (mU (dg n) (cM n) (bK n)) 2 2
end
theorem kn(n:Nat):dg (n+1)=aC (ue (dg n) (cM n) (bK n)) 2 2:=by rw[dg]
theorem rX:∀n:Nat,Ar 2 (dg n)
 |0=>λ_ h=>absurd (by rw[dg]) h
 |n+1=>by rw[kn];exact gD
theorem mM(n:Nat):cM (n+1)=aC (ui (dg n) (cM n) (bK n)) 2 3:=by rw[cM]
theorem qe:∀n:Nat,Ar 2 (cM n)
 |0=>λ_ h=>absurd (by rw[cM]) h
 |n+1=>by rw[mM];exact gD
theorem iF(n:Nat):bK (n+1)=aC (mU (dg n) (cM n) (bK n)) 2 2:=by rw[bK]
theorem oH:∀n:Nat,Ar 2 (bK n)
 |0=>λ_ h=>absurd (by rw[bK]) h
 |n+1=>by rw[iF];exact gD
noncomputable def fg:bH:=ai (aM 2 (fL aZ (aa (dA [none,some 1] (aG (f2 ah (ae 0) (fC (.int 1)))) (gN 0) (fB (f2 u6 (ae 0) (f2 ah (ae 1) (fC (.int 1))))) (ae 0)) af))) (aN (La (cQ (ae 2)) (aL (aa (fC (.str "word")) (aa (ae 2) af))) (fC .non)))
noncomputable def d7:bH:=ai (aM 2 (fL lN (aa (f2 ah (ae 0) (fC (.int 1))) (aa (f2 ah (ae 1) (fC (.int 1))) af)))) (ai (aM 3 (fL je (aa (f2 ah (ae 0) (fC (.int 2))) (aa (f2 ah (ae 1) (fC (.int 2))) af)))) (aN (La (fB (f2 Dr (ae 2) (ae 3))) (aL (aa (fC (.str "number")) (aa (ae 2) (aa (ae 3) af)))) (fC .non))))
noncomputable def mZ:bH:=ai (fF (fB (f2 rH (f2 ah (ae 0) (fC (.int 0))) (f2 ah (ae 1) (fC (.int 0))))) (aN (fC .non)) bC) (ai (fF (fB (f2 eS (f2 ah (ae 0) (fC (.int 0))) (fC (.str "number")))) (aN (fR (aC d7 2 4) (aa (ae 0) (aa (ae 1) af)))) bC) (ai (fF (fB (f2 eS (f2 ah (ae 0) (fC (.int 0))) (fC (.str "word")))) (aN (fR (aC fg 2 3) (aa (ae 0) (aa (ae 1) af)))) bC) (aN (fC .non))))
noncomputable def eG:bH:=ai (fF (fB (f2 rH (dA [none] (aG (ae 0)) (gN 0) bF (f2 ah (ae 0) (fC (.int 0)))) (dA [none] (aG (ae 1)) (gN 0) bF (f2 ah (ae 0) (fC (.int 0)))))) lJ bC) (ai (fF (fB (f2 rH (dA [none] (aG (ae 0)) (gN 0) bF (f2 ah (f2 ah (ae 0) (fC (.int 1))) (fC (.int 0)))) (dA [none] (aG (ae 1)) (gN 0) bF (f2 ah (f2 ah (ae 0) (fC (.int 1))) (fC (.int 0)))))) lJ bC) (ai (aM 2 (dA [none,none] (oU (aa (ae 0) (aa (ae 1) af))) (gT 2 (jR [0,1])) bF (fR (aC mZ 2 2) (aa (f2 ah (ae 0) (fC (.int 1))) (aa (f2 ah (ae 1) (fC (.int 1))) af))))) (ai (fF (fB (f2 u6 (fC .non) (ae 2))) lJ bC) (aN (fL aZ (aa (dA [none,none] (oU (aa (ae 0) (aa (ae 2) af))) (gT 2 (jR [0,1])) bF (aL (aa (f2 ah (ae 0) (fC (.int 0))) (aa (ae 1) af)))) af))))))
noncomputable def cG:bH:=ai (aM 3 (fR (aC eG 2 3) (aa (f2 ah (f2 ah (ae 0) (fC (.int 0))) (fC (.int 0))) (aa (aH (f2 ah (f2 ah (ae 0) (fC (.int 1))) (fC (.int 0))) av (aY (fL dS (aa (f2 ah (f2 ah (ae 0) (fC (.int 0))) (fC (.int 0))) af)))) af)))) (ai (aM 4 (dA [none] (aG (ae 3)) (gN 0) bF (f2 ah (ae 0) (fC (.int 1))))) (aN (dA [none,some 4,some 2] (aG (ae 1)) (gN 0) (fB (f2 eS (fR (bK 20) (aa (ae 1) (aa (aH (ae 0) av (aY (fL dS (aa (ae 1) af)))) af))) (ae 2))) (ae 0))))
noncomputable def iO:bH:=ai (wt 2) (ai (iE (aG (ae 1)) (gN 3) (ai (AG 2 (aH (ae 3) av (aY (ae 0))) (aH (ae 3) (aY (ae 0)) av)) (dC [3] bC))) (sd 2 (aN (fL jZ (aa (dA [none,none] (mI (ae 2)) (gT 2 (jR [0,1])) bF (aL (aa (ae 0) (aa (fL aZ (aa (ae 1) af)) af)))) af)))))
noncomputable def bI:bH:=ai (aM 3 (fL dS (aa (f2 ah (f2 ah (ae 1) (fC (.int 0))) (fC (.int 0))) af))) (ai (aM 4 (fR (aC iO 2 4) (aa (ae 3) (aa (f2 ah (ae 2) (fC (.int 1))) af)))) (aN (fL aZ (aa (dA [none,some 4,some 3] (aG (fR (aC cG 3 5) (aa (ae 1) (aa (f2 ah (ae 2) (fC (.int 0))) (aa (fC (.bl true)) af))))) (gN 0) bF (f2 aW (ae 0) (aL (aa (nU (ae 1) (aH (ae 0) av (aY (ae 2))) (aL af)) af)))) af))))
noncomputable def b8:bH:=aN (ae 1)
noncomputable def ip(bu:cO):bH:=aN (f1 (oO 0) (dA [none] (aG (fR (aC dI 1 1) (aa (ae 0) af))) (gN 0) (fB (f2 eS (f2 ah (ae 0) (fC (.int 0))) (fC (.str "rows")))) (f2 aW (fC (.int 1)) (fR bu (aa (f2 ah (ae 0) (fC (.int 1))) af)))))
noncomputable def bu:Nat->cO
 |0=>λ_=>un
 |n+1=>aC (ip (bu n)) 1 1
theorem eO(n:Nat):bu (n+1)=aC (ip (bu n)) 1 1:=by rw[bu]
theorem lF:∀n:Nat,Ar 1 (bu n)
 |0=>λ_ h=>absurd (by rw[bu]) h
 |n+1=>by rw[eO];exact gD
noncomputable def bz:bH:=ai (aM 3 (fL dS (aa (f2 ah (ae 1) (fC (.int 0))) af))) (ai (fF (fB (f2 Dr (fL dS (aa (f2 ah (ae 2) (fC (.int 0))) af)) (ae 3))) lJ bC) (ai (aM 4 (fR (aC eG 2 3) (aa (f2 ah (ae 1) (fC (.int 0))) (aa (aH (f2 ah (ae 2) (fC (.int 0))) av (aY (ae 3))) af)))) (ai (fF (fB (f2 u6 (f1 (x9 "name" ["Gather"]) (ae 0)) (fR (aC fY 1 1) (aa (ae 1) af)))) lJ bC) (ai (aM 5 (aL (aa (aH (f2 ah (ae 2) (fC (.int 0))) (aY (ae 3)) av) (aa (f2 ah (ae 2) (fC (.int 1))) af)))) (ai (fF (xx (fB (f2 Lb (fL dS (aa (f2 ah (ae 1) (fC (.int 1))) af)) (fC (.int 8)))) (fB (f2 Lb (fR (bu 20) (aa (ae 5) af)) (fC (.int 3))))) lJ bC) (aN (aL (aa (ae 4) (aa (f2 aW (f2 ah (ae 1) (fC (.int 1))) (aL (aa (aL (aa (f1 (x9 "name" ["Gather"]) (ae 0)) (aa (aL (aa (fC (.str "rows")) (aa (ae 5) (aa (fC (.bl false)) af)))) af))) af))) af)))))))))
noncomputable def fS:bH:=aN (aL (aa (ae 3) (aa (f2 ah (ae 2) (fC (.int 1))) af)))
noncomputable def dB:bH:=aN (fL aZ (aa (f2 om (ae 1) (ae 0)) af))
noncomputable def jf:bH:=aN (fL jZ (aa (dA [none,some 0] (aG (ae 1)) (gN 0) bF (aL (aa (aH (ae 0) av (aY (ae 1))) (aa (ae 0) af)))) af))
noncomputable def fJ:bH:=ai (aM 3 (fR (aC jf 2 2) (aa (ae 0) (aa (ae 1) af)))) (aN (fR (aC dB 2 2) (aa (ae 0) (aa (f2 aW (fL lI (aa (ae 1) af)) (dA [none,some 0,some 3] (aG (ae 2)) (gN 0) (fB (f2 gU (aH (ae 0) av (aY (ae 1))) (ae 2))) (ae 0))) af))))
noncomputable def cU:bH:=ai (aM 4 (fL dS (aa (f2 ah (f2 ah (ae 1) (fC (.int 0))) (fC (.int 0))) af))) (ai (aM 5 (fR (aC fJ 3 4) (aa (ae 4) (aa (dA [none] (aG (ae 3)) (gN 0) bF (aH (ae 0) av (aY (lD (fC (.int 1)))))) (aa (fR (aC cG 3 5) (aa (ae 1) (aa (f2 ah (ae 2) (fC (.int 0))) (aa (fC (.bl false)) af)))) af))))) (ai (aM 6 (fR (aC jf 2 2) (aa (ae 4) (aa (f2 aW (fL lI (aa (ae 3) af)) (fR (aC cG 3 5) (aa (ae 1) (aa (f2 ah (ae 2) (fC (.int 0))) (aa (fC (.bl true)) af))))) af)))) (ai (iY 7 (dA [none,some 4,some 6] (aG (f2 ah (ae 2) (fC (.int 1)))) (gN 0) (fB (f2 gU (aH (ae 0) av (aY (ae 1))) (ae 2))) (ae 0))) (dC [0,2,6] (ai (iE (aG (ae 3)) (gN 8) (ai (wQ 7 (dA [none,some 8,some 4] (aG (f2 ah (ae 8) (lD (fC (.int 1))))) (gN 0) bF (f2 aW (aH (ae 1) av (aY (ae 2))) (ae 0)))) (dC [8] bC))) (fA 7 (aN (aL (aa (ae 5) (aa (fR (aC dB 2 2) (aa (fL dS (aa (f2 ah (f2 ah (ae 1) (fC (.int 1))) (fC (.int 0))) af)) (aa (ae 7) af))) af))))))))))
noncomputable def bM:bH:=ai (iY 2 pL) (ai (iE (aG (ae 1)) (gN 3) (ai (rF 2 (aH (ae 3) av (aY (ae 0))) (ae 3)) (dC [3] bC))) (fA 2 (aN (fL aZ (aa (dA [none,some 2] (aG (fL eB (aa (fL lY (aa (ae 2) af)) af))) (gN 0) bF (f2 yg (ae 1) (ae 0))) af)))))
noncomputable def eD(aA bb aQ:cO):bH:=ai (fF (fB (f2 eS (f2 ah (ae 0) (fC (.int 0))) (fC (.str "number")))) (aN (f2 aW (f2 ah (ae 0) (fC (.int 1))) (f2 bP (f2 iK (ae 1) (fC (.int 7))) (f2 aW (f2 uc (f2 ah (ae 0) (fC (.int 2))) (f2 ah (ae 0) (fC (.int 1)))) (fC (.int 1)))))) bC) (ai (fF (fB (f2 eS (f2 ah (ae 0) (fC (.int 0))) (fC (.str "word")))) (aN (f2 ah (f2 ah (ae 0) (fC (.int 1))) (f2 bP (ae 1) (fL dS (aa (f2 ah (ae 0) (fC (.int 1))) af))))) bC) (aN (fR aQ (aa (f2 ah (ae 0) (fC (.int 1))) (aa (f2 cH (ae 1) (fC (.int 3))) (aa (fL lN (aa (f2 bP (ae 1) (fC (.int 3))) (aa (fL vc (aa (f2 ah (ae 0) (fC (.int 2))) af)) af))) af))))))
noncomputable def jv(aA bb aQ:cO):bH:=ai (iY 4 (eV af)) (ai (iE (aG (f2 aW (f2 ah (ae 0) (fC (.int 0))) (f2 ah (ae 0) (fC (.int 1))))) (gT 2 (jR [5,6])) (ai (fF (ky [4] (fB (f2 mE (fL dS (aa (ae 4) af)) (ae 1)))) (ai (aM 2 (fR (aC bc 1 1) (aa (ae 2) af))) (xV 4 eK (aa (fR aA (aa (ae 6) (aa (ae 2) af))) af))) (ai (aM 3 (fR (aC bc 1 1) (aa (ae 3) af))) (xV 4 eK (aa (fR aA (aa (ae 6) (aa (ae 3) af))) af)))) (dC [5,6] bC))) (fA 4 (aN (fL aZ (aa (ae 4) af)))))
noncomputable def iw(aA bb aQ:cO):bH:=ai (iY 3 (eV af)) (ai (iE (eX (aa (ae 2) af)) (gN 4) (ai (aM 1 (fR (aC bc 1 1) (aa (ae 1) af))) (ai (xV 3 eK (aa (fR bb (aa (ae 0) (aa (fC (.int 0)) (aa (fC (.int 0)) (aa (ae 1) af))))) af)) (dC [4] bC)))) (fA 3 (aN (fR (aC bM 2 4) (aa (fL dS (aa (f2 ah (ae 0) (fC (.int 0))) af)) (aa (ae 3) af))))))
mutual
noncomputable def aA:Nat->cO
 |0=>λ_=>un
 |n+1=>aC (eD (aA n) (bb n) (aQ n)) 2 2
noncomputable def bb:Nat->cO
 |0=>λ_=>un
 |n+1=>aC (jv (aA n) (bb n) (aQ n)) 4 7
noncomputable def aQ:Nat->cO
 |0=>λ_=>un
 |n+1=>aC (iw (aA n) (bb n) (aQ n)) 3 5
end
theorem cR(n:Nat):aA (n+1)=aC (eD (aA n) (bb n) (aQ n)) 2 2:=by rw[aA]
theorem jN:∀n:Nat,Ar 2 (aA n)
 |0=>λ_ h=>absurd (by rw[aA]) h
 |n+1=>by rw[cR];exact gD
theorem gK(n:Nat):bb (n+1)=aC (jv (aA n) (bb n) (aQ n)) 4 7:=by rw[bb]
theorem lG:∀n:Nat,Ar 4 (bb n)
 |0=>λ_ h=>absurd (by rw[bb]) h
 |n+1=>by rw[gK];exact gD
theorem fQ(n:Nat):aQ (n+1)=aC (iw (aA n) (bb n) (aQ n)) 3 5:=by rw[aQ]
theorem kj:∀n:Nat,Ar 3 (aQ n)
 |0=>λ_ h=>absurd (by rw[aQ]) h
 |n+1=>by rw[fQ];exact gD
noncomputable def dq:bH:=ai (fF (fB (f2 eS (f2 ah (ae 0) (fC (.int 0))) (fC (.str "number")))) (aN (aL (aa (fC (.str "number")) (aa (fL lN (aa (f2 ah (ae 0) (fC (.int 1))) (aa (f2 ah (ae 1) (fC (.int 1))) af))) (aa (fL je (aa (f2 ah (ae 0) (fC (.int 2))) (aa (f2 ah (ae 1) (fC (.int 2))) af))) af))))) bC) (aN (aL (aa (fC (.str "word")) (aa (fL aZ (aa (dA [none,some 1] (aG (f2 ah (ae 0) (fC (.int 1)))) (gN 0) (fB (f2 u6 (ae 0) (f2 ah (ae 1) (fC (.int 1))))) (ae 0)) af)) af))))
noncomputable def bA:bH:=ai (iY 2 (eV af)) (ai (iE (oU (aa (f2 ah (ae 0) (fC (.int 0))) (aa (f2 ah (ae 1) (fC (.int 0))) af))) (gT 2 (jR [3,4])) (ai (xV 2 eK (aa (aL (aa (f2 ah (ae 3) (fC (.int 0))) (aa (fR (aC dq 2 2) (aa (f2 ah (ae 3) (fC (.int 1))) (aa (f2 ah (ae 4) (fC (.int 1))) af))) af))) af)) (dC [3,4] bC))) (fA 2 (aN (fL aZ (aa (ae 2) af)))))
noncomputable def eW:bH:=ai (aM 4 (fL dS (aa (f2 ah (ae 1) (fC (.int 0))) af))) (ai (aM 5 (aL (aa (aH (f2 ah (ae 1) (fC (.int 0))) av (aY (fC (.int 1)))) (aa (aH (f2 ah (ae 1) (fC (.int 1))) (aY (fC (.int 1))) av) af)))) (ai (aM 6 (aL (aa (f2 aW (aH (f2 ah (ae 2) (fC (.int 0))) av (aY (fC (.int 1)))) (aH (f2 ah (ae 2) (fC (.int 0))) (aY (ae 4)) av)) (aa (aH (f2 ah (ae 2) (fC (.int 1))) (aY (fC (.int 1))) av) af)))) (ai (aM 7 (aL (aa (fC (.str "rows")) (aa (aL (aa (aH (f2 ah (ae 6) (fC (.int 0))) (aY (fC (.int 1))) av) (aa (f2 ah (ae 6) (fC (.int 1))) af))) (aa (fC (.bl false)) af))))) (ai (aM 8 (aL (aa (fR (aC bA 2 5) (aa (ae 5) (aa (ae 6) af))) (aa (f2 aW (f2 ah (ae 5) (fC (.int 1))) (aL (aa (aL (aa (f1 (x9 "name" ["Gather"]) (ae 0)) (aa (ae 7) af))) af))) af)))) (ai (aM 9 (fR (aQ 20) (aa (ae 8) (aa (ae 3) (aa (fC (.int 4)) af))))) (ai (fF (lT (cQ (fR (au 20) (aa (dL "view_form" [("Pair",(aC b8 3 3)),("Gather",(aC bz 3 6))] (ae 0) (aa (ae 5) (aa (ae 6) af))) (aa (ae 8) af))))) (aN (fC (.bl false))) bC) (ai (iY 10 (eV af)) (dC [1,2,3,4,7,8] (ai (iE (aG (ae 9)) (gN 11) (wQ 10 (dA [none,some 11] (aG (f2 ah (ae 11) (lD (fC (.int 1))))) (gN 0) bF (f2 aW (aH (ae 1) av (aY (fC (.int 1)))) (ae 0))))) (fA 10 (ai (aM 12 (aL (aa (fL aZ (aa (dA [none] (aG (ae 9)) (gN 0) bF (aH (ae 0) av (aY (lD (fC (.int 1)))))) af)) (aa (fL aZ (aa (ae 10) af)) af)))) (ai (fF (lT (cQ (fR (au 20) (aa (dL "put" [("Pair",(aC fS 4 4)),("Gather",(aC cU 4 9))] (ae 0) (aa (aL (aa (ae 5) (aa (ae 6) af))) (aa (aL (aa (aL af) (aa (aL af) af))) (aa (ae 9) af)))) (aa (ae 12) af))))) (aN (fC (.bl false))) bC) (aN (fR (au 20) (aa (dL "got" [("Pair",(aC dH 3 3)),("Gather",(aC bI 3 5))] (ae 0) (aa (aL (aa (ae 5) (aa (ae 6) af))) (aa (ae 12) af))) (aa (ae 9) af))))))))))))))))
noncomputable def fu:bH:=aN (aL af)
noncomputable def cI:bH:=aN (aL (aa (fC (.str "gather")) (aa (f1 (x9 "name" ["Gather"]) (ae 0)) af)))
noncomputable def fG:bH:=ai (iE (oU (aa (ae 0) (aa (ae 1) af))) (gT 2 (jR [2,3])) (ai (aM 4 (f2 ah (ae 2) (fC (.int 1)))) (ai (fF (vN (fB (f2 eS (f2 ah (ae 4) (fC (.int 0))) (fC (.str "number")))) (xx (fB (f2 mE (ae 3) (f2 ah (ae 4) (fC (.int 1))))) (fB (f2 J2 (ae 3) (f2 ah (ae 4) (fC (.int 2))))))) (aN (fC (.bl false))) bC) (ai (fF (vN (fB (f2 eS (f2 ah (ae 4) (fC (.int 0))) (fC (.str "word")))) (fB (f2 iH (ae 3) (f2 ah (ae 4) (fC (.int 1)))))) (aN (fC (.bl false))) bC) (dC [2,3,4] bC))))) (aN (fC (.bl true)))
noncomputable def cA:bH:=ai (aM 3 (fR (aC bc 1 1) (aa (fR (aC cz 2 3) (aa (ae 2) (aa (fC (.int 1)) af))) af))) (ai (aM 4 (f2 bP (f2 lE (fR (aC cy 2 2) (aa (ae 2) (aa (fC (.int 1)) af))) (fC (.int 48271))) (fC (.int 2147483647)))) (ai (aM 5 (dA [none,none] (aG (f2 aW (f2 ah (ae 0) (fC (.int 0))) (f2 ah (ae 0) (fC (.int 1))))) (gT 2 (jR [0,1])) bF (ae 0))) (ai (aM 6 (f2 aW (dA [none,none] (aG (f2 aW (f2 ah (ae 1) (fC (.int 0))) (f2 ah (ae 1) (fC (.int 1))))) (gT 2 (jR [0,1])) bF (ae 0)) (eV (aa (fR (aC bL 2 7) (aa (ae 4) (aa (fC (.int 22)) af))) (aa (fR (aC bL 2 7) (aa (ae 4) (aa (fC (.int 23)) af))) af))))) (ai (aM 6 (dA [none,some 5] (aG (ae 6)) (gN 0) (fB (f2 iH (ae 0) (ae 1))) (ae 0))) (aN (f2 ah (ae 6) (f2 bP (ae 3) (fL dS (aa (ae 6) af)))))))))
noncomputable def ce:bH:=aN (fR (bb 20) (aa (aL (aa (fL aZ (aa (ae 0) af)) (aa (aL af) af))) (aa (fC (.int 0)) (aa (fC (.int 0)) (aa (ae 1) af)))))
noncomputable def bU:bH:=ai (aM 5 (fR (aC bA 2 5) (aa (ae 0) (aa (ae 1) af)))) (ai (aM 6 (fL dS (aa (f2 ah (ae 0) (fC (.int 0))) af))) (ai (n8 7) (ai (iE (o9 (aa (ae 3) (aa (fL je (aa (fL lN (aa (fL dS (aa (ae 2) af)) (aa (f2 aW (ae 3) (fC (.int 6))) af))) (aa (f2 aW (ae 3) (ae 4)) af))) af))) (gN 8) (ai (aM 9 (fR (aC cz 2 3) (aa (ae 2) (aa (ae 8) af)))) (ai (aM 10 (f2 bP (ae 9) (fC (.int 6)))) (ai (aM 11 (fR (aC bc 1 1) (aa (ae 9) af))) (ai (aM 12 (fR (aC ce 2 2) (aa (f2 ah (eV (aa (f2 ah (ae 0) (fC (.int 0))) (aa (aH (f2 ah (ae 1) (fC (.int 0))) av (aY (ae 6))) (aa (ae 5) af)))) (fL je (aa (ae 10) (aa (fC (.int 2)) af)))) (aa (f2 ah (eV (aa (ae 11) (aa (f2 bP (ae 11) (fC (.int 7))) (aa (f2 bP (ae 11) (fC (.int 3))) af)))) (f2 bP (f2 cH (ae 9) (fC (.int 6))) (fC (.int 3)))) af)))) (ai (fF (fB (f2 u6 (ae 10) (aL (aa (fC (.int 0)) (aa (fC (.int 2)) (aa (fC (.int 4)) af)))))) (oC 7 0 (f2 aW (ae 12) (fR (aC ce 2 2) (aa (f2 ah (ae 0) (fC (.int 1))) (aa (f2 aW (ae 11) (fC (.int 1))) af))))) bC) (ai (fF (fB (f2 u6 (ae 10) (aL (aa (fC (.int 1)) (aa (fC (.int 3)) (aa (fC (.int 4)) (aa (fC (.int 5)) af))))))) (oC 7 1 (f2 aW (ae 12) (fR (aC ce 2 2) (aa (f2 aW (aH (f2 ah (ae 1) (fC (.int 0))) (aY (ae 6)) av) (f2 ah (ae 1) (fC (.int 1)))) (aa (f2 aW (ae 11) (fC (.int 2))) af))))) bC) (dC [8,9,10,11,12] bC)))))))) (wq 7 (aN (aL (aa (fR (aC bM 2 4) (aa (ae 6) (aa (f2 ah (ae 7) (fC (.int 0))) af))) (aa (fR (aC bM 2 4) (aa (fL dS (aa (f2 ah (ae 1) (fC (.int 0))) af)) (aa (f2 ah (ae 7) (fC (.int 1))) af))) af))))))))
noncomputable def gB(bi aP:cO):bH:=ai (fF (xx (fB (f2 eS (ae 2) (fC (.int 0)))) (fB (f2 mE (f2 bP (ae 0) (fC (.int 3))) (fC (.int 2))))) (aN (fR (aC dG 1 8) (aa (f2 cH (ae 0) (fC (.int 3))) af))) bC) (ai (aM 3 (fR aP (aa (f2 cH (ae 0) (fC (.int 3))) (aa (ae 1) (aa (f2 bP (f2 cH (ae 0) (fC (.int 36))) (fC (.int 12))) (aa (f2 aW (fC (.int 1)) (f2 bP (f2 cH (ae 0) (fC (.int 3))) (fC (.int 2)))) (aa (f2 bP (f2 cH (ae 0) (fC (.int 6))) (fC (.int 3))) (aa (f2 uc (ae 2) (fC (.int 1))) af)))))))) (aN (aL (aa (fC (.str "rows")) (aa (ae 3) (aa (f2 eS (f2 bP (f2 cH (ae 0) (fC (.int 18))) (fC (.int 2))) (fC (.int 1))) af))))))
noncomputable def iz(bi aP:cO):bH:=ai (iY 6 (eV af)) (ai (iY 7 (eV af)) (ai (iE (eX (aa (f2 aW (ae 3) (ae 4)) af)) (gN 8) (ai (aM 0 (fR (aC bc 1 1) (aa (ae 0) af))) (ai (fF (fB (f2 mE (ae 8) (ae 3))) (xV 6 eK (aa (aL (aa (fR (aC bL 2 7) (aa (ae 1) (aa (f2 aW (ae 2) (ae 8)) af))) (aa (fR (aC dG 1 8) (aa (ae 0) af)) af))) af)) (xV 7 eK (aa (aL (aa (fR (aC bL 2 7) (aa (ae 1) (aa (f2 aW (ae 2) (ae 8)) af))) (aa (fR bi (aa (ae 0) (aa (ae 1) (aa (ae 5) af)))) af))) af))) (dC [8] bC)))) (fA 7 (fA 6 (aN (aL (aa (fL aZ (aa (ae 6) af)) (aa (fL aZ (aa (ae 7) af)) af))))))))
mutual
noncomputable def bi:Nat->cO
 |0=>λ_=>un
 |n+1=>aC (gB (bi n) (aP n)) 3 4
noncomputable def aP:Nat->cO
 |0=>λ_=>un
 |n+1=>aC (iz (bi n) (aP n)) 6 9
end
theorem eE(n:Nat):bi (n+1)=aC (gB (bi n) (aP n)) 3 4:=by rw[bi]
theorem jX:∀n:Nat,Ar 3 (bi n)
 |0=>λ_ h=>absurd (by rw[bi]) h
 |n+1=>by rw[eE];exact gD
theorem fX(n:Nat):aP (n+1)=aC (iz (bi n) (aP n)) 6 9:=by rw[aP]
theorem ku:∀n:Nat,Ar 6 (aP n)
 |0=>λ_ h=>absurd (by rw[aP]) h
 |n+1=>by rw[fX];exact gD
noncomputable def cT:bH:=ai (aM 1 (fC (.str "abcdefghijklmnopqrstuvwxyz"))) (ai (aM 2 (f2 ah (ae 1) (f2 bP (ae 0) (fC (.int 26))))) (ai (aM 3 (f2 ah (ae 1) (f2 bP (f2 cH (ae 0) (fC (.int 26))) (fC (.int 26))))) (ai (iY 4 pL) (dC [0,1] (ai (iE (aG (eV (aa (fC (.str "")) (aa (ae 2) (aa (ae 3) (aa (f2 aW (ae 2) (ae 3)) (aa (f2 aW (ae 3) (ae 2)) (aa (f2 oK (ae 2) (fC (.int 8))) (aa (f2 aW (ae 2) (ae 2)) (aa (f2 oK (ae 3) (fC (.int 3))) af)))))))))) (gN 5) (ai (lL 4 (ae 5) (fC (.bl true))) (dC [5] bC))) (fA 4 (aN (fL eB (aa (fL jt (aa (ae 4) af)) af)))))))))
noncomputable def dh:bH:=ai (aM 1 (fR (aC bc 1 1) (aa (ae 0) af))) (ai (aM 2 (f2 ah (eV (aa (fC (.int 0)) (aa (lD (fC (.int 3))) (aa (f2 uc (fC (.int 0)) (f2 bP (f2 iK (ae 1) (fC (.int 7))) (f2 iK (fC (.int 10)) (fC (.int 59))))) (aa (f2 bP (f2 iK (ae 1) (fC (.int 7))) (f2 iK (fC (.int 10)) (fC (.int 59)))) af))))) (f2 bP (f2 cH (ae 0) (fC (.int 3))) (fC (.int 4))))) (ai (aM 3 (f2 ah (eV (aa (fC (.int 0)) (aa (fC (.int 1)) (aa (fC (.int 6)) (aa (f2 iK (fC (.int 10)) (fC (.int 59))) af))))) (f2 bP (f2 cH (ae 0) (fC (.int 12))) (fC (.int 4))))) (ai (aM 4 (f2 bP (f2 iK (ae 1) (fC (.int 7))) (f2 aW (ae 3) (fC (.int 1))))) (ai (aM 5 (aL (aa (fC (.str "number")) (aa (ae 2) (aa (f2 aW (ae 2) (ae 3)) af))))) (ai (aM 6 (aL (aa (fC (.str "number")) (aa (f2 aW (ae 2) (ae 4)) (aa (f2 aW (f2 aW (ae 2) (ae 4)) (f2 ah (eV (aa (fC (.int 0)) (aa (fC (.int 2)) (aa (fC (.int 9)) (aa (f2 iK (fC (.int 10)) (fC (.int 59))) af))))) (f2 bP (f2 cH (ae 0) (fC (.int 48))) (fC (.int 4))))) af))))) (ai (fF (fB (f2 eS (f2 bP (ae 0) (fC (.int 3))) (fC (.int 2)))) (ai (aM 7 (fR (aC cT 1 6) (aa (f2 cH (ae 0) (fC (.int 3))) af))) (ai (aM 8 (f2 ah (ae 7) (f2 bP (ae 1) (fL dS (aa (ae 7) af))))) (ai (aM 5 (aL (aa (fC (.str "word")) (aa (fL aZ (aa (dA [none,none,some 8,some 1] (gb (aa (ae 7) af)) (gT 2 (jR [0,1])) (xx (fB (f2 eS (ae 1) (ae 2))) (fB (f2 eS (f2 oQ (f2 u9 (f2 cH (ae 3) (fC (.int 9))) (ae 0)) (fC (.int 1))) (fC (.int 1))))) (ae 1)) af)) af)))) (aM 6 (aL (aa (fC (.str "word")) (aa (fL aZ (aa (dA [none,none,some 8,some 1] (gb (aa (ae 7) af)) (gT 2 (jR [0,1])) (xx (fB (f2 eS (ae 1) (ae 2))) (fB (f2 eS (f2 oQ (f2 u9 (f2 cH (ae 3) (fC (.int 3000))) (ae 0)) (fC (.int 1))) (fC (.int 1))))) (ae 1)) af)) af))))))) bC) (ai (fF (fB (f2 eS (f2 bP (f2 cH (ae 0) (fC (.int 200))) (fC (.int 2))) (fC (.int 1)))) (aN (aL (aa (ae 6) (aa (ae 5) af)))) bC) (aN (aL (aa (ae 5) (aa (ae 6) af)))))))))))
noncomputable def dM:bH:=ai (iY 3 (eV af)) (ai (iY 4 (eV af)) (ai (iE (eX (aa (ae 2) af)) (gN 5) (ai (aM 0 (fR (aC bc 1 1) (aa (ae 0) af))) (ai (aM 6 (fR (aC dh 1 9) (aa (ae 0) af))) (ai (xV 3 eK (aa (aL (aa (fR (aC bL 2 7) (aa (ae 1) (aa (ae 5) af))) (aa (f2 ah (ae 6) (fC (.int 0))) af))) af)) (ai (xV 4 eK (aa (aL (aa (fR (aC bL 2 7) (aa (ae 1) (aa (ae 5) af))) (aa (f2 ah (ae 6) (fC (.int 1))) af))) af)) (dC [5,6] bC)))))) (fA 4 (fA 3 (aN (aL (aa (fL aZ (aa (ae 3) af)) (aa (fL aZ (aa (ae 4) af)) af))))))))
noncomputable def bZ:bH:=ai (aM 1 (fR (aC cz 2 3) (aa (ae 0) (aa (fC (.int 0)) af)))) (ai (aM 2 (f2 bP (f2 lE (fR (aC cy 2 2) (aa (ae 0) (aa (fC (.int 1)) af))) (fC (.int 48271))) (fC (.int 2147483647)))) (ai (aM 3 (f2 ah (eV (aa (fC (.int 1)) (aa (fC (.int 2)) (aa (fC (.int 1)) (aa (fC (.int 3)) (aa (fC (.int 2)) (aa (fC (.int 1)) (aa (fC (.int 2)) (aa (f2 aW (fC (.int 1)) (f2 bP (f2 cH (ae 1) (fC (.int 64))) (fC (.int 7)))) af))))))))) (f2 bP (ae 1) (fC (.int 8))))) (ai (aM 4 (fR (aC dM 3 7) (aa (fR (aC bc 1 1) (aa (ae 1) af)) (aa (ae 2) (aa (ae 3) af))))) (ai (aM 5 (f2 ah (eV (aa (fC (.int 0)) (aa (fC (.int 0)) (aa (fC (.int 1)) (aa (fC (.int 2)) af))))) (f2 bP (f2 cH (ae 1) (fC (.int 8))) (fC (.int 4))))) (ai (aM 6 (f2 bP (f2 cH (ae 1) (fC (.int 512))) (fC (.int 4)))) (ai (fF (fB (f2 eS (f2 bP (f2 cH (ae 1) (fC (.int 32))) (fC (.int 8))) (fC (.int 3)))) (ai (aM 6 (f2 bP (f2 cH (ae 1) (fC (.int 512))) (fC (.int 8)))) (aM 5 (fC (.int 0)))) bC) (ai (aM 7 (f2 ah (fR (aP 20) (aa (f2 aW (fR (aC bc 1 1) (aa (ae 1) af)) (fC (.int 1))) (aa (ae 2) (aa (fC (.int 8)) (aa (fC (.int 0)) (aa (ae 6) (aa (ae 5) af))))))) (fC (.int 1)))) (ai (aM 8 (f2 aW (fC (.int 1)) (f2 bP (f2 cH (ae 1) (fC (.int 4096))) (fL je (aa (fC (.int 3)) (aa (f2 uc (fC (.int 8)) (ae 3)) af)))))) (ai (aM 9 (fR (aP 20) (aa (f2 aW (fR (aC bc 1 1) (aa (ae 1) af)) (fC (.int 2))) (aa (ae 2) (aa (f2 ah (eV (aa (fC (.int 8)) (aa (fC (.int 15)) af))) (f2 bP (f2 cH (ae 1) (fC (.int 2048))) (fC (.int 2)))) (aa (ae 8) (aa (f2 bP (f2 cH (ae 1) (fC (.int 16384))) (fC (.int 4))) (aa (ae 5) af)))))))) (aN (aL (aa (aL (aa (f2 ah (ae 4) (fC (.int 0))) (aa (ae 7) af))) (aa (aL (aa (f2 aW (f2 ah (ae 4) (fC (.int 1))) (f2 ah (ae 9) (fC (.int 0)))) (aa (f2 ah (ae 9) (fC (.int 1))) af))) af)))))))))))))
noncomputable def ox:bH:=ai (Fq (fR (aC bZ 1 10) (aa (ae 0) af)) (gT 2 (jR [1,2]))) (ai (aM 3 (fR (aC bU 5 13) (aa (ae 1) (aa (ae 2) (aa (ae 0) (aa (fC (.int 2)) (aa (fC (.int 50)) af))))))) (ai (aM 4 (fL dS (aa (f2 ah (ae 1) (fC (.int 0))) af))) (ai (aM 5 (fR (aC cA 3 7) (aa (ae 1) (aa (ae 2) (aa (ae 0) af))))) (ai (aM 6 (fR (aC bA 2 5) (aa (ae 1) (aa (ae 2) af)))) (ai (aM 7 (aL (aa (fC (.str "rows")) (aa (aL (aa (aH (f2 ah (ae 2) (fC (.int 0))) (aY (ae 4)) av) (aa (f2 ah (ae 2) (fC (.int 1))) af))) (aa (fC (.bl false)) af))))) (ai (iY 8 (eV af)) (ai (iE (aG (f2 ah (ae 3) (fC (.int 0)))) (gN 9) (ai (fF (cQ (fR (aC fG 2 5) (aa (ae 6) (aa (ae 9) af)))) (ai (aM 10 (dA [none,some 4,some 9] (aG (f2 ah (ae 3) (fC (.int 1)))) (gN 0) (fB (f2 eS (aH (ae 0) av (aY (ae 1))) (aH (ae 2) av (aY (ae 1))))) (aH (ae 0) (aY (ae 1)) av))) (xV 8 eK (aa (f2 aW (ae 9) (aL (aa (fL aZ (aa (ae 10) af)) af))) af))) bC) (dC [9,10] bC))) (ai (aM 11 (fNew "Gather" ["name"] (aa (ae 5) af))) (ai (aM 12 (aL (aa (ae 6) (aa (f2 aW (f2 ah (ae 1) (fC (.int 1))) (aL (aa (aL (aa (ae 5) (aa (ae 7) af))) af))) af)))) (ai (fF (lT (cQ (fR (au 20) (aa (dL "view_form" [("Pair",(aC b8 3 3)),("Gather",(aC bz 3 6))] (ae 11) (aa (ae 1) (aa (ae 2) af))) (aa (ae 12) af))))) (aN (fC (.bl false))) bC) (ai (fF (xx (lT (cQ (fR (au 20) (aa (dL "words" [("Pair",(aC fu 1 1)),("Gather",(aC cI 1 1))] (ae 11) af) (aa (aL (aa (fC (.str "gather")) (aa (ae 5) af))) af))))) (fB (f2 rH (dL "got" [("Pair",(aC dH 3 3)),("Gather",(aC bI 3 5))] (ae 11) (aa (aL (aa (ae 1) (aa (ae 2) af))) (aa (aL (aa (aL af) (aa (f2 ah (ae 3) (fC (.int 1))) af))) af))) (aL af)))) (aN (fC (.bl false))) bC) (fA 8 (ai (fF (lT (cQ (fR (au 20) (aa (dL "got" [("Pair",(aC dH 3 3)),("Gather",(aC bI 3 5))] (ae 11) (aa (aL (aa (ae 1) (aa (ae 2) af))) (aa (ae 3) af))) (aa (fL aZ (aa (ae 8) af)) af))))) (aN (fC (.bl false))) bC) (ai (fF (xx (lT (cQ (fR (aC eW 4 13) (aa (ae 11) (aa (ae 1) (aa (ae 2) (aa (fR (aC cz 2 3) (aa (ae 0) (aa (fC (.int 2)) af))) af))))))) (lT (cQ (fR (au 20) (aa (dL "view_form" [("Pair",(aC b8 3 3)),("Gather",(aC bz 3 6))] (ae 11) (aa (ae 1) (aa (ae 2) af))) (aa (ae 12) af)))))) (aN (fC (.bl false))) bC) (aN (fR (au 20) (aa (dL "got" [("Pair",(aC dH 3 3)),("Gather",(aC bI 3 5))] (ae 11) (aa (aL (aa (ae 1) (aa (ae 2) af))) (aa (ae 3) af))) (aa (fL aZ (aa (ae 8) af)) af))))))))))))))))))
set_option hygiene false
local macro_rules|`(tactic|ktr_call $p $e)=>`(tactic|((with_reducible show $p);refine $e))
local macro_rules|`(tactic|walk_at "A")=>`(tactic|first|ktr_call (ny _ _ (ai _ _)) (zD ?_ ?_)|ktr_call (ny _ _ (dC _ _)) (zT _ ?_)|ktr_call (ny _ _ (fA _ _)) (Cy _ ?_)|ktr_call (ny _ _ (wq _ _)) (AO _ ?_)|ktr_call (ny _ _ (sd _ _)) (A1 _ ?_)|ktr_call (ny _ _ bC) DR|ktr_call (ny _ _ lJ) Ay|refine Dz ?_)
local macro_rules|`(tactic|walk_at "B")=>`(tactic|first|ktr_call (XS _ _ (fF _ _ _)) (Jn ?_ ?_ ?_)|ktr_call (XS _ _ (aN _)) (FK ?_)|ktr_call (XS _ _ (aM _ (dA _ _ _ _ _))) (OY (by first|assumption|exact pW rfl) rfl (by first|exact kF rfl|exact jF rfl) ?_ ?_)|ktr_call (XS _ _ (aM _ _)) (xs _ (by first|assumption|exact pW rfl) ?_)|ktr_call (XS _ _ bC) CU|ktr_call (XS _ _ bC) Et|ktr_call (XS _ _ (Fq _ _)) (En ?_ ?_)|ktr_call (XS _ _ lJ) C8|ktr_call (XS _ _ (iE _ _ _)) (E7 hp rfl ?_ ?_ ?_)|ktr_call (XS _ _ (iY _ (dA _ _ _ _ _))) (Ot (by first|assumption|exact pW rfl) rfl (by first|exact kF rfl|exact jF rfl) ?_ ?_)|ktr_call (XS _ _ (iY _ _)) (GR (by first|assumption|exact pW rfl) rfl (by first|exact Or.inl rfl|exact Or.inr rfl) ?_)|ktr_call (XS _ _ (wt _)) (DT (by first|assumption|exact pW rfl) rfl (by first|exact Or.inl rfl|exact Or.inr rfl))|ktr_call (XS _ _ (n8 _)) (z6 (by first|assumption|exact pW rfl) rfl (by first|exact Or.inl rfl|exact Or.inr rfl))|ktr_call (XS _ _ (oC _ _ _)) (Dv (xv _) ?_)|ktr_call (XS _ _ (AG _ _ _)) (GA hr.units (xv _) ?_ ?_)|ktr_call (XS _ _ (wQ _ _)) (FD (xv _) ?_)|ktr_call (XS _ _ (xV _ eK _)) (Il PySem.F.slot_list_append PySem.F.type_list_append kR Ac (xv _) ?_)|ktr_call (XS _ _ (rF _ _ _)) (Dd hr.units (xv _) ?_ ?_)|ktr_call (XS _ _ (lL _ _ _)) (Dw hr.units (xv _) ?_ ?_))
local macro_rules|`(tactic|walk_at "C")=>`(tactic|first|ktr_call (XT _ _ (fB (f2 eS _ _))) (gY (Cp hr.units) b7 ?_ ?_ (gE _))|ktr_call (XT _ _ (fB (f2 rH _ _))) (gY (DF hr.units) b7 ?_ ?_ (gE _))|ktr_call (XT _ _ (fB (f2 mE _ _))) (gY (BL hr.units) b7 ?_ ?_ (gE _))|ktr_call (XT _ _ (fB (f2 Dr _ _))) (gY tT dP ?_ ?_ (gE _))|ktr_call (XT _ _ (fB (f2 J2 _ _))) (gY G3 dP ?_ ?_ (gE _))|ktr_call (XT _ _ (fB (f2 Lb _ _))) (gY Hm dP ?_ ?_ (gE _))|ktr_call (XT _ _ (fB (f2 u6 _ _))) (gY (Do hr.units) b7 ?_ ?_ rfl)|ktr_call (XT _ _ (fB (f2 iH _ _))) (gY (tH hr.units) b7 ?_ ?_ rfl)|ktr_call (XT _ _ (fB (f2 gU _ _))) (gY (tI hr.units) b7 ?_ ?_ rfl)|ktr_call (XT _ _ (fB (lX Dr Dr _ _ _))) (z9 tT dP tT dP ?_ ?_ ?_)|ktr_call (XT _ _ (lT _)) (EE ?_)|ktr_call (XT _ _ (vN _ _)) (N9 ?_)|ktr_call (XT _ _ (xx _ _)) (N9 ?_)|ktr_call (XT _ _ (cQ _)) (Ae ?_)|ktr_call (XT _ _ (ky _ _)) (Cq _ ?_))
local macro_rules|`(tactic|walk_at "D")=>`(tactic|first|ktr_call (XW _ _ (vN _ _)) (Fm ?_ ?_)|ktr_call (XW _ _ (xx _ _)) (Ic ?_ ?_)|refine Bl ?_|refine Gq ?_)
local macro_rules|`(tactic|walk_at "F")=>`(tactic|first|ktr_call (XI _ _ _ (eX _)) (yq rfl (by walk_at "a") ?_)|ktr_call (XI _ _ _ (o9 _)) (xn rfl (by walk_at "a") ?_)|ktr_call (XI _ _ _ (oU _)) (Gf rfl (by walk_at "a") ?_)|ktr_call (XI _ _ _ (gb _)) (qV rfl (by walk_at "a") ?_)|ktr_call (XI _ _ _ (mI _)) (zE ?_)|ktr_call (XI _ _ _ (aG _)) (Ek ?_))
local macro_rules|`(tactic|walk_at "L")=>`(tactic|first|ktr_call (XN _ _ (eV _)) (G0 ?_)|ktr_call (XN _ _ (fL lI _)) (BJ rfl (by walk_at "a") TL ?_)|ktr_call (XN _ _ pL) Aj|ktr_call (XN _ _ (dA _ _ _ _ _)) (O6 rfl (by first|exact kF rfl|exact jF rfl) ?_ ?_))
local macro_rules|`(tactic|walk_at "M")=>`(tactic|first|with_reducible refine Em ?_|ktr_call (XE _ _ (ae _)) (xw _)|ktr_call (XE _ _ (fC (.int _))) Gm|ktr_call (XE _ _ (fC (.str _))) Fx|ktr_call (XE _ _ (fC (.bl _))) IH|ktr_call (XE _ _ (fC .non)) Fk|ktr_call (XE _ _ (fC (.int _))) (DW rfl (by walk_at "a"))|ktr_call (XE _ _ (f2 ah _ _)) (xi ?_ ?_)|ktr_call (XE _ _ (aL _)) (Fa ?_)|ktr_call (XE _ _ (eV _)) (EW ?_)|ktr_call (XE _ _ (f2 aW _ _)) (gS EZ b7 ?_ ?_)|ktr_call (XE _ _ (f2 uc _ _)) (gS Ie IC ?_ ?_)|ktr_call (XE _ _ (f2 lE _ _)) (gS Dx CA ?_ ?_)|ktr_call (XE _ _ (f2 cH _ _)) (gS Bo IT ?_ ?_)|ktr_call (XE _ _ (f2 bP _ _)) (gS Ip Ju ?_ ?_)|ktr_call (XE _ _ (f2 iK _ _)) (gS Jq Ji ?_ ?_)|ktr_call (XE _ _ (f2 u9 _ _)) (gS JG Im ?_ ?_)|ktr_call (XE _ _ (f2 oQ _ _)) (gS JI Jj ?_ ?_)|ktr_call (XE _ _ (f2 oK _ _)) (gS FH b7 ?_ ?_)|ktr_call (XE _ _ (f2 eS _ _)) (gZ (Cp hr.units) b7 ?_ ?_ (gE _))|ktr_call (XE _ _ (f2 rH _ _)) (gZ (DF hr.units) b7 ?_ ?_ (gE _))|ktr_call (XE _ _ (f2 mE _ _)) (gZ (BL hr.units) b7 ?_ ?_ (gE _))|ktr_call (XE _ _ (f2 Dr _ _)) (gZ tT dP ?_ ?_ (gE _))|ktr_call (XE _ _ (f2 J2 _ _)) (gZ G3 dP ?_ ?_ (gE _))|ktr_call (XE _ _ (f2 Lb _ _)) (gZ Hm dP ?_ ?_ (gE _))|ktr_call (XE _ _ (f2 u6 _ _)) (gZ (Do hr.units) b7 ?_ ?_ rfl)|ktr_call (XE _ _ (f2 iH _ _)) (gZ (tH hr.units) b7 ?_ ?_ rfl)|ktr_call (XE _ _ (f2 gU _ _)) (gZ (tI hr.units) b7 ?_ ?_ rfl)|ktr_call (XE _ _ (lX Dr Dr _ _ _)) (zP tT dP tT dP ?_ ?_ ?_)|ktr_call (XE _ _ (vx _)) (Fo ?_)|ktr_call (XE _ _ (lD _)) (EX ?_)|ktr_call (XE _ _ (jr _ _)) (EI ?_ ?_)|ktr_call (XE _ _ (Gr _ _)) (HQ ?_ ?_)|ktr_call (XE _ _ (La _ _ _)) (Jt ?_ ?_ ?_)|ktr_call (XE _ _ (f2 yg _ _)) (GL hr.units ?_ ?_ (fun _ _=>rfl))|ktr_call (XE _ _ (aH _ _ _)) (As ?_ ?_ ?_)|ktr_call (XE _ _ (f1 (x9 _ _) _)) (GD (by walk_at "a") ?_)|ktr_call (XE _ _ (dA _ _ _ _ _)) (xl rfl (by first|exact kF rfl|exact jF rfl) ?_ ?_)|ktr_call (XE _ _ (fR _ _)) (xU (by walk_at "a") (by first|exact gD|walk_at "a") hr ‹0› ?_)|ktr_call (XE _ _ (fNew _ _ _)) (FY (by walk_at "a") hr ‹0› rfl ?_)|ktr_call (XE _ _ (iR "int" _)) (o6 B8 rfl (by walk_at "a") rfl (by walk_at "a") TN ?_)|ktr_call (XE _ _ (iR "bool" _)) (o6 AR rfl (by walk_at "a") rfl (by walk_at "a") PyProof.Rows.boot_bool ?_)|ktr_call (XE _ _ (iR "str" _)) (o6 DG rfl (by walk_at "a") rfl (by walk_at "a") PyProof.Rows.boot_str ?_)|ktr_call (XE _ _ (iR "tuple" _)) (o6 xo rfl (by walk_at "a") rfl (by walk_at "a") TQ ?_)|ktr_call (XE _ _ (f1 (oO _) _)) (BE rfl rfl (by walk_at "a") ?_)|ktr_call (XE _ _ (f2 om _ _)) (A2 hr rfl (by walk_at "a") (by walk_at "a") rfl (by walk_at "a") ?_ rfl rfl (Or.inr (Or.inl rfl)) rfl rfl rfl (fun _ _ _=>rfl) rfl rfl rfl (by decide) rfl rfl rfl rfl rfl)|ktr_call (XE _ _ (fL dS _)) (ia A8 rfl (by walk_at "a") PySem.boot_len ?_)|ktr_call (XE _ _ (fL aZ _)) (gg vH rfl (by walk_at "a") TQ ?_)|ktr_call (XE _ _ (fL lI _)) (gg xt rfl (by walk_at "a") TL ?_)|ktr_call (XE _ _ (fL lN _)) (ia (wV rfl) rfl (by walk_at "a") PyProof.Rows.boot_max ?_)|ktr_call (XE _ _ (fL je _)) (ia (xh rfl) rfl (by walk_at "a") PyProof.Rows.boot_min ?_)|ktr_call (XE _ _ (fL vc _)) (gg ya rfl (by walk_at "a") TN ?_)|ktr_call (XE _ _ (fL uW _)) (ia (z5 rfl) rfl (by walk_at "a") PyProof.Rows.boot_all ?_)|ktr_call (XE _ _ (fL eB _)) (ia uD rfl (by walk_at "a") me ?_)|ktr_call (XE _ _ (fL jZ _)) (gg (xS rfl hr.units) rfl (by walk_at "a") PyProof.Rows.boot_dict ?_)|ktr_call (XE _ _ (fL qA _)) (ia Bg rfl (by walk_at "a") PySem.boot_len ?_)|ktr_call (XE _ _ (fL jt _)) (gg (xr rfl) rfl (by walk_at "a") TL ?_)|ktr_call (XE _ _ (fL lY _)) (gg (xB rfl) rfl (by walk_at "a") TL ?_)|ktr_call (XE _ _ (nU _ _ _)) (Ax hr.units ?_ ?_ ?_)|ktr_call (XE _ _ (dL _ _ _ (aa _ _))) (DL (by walk_at "a") hr ‹0› ?_ ?_)|ktr_call (XE _ _ (dL _ _ _ af)) (AH (by walk_at "a") hr ‹0› ?_))
local macro_rules|`(tactic|walk_at "d")=>`(tactic|((first|((with_reducible show ny _ _ _);walk_at "A")|((with_reducible show XS _ _ _);walk_at "B")|((with_reducible show XT _ _ _);walk_at "C")|((with_reducible show XW _ _ _);walk_at "D")|((with_reducible show XA _ _ _);first|ktr_call (XA _ _ (aa _ _)) (Cv ?_ ?_)|ktr_call (XA _ _ af) GW)|((with_reducible show XI _ _ _ _);walk_at "F")|((with_reducible show XG _ _ _);first|ktr_call (XG _ _ (gN _)) (B4 (by first|assumption|exact pW rfl) rfl (by first|exact Or.inl rfl|exact Or.inr rfl))|ktr_call (XG _ _ (gT _ _)) (EB rfl ?_))|((with_reducible show IR _ _ _);first|ktr_call (IR _ _ (jR (_ :: _))) (zK ?_ ?_)|ktr_call (IR _ _ (jR [])) Bu)|((with_reducible show XO _ _ _);first|ktr_call (XO _ _ av) BQ|ktr_call (XO _ _ (aY _)) (Bm ?_))|((with_reducible show Lx _ _ _);first|ktr_call (Lx _ _ bF) Ds|refine CM ?_)|((with_reducible show ra _ _ _ _ _ _ _ _ _);first|refine ⟨fun _ _ _ _ _ _=>⟨?_, ?_, ?_⟩⟩)|((with_reducible show XN _ _ _);walk_at "L")|((with_reducible show XE _ _ _);walk_at "M"))<;>walk_at "d"))
local macro_rules | `(tactic| walk_at "a") => `(tactic| first | assumption | exact q.2 | (replace q := q.1; walk_at "a"))
local macro_rules | `(tactic| walk_at "b") => `(tactic| (intro us hl _ _ _ _ _ _; first | (obtain ⟨a, rfl⟩ := Kt hl; rfl) | (obtain ⟨a, b, rfl⟩ := Jb hl; rfl) | (obtain ⟨a, b, c, rfl⟩ := KA hl; rfl) | (obtain ⟨a, b, c, d, rfl⟩ := KH hl; rfl) | (obtain ⟨a, b, c, d, e, rfl⟩ := Lz hl; rfl) | (obtain ⟨a, b, c, d, e, f, rfl⟩ := M7 hl; rfl)))
local macro_rules | `(tactic| walk_at "m") => `(tactic| ((· walk_at "a"); (· walk_at "b"); (· exact ⟨rfl, rfl, rfl, by decide +kernel, rfl, by decide +kernel, by decide +kernel⟩); first | refine fun nd f => ⟨fun cdv A outer s H E hr hp => ?_⟩ | intro nd f A outer s H E hr hp))
local macro_rules | `(tactic| ktn_call $m $b:ident) => `(tactic| ((first | (apply D8 $m; walk_at "m") | (apply O1 $m; walk_at "m") | (apply Of $m; walk_at "m")); unfold $b; walk_at "d"))
local macro_rules | `(tactic| walk_at "t") => `(tactic| first | exact Fj | (refine D7 (MethAt.mono (by walk_at "a") (by decide)) gD ?_; walk_at "t"))
section
variable[aB]{u:U}
noncomputable def Q0(u:U):Prop:=((((((((((((((((L1 u (L1 u (Zs u ["isinstance","str","bool","int","tuple","len","zip","all","range","max","min","dict","sorted","list","enumerate"]) [("_law_alike",top 46),("is_whole",top 7),("has_parts",top 8),("keys_rise",top 22),("kinds_of",top 9),("fits",top 19),("keeps",top 20),("is_row",top 21),("both_words",top 12),("both_numbers",top 11),("both",top 10),("shared_key",top 30),("seen_rows",top 33),("grouped",top 26),("depth_of",top 17),("names_of",top 16),("by_key",top 25),("standing",top 27),("_law_next",top 36),("_law_sorted",top 44),("_law_value",top 42),("_law_row",top 43),("_law_rows",top 45),("_law_in_both",top 49),("_law_key_of_both",top 51),("_law_again",top 57),("_law_cell_at",top 35),("_law_seed",top 37),("_law_fit",top 56),("_law_name",top 38)]) [("_law_gathered_name",top 54),("_law_values",top 52),("_law_gathered_tables",top 55),("_law_plain",top 39),("_law_kind",top 40),("_law_form",top 41),("_law_some_words",top 47),("_law_two_kinds",top 48),("_law_two_keys",top 50),("_law_gathered_forms",top 53)])/\∃t,u.mg "MOST_FIELDS"=some (.int 8 t))/\∃t,u.mg "MOST_WITHIN"=some (.int 3 t))/\D6 u.K "name" ["Gather"])/\uP u.P u.w u.K u.mg u.base 1 "Gather" ["self","name"] ["name"])/\Dm u "Pair" "got" "Pair.got" (inClass (top 29) 2))/\Dm u "Gather" "got" "Gather.got" (inClass (top 32) 3))/\Dm u "Pair" "view_form" "Pair.view_form" (inClass (top 29) 1))/\Dm u "Gather" "view_form" "Gather.view_form" (inClass (top 32) 2))/\Dm u "Pair" "put" "Pair.put" (inClass (top 29) 3))/\Dl u "sorted_by" (top 23))/\BG u.mg u.base u.cL u.T)/\∀H,aB.tab H->H u.T=some (.ext (nQ u.T ⟨61,34,61,56⟩ ((("sorted_by":Str)++".<locals>.")++"<lambda>"))))/\Dm u "Gather" "put" "Gather.put" (inClass (top 32) 4))/\Dm u "Pair" "words" "Pair.words" (inClass (top 29) 0))/\Dm u "Gather" "words" "Gather.words" (inClass (top 32) 1))
theorem j4(q:Q0 u):∀n:Nat,Ca u (0+n) "_law_alike" ["_law_found","_law_due"] (au n)
 |0=>by
  rw[au];exact Eg (by walk_at "a") (by walk_at "b")
 |n+1=>by
  have ih:=j4 q n;have c0:=ih;have a0:=jO n;rw[iB];apply D8 (k:=0+n) ["_law_one","_law_other"];walk_at "m";unfold bV;walk_at "d"
noncomputable def Q1(u:U):Prop:=(Q0 u/\Ca u 20 "_law_alike" ["_law_found","_law_due"] (au 20))/\Ar 2 (au 20)
theorem e1(q:Q0 u):Q1 u:=⟨⟨q,(j4 q 20)⟩,jO 20⟩
noncomputable def Q2(u:U):Prop:=Q1 u/\Ma u 1 "Pair" "got" ["self","forms","tables"] (aC dH 3 3)
theorem e2(q:Q1 u):Q2 u:=⟨q,(by ktn_call [] dH)⟩
noncomputable def Q3(u:U):Prop:=Q2 u/\Ca u 1 "is_whole" ["value"] (aC il 1 1)
theorem e3(q:Q2 u):Q3 u:=⟨q,(by ktn_call [] il)⟩
noncomputable def Q4(u:U):Prop:=Q3 u/\Ca u 1 "has_parts" ["value","many"] (aC gA 2 2)
theorem e4(q:Q3 u):Q4 u:=⟨q,(by ktn_call [] gA)⟩
noncomputable def Q5(u:U):Prop:=Q4 u/\Ca u 1 "keys_rise" ["many","table"] (aC kr 2 3)
theorem e5(q:Q4 u):Q5 u:=⟨q,(by ktn_call ["keys"] kr)⟩
noncomputable def Q6(u:U):Prop:=Q5 u/\Ca u 1 "kinds_of" ["form"] (aC dI 1 1)
theorem e6(q:Q5 u):Q6 u:=⟨q,(by ktn_call [] dI)⟩
theorem mL(q:Q6 u):∀n:Nat,Ca u (1+n) "fits" ["kind","value"] (dg n)/\Ca u (1+n) "keeps" ["form","table"] (cM n)/\Ca u (1+n) "is_row" ["kinds","row"] (bK n)
 |0=>by
  rw[dg];rw[cM];rw[bK];exact⟨Eg (by walk_at "a") (by walk_at "b"),Eg (by walk_at "a") (by walk_at "b"),Eg (by walk_at "a") (by walk_at "b")⟩
 |n+1=>by
  have ih:=mL q n;have c0:=ih.1;have a0:=rX n;have c1:=ih.2.1;have a1:=qe n;have c2:=ih.2.2;have a2:=oH n;rw[kn];rw[mM];rw[iF];refine⟨?_,?_,?_⟩
  ·apply D8 (k:=1+n) [];walk_at "m";unfold ue;walk_at "d"
  ·apply D8 (k:=1+n) ["kinds"];walk_at "m";unfold ui;walk_at "d"
  ·apply D8 (k:=1+n) [];walk_at "m";unfold mU;walk_at "d"
noncomputable def Q7(u:U):Prop:=(((((Q6 u/\Ca u 21 "fits" ["kind","value"] (dg 20))/\Ar 2 (dg 20))/\Ca u 21 "keeps" ["form","table"] (cM 20))/\Ar 2 (cM 20))/\Ca u 21 "is_row" ["kinds","row"] (bK 20))/\Ar 2 (bK 20)
theorem e7(q:Q6 u):Q7 u:=⟨⟨⟨⟨⟨⟨q,(mL q 20).1⟩,rX 20⟩,(mL q 20).2.1⟩,qe 20⟩,(mL q 20).2.2⟩,oH 20⟩
noncomputable def Q8(u:U):Prop:=Q7 u/\Ca u 1 "both_words" ["one","other"] (aC fg 2 3)
theorem e8(q:Q7 u):Q8 u:=⟨q,(by ktn_call ["words"] fg)⟩
noncomputable def Q9(u:U):Prop:=Q8 u/\Ca u 1 "both_numbers" ["one","other"] (aC d7 2 4)
theorem e9(q:Q8 u):Q9 u:=⟨q,(by ktn_call ["low","high"] d7)⟩
noncomputable def Mg(u:U):Prop:=Q9 u/\Ca u 2 "both" ["one","other"] (aC mZ 2 2)
theorem e10(q:Q9 u):Mg u:=⟨q,(by ktn_call [] mZ)⟩
noncomputable def MU(u:U):Prop:=Mg u/\Ca u 3 "shared_key" ["one","other"] (aC eG 2 3)
theorem NK(q:Mg u):MU u:=⟨q,(by ktn_call ["kinds"] eG)⟩
noncomputable def NN(u:U):Prop:=MU u/\Ca u 22 "seen_rows" ["forms","table","seen"] (aC cG 3 5)
theorem Oy(q:MU u):NN u:=⟨q,(by ktn_call ["key","kinds"] cG)⟩
noncomputable def N0(u:U):Prop:=NN u/\Ca u 1 "grouped" ["many","rows"] (aC iO 2 4)
theorem Ow(q:NN u):N0 u:=⟨q,(by ktn_call ["groups","row"] iO)⟩
noncomputable def NZ(u:U):Prop:=N0 u/\Ma u 23 "Gather" "got" ["self","forms","tables"] (aC bI 3 5)
theorem Ol(q:N0 u):NZ u:=⟨q,(by ktn_call ["many","within"] bI)⟩
noncomputable def LO(u:U):Prop:=NZ u/\Ma u 1 "Pair" "view_form" ["self","one","other"] (aC b8 3 3)
theorem Pp(q:NZ u):LO u:=⟨q,(by ktn_call [] b8)⟩
theorem mS(q:LO u):∀n:Nat,Ca u (1+n) "depth_of" ["form"] (bu n)
 |0=>by
  rw[bu];exact Eg (by walk_at "a") (by walk_at "b")
 |n+1=>by
  have ih:=mS q n;have c0:=ih;have a0:=lF n;rw[eO];apply D8 (k:=1+n) [];walk_at "m";unfold ip;walk_at "d"
noncomputable def MX(u:U):Prop:=(LO u/\Ca u 21 "depth_of" ["form"] (bu 20))/\Ar 1 (bu 20)
theorem Pk(q:LO u):MX u:=⟨⟨q,(mS q 20)⟩,lF 20⟩
noncomputable def MT(u:U):Prop:=MX u/\Ca u 1 "names_of" ["form"] (aC fY 1 1)
theorem Pl(q:MX u):MT u:=⟨q,(by ktn_call [] fY)⟩
noncomputable def MG(u:U):Prop:=MT u/\Ma u 22 "Gather" "view_form" ["self","one","other"] (aC bz 3 6)
theorem Oe(q:MT u):MG u:=⟨q,(by ktn_call ["many","key","inner"] bz)⟩
noncomputable def ND(u:U):Prop:=MG u/\Ma u 1 "Pair" "put" ["self","forms","tables","view"] (aC fS 4 4)
theorem OS(q:MG u):ND u:=⟨q,(by ktn_call [] fS)⟩
noncomputable def Np(u:U):Prop:=ND u/\Ca u 1 "sorted_by" ["many","rows"] (aC dB 2 2)
theorem e20(q:ND u):Np u:=⟨q,(by ktn_call [] dB)⟩
noncomputable def Ml(u:U):Prop:=Np u/\Ca u 1 "by_key" ["many","rows"] (aC jf 2 2)
theorem Ov(q:Np u):Ml u:=⟨q,(by ktn_call [] jf)⟩
noncomputable def MA(u:U):Prop:=Ml u/\Ca u 2 "standing" ["many","rows","others"] (aC fJ 3 4)
theorem Nv(q:Ml u):MA u:=⟨q,(by ktn_call ["taken"] fJ)⟩
noncomputable def MH(u:U):Prop:=MA u/\Ma u 23 "Gather" "put" ["self","forms","tables","view"] (aC cU 4 9)
theorem NB(q:MA u):MH u:=⟨q,(by ktn_call ["many","one","gone","rows","row"] cU)⟩
noncomputable def Mr(u:U):Prop:=MH u/\Ca u 1 "_law_next" ["_law_x"] (aC bc 1 1)
theorem OA(q:MH u):Mr u:=⟨q,(by ktn_call [] bc)⟩
noncomputable def LK(u:U):Prop:=Mr u/\Ca u 1 "_law_sorted" ["_law_many","_law_rows_here"] (aC bM 2 4)
theorem Px(q:Mr u):LK u:=⟨q,(by ktn_call ["_law_found","_law_row_here"] bM)⟩
theorem fj(q:LK u):∀n:Nat,Ca u (1+n) "_law_value" ["_law_kind_here","_law_x"] (aA n)/\Ca u (1+n) "_law_row" ["_law_form_here","_law_many","_law_head","_law_tail"] (bb n)/\Ca u (1+n) "_law_rows" ["_law_form_here","_law_x","_law_many"] (aQ n)
 |0=>by
  rw[aA];rw[bb];rw[aQ];exact⟨Eg (by walk_at "a") (by walk_at "b"),Eg (by walk_at "a") (by walk_at "b"),Eg (by walk_at "a") (by walk_at "b")⟩
 |n+1=>by
  have ih:=fj q n;have c0:=ih.1;have a0:=jN n;have c1:=ih.2.1;have a1:=lG n;have c2:=ih.2.2;have a2:=kj n;rw[cR];rw[gK];rw[fQ];refine⟨?_,?_,?_⟩
  ·apply D8 (k:=1+n) [];walk_at "m";unfold eD;walk_at "d"
  ·apply D8 (k:=1+n) ["_law_row_here","_law_name_here","_law_kind_here"];walk_at "m";unfold jv;walk_at "d"
  ·apply D8 (k:=1+n) ["_law_rows_here","_law_k"];walk_at "m";unfold iw;walk_at "d"
noncomputable def NQ(u:U):Prop:=(((((LK u/\Ca u 21 "_law_value" ["_law_kind_here","_law_x"] (aA 20))/\Ar 2 (aA 20))/\Ca u 21 "_law_row" ["_law_form_here","_law_many","_law_head","_law_tail"] (bb 20))/\Ar 4 (bb 20))/\Ca u 21 "_law_rows" ["_law_form_here","_law_x","_law_many"] (aQ 20))/\Ar 3 (aQ 20)
theorem Oo(q:LK u):NQ u:=⟨⟨⟨⟨⟨⟨q,(fj q 20).1⟩,jN 20⟩,(fj q 20).2.1⟩,lG 20⟩,(fj q 20).2.2⟩,kj 20⟩
noncomputable def Ny(u:U):Prop:=NQ u/\Ca u 1 "_law_in_both" ["_law_one","_law_other"] (aC dq 2 2)
theorem OX(q:NQ u):Ny u:=⟨q,(by ktn_call [] dq)⟩
noncomputable def NM(u:U):Prop:=Ny u/\Ca u 2 "_law_key_of_both" ["_law_one","_law_other"] (aC bA 2 5)
theorem Pb(q:Ny u):NM u:=⟨q,(by ktn_call ["_law_found","_law_field","_law_more"] bA)⟩
noncomputable def MF(u:U):Prop:=NM u/\Ta u 22 "view_form" ["self","one","other"] [("Pair",(aC b8 3 3)),("Gather",(aC bz 3 6))]
theorem O8(q:NM u):MF u:=⟨q,(by walk_at "t")⟩
noncomputable def MQ(u:U):Prop:=MF u/\Ta u 23 "put" ["self","forms","tables","view"] [("Pair",(aC fS 4 4)),("Gather",(aC cU 4 9))]
theorem Pm(q:MF u):MQ u:=⟨q,(by walk_at "t")⟩
noncomputable def MB(u:U):Prop:=MQ u/\Ta u 23 "got" ["self","forms","tables"] [("Pair",(aC dH 3 3)),("Gather",(aC bI 3 5))]
theorem Od(q:MQ u):MB u:=⟨q,(by walk_at "t")⟩
noncomputable def NE(u:U):Prop:=MB u/\Ca u 24 "_law_again" ["_law_pair","_law_one","_law_other","_law_x"] (aC eW 4 13)
theorem Ox(q:MB u):NE u:=⟨q,(by ktn_call ["_law_many","_law_first","_law_second","_law_inner","_law_form_here","_law_view","_law_last","_law_row_here","_law_due"] eW)⟩
noncomputable def MZ(u:U):Prop:=NE u/\Ca u 1 "_law_cell_at" ["_law_script","_law_k"] (aC cy 2 2)
theorem OH(q:NE u):MZ u:=⟨q,(by ktn_call [] cy)⟩
noncomputable def ML(u:U):Prop:=MZ u/\Ca u 2 "_law_seed" ["_law_script","_law_k"] (aC cz 2 3)
theorem OW(q:MZ u):ML u:=⟨q,(by ktn_call ["_law_x"] cz)⟩
noncomputable def NT(u:U):Prop:=ML u/\Ma u 1 "Pair" "words" ["self"] (aC fu 1 1)
theorem Ou(q:ML u):NT u:=⟨q,(by ktn_call [] fu)⟩
noncomputable def Mf(u:U):Prop:=NT u/\Ma u 1 "Gather" "words" ["self"] (aC cI 1 1)
theorem Pj(q:NT u):Mf u:=⟨q,(by ktn_call [] cI)⟩
noncomputable def NF(u:U):Prop:=Mf u/\Ca u 1 "_law_fit" ["_law_fields","_law_key"] (aC fG 2 5)
theorem OD(q:Mf u):NF u:=⟨q,(by ktn_call ["_law_field","_law_value_here","_law_kind_here"] fG)⟩
noncomputable def Mj(u:U):Prop:=NF u/\Ca u 1 "_law_name" ["_law_base","_law_k"] (aC bL 2 7)
theorem Py(q:NF u):Mj u:=⟨q,(by ktn_call ["_law_letters","_law_size","_law_name_here","_law_j","_law_step"] bL)⟩
noncomputable def MN(u:U):Prop:=Mj u/\Ca u 3 "_law_gathered_name" ["_law_one","_law_other","_law_script"] (aC cA 3 7)
theorem Og(q:Mj u):MN u:=⟨q,(by ktn_call ["_law_x","_law_base","_law_taken","_law_some"] cA)⟩
noncomputable def MY(u:U):Prop:=MN u/\Ca u 22 "_law_values" ["_law_fields","_law_x"] (aC ce 2 2)
theorem O3(q:MN u):MY u:=⟨q,(by ktn_call [] ce)⟩
noncomputable def Nn(u:U):Prop:=MY u/\Ca u 23 "_law_gathered_tables" ["_law_one","_law_other","_law_script","_law_start","_law_most"] (aC bU 5 13)
theorem OG(q:MY u):Nn u:=⟨q,(by ktn_call ["_law_both_key","_law_many","_law_rows_here","_law_k","_law_x","_law_way","_law_y","_law_key"] bU)⟩
noncomputable def L8(u:U):Prop:=Nn u/\Ca u 1 "_law_plain" ["_law_x"] (aC dG 1 8)
theorem O0(q:Nn u):L8 u:=⟨q,(by ktn_call ["_law_low","_law_letters","_law_one","_law_other","_law_some","_law_kept","_law_k"] dG)⟩
theorem iG(q:L8 u):∀n:Nat,Ca u (1+n) "_law_kind" ["_law_x","_law_base","_law_deep"] (bi n)/\Ca u (1+n) "_law_form" ["_law_x","_law_base","_law_start","_law_many","_law_more","_law_deep"] (aP n)
 |0=>by
  rw[bi];rw[aP];exact⟨Eg (by walk_at "a") (by walk_at "b"),Eg (by walk_at "a") (by walk_at "b")⟩
 |n+1=>by
  have ih:=iG q n;have c0:=ih.1;have a0:=jX n;have c1:=ih.2;have a1:=ku n;rw[eE];rw[fX];refine⟨?_,?_⟩
  ·apply D8 (k:=1+n) ["_law_inner"];walk_at "m";unfold gB;walk_at "d"
  ·apply D8 (k:=1+n) ["_law_key","_law_rest","_law_k"];walk_at "m";unfold iz;walk_at "d"
noncomputable def Nk(u:U):Prop:=(((L8 u/\Ca u 21 "_law_kind" ["_law_x","_law_base","_law_deep"] (bi 20))/\Ar 3 (bi 20))/\Ca u 21 "_law_form" ["_law_x","_law_base","_law_start","_law_many","_law_more","_law_deep"] (aP 20))/\Ar 6 (aP 20)
theorem OB(q:L8 u):Nk u:=⟨⟨⟨⟨q,(iG q 20).1⟩,jX 20⟩,(iG q 20).2⟩,ku 20⟩
noncomputable def Mw(u:U):Prop:=Nk u/\Ca u 1 "_law_some_words" ["_law_x"] (aC cT 1 6)
theorem OO(q:Nk u):Mw u:=⟨q,(by ktn_call ["_law_letters","_law_one","_law_other","_law_kept","_law_word"] cT)⟩
noncomputable def MC(u:U):Prop:=Mw u/\Ca u 2 "_law_two_kinds" ["_law_x"] (aC dh 1 9)
theorem OQ(q:Mw u):MC u:=⟨q,(by ktn_call ["_law_y","_law_low","_law_wide","_law_far","_law_one","_law_other","_law_some","_law_spare"] dh)⟩
noncomputable def NS(u:U):Prop:=MC u/\Ca u 3 "_law_two_keys" ["_law_x","_law_base","_law_many"] (aC dM 3 7)
theorem O5(q:MC u):NS u:=⟨q,(by ktn_call ["_law_one","_law_other","_law_k","_law_kinds"] dM)⟩
noncomputable def Mz(u:U):Prop:=NS u/\Ca u 22 "_law_gathered_forms" ["_law_script"] (aC bZ 1 10)
theorem O7(q:NS u):Mz u:=⟨q,(by ktn_call ["_law_x","_law_base","_law_many","_law_keys","_law_deep","_law_more","_law_first","_law_wide","_law_inner"] bZ)⟩
noncomputable def N3(u:U):Prop:=Mz u/\Ta u 1 "words" ["self"] [("Pair",(aC fu 1 1)),("Gather",(aC cI 1 1))]
theorem O9(q:Mz u):N3 u:=⟨q,(by walk_at "t")⟩
theorem Lp{f:T5}{fd:UM}(F:uQ u.K "law" "law" (top 58) f fd)(q:N3 u):ir u.P u.w u.K u.mg u.base (j3 u.P u.w) 25 f fd ["_law_script"] (zV u.K 1 (aC ox 1 13)):=by
 refine OC ["_law_one","_law_other","_law_tables","_law_many","_law_name_here","_law_key","_law_inner","_law_due","_law_row_here","_law_within","_law_pair","_law_told"] F ?_ ?_
 ·exact⟨rfl,rfl,rfl,by decide +kernel,rfl,by decide +kernel,by decide +kernel⟩
 refine λnd=>⟨λcdv A outer s H E hr hp=>?_⟩
 unfold ox;walk_at "d"
set_option hygiene true
variable{P:Ua}{w:T9}{K:SH}{mg:cB}{base:Uc}
theorem vn{C f:T5}{fd:UM}(h1:clsAt K "Gather" C)(hM:Mk K C f)(cl:wB K C)(na:∀g∈(["name"]:ax),jL K C g)(F:uQ K "__init__" "Gather.__init__" iC f fd)(b:Binds K fd ["self","name"] [])(hmg:mg "Gather"=some (.ref C)):uP P w K mg base 1 "Gather" ["self","name"] ["name"]:=
 Bf (k:=0) h1 hM cl na F b hmg lP rfl (by decide +kernel) (by decide) λcdv A outer s H E=>(zL rfl (pv 0) (pv 1) rfl)
end
theorem all_mk{l:Tf}{w:T9}{K:SH}{h:Uc}{mg:cB}{fa:T5}(X:K.In h)(G:h.Ns Ug mg)(hfa:mg "law"=some (.ref fa)){f1 f2:T5}
  (ac0:S8 K Ug "Gather"=some (some (.ref Cl0)))
  (ac1:S8 K Ug "Pair"=some (some (.ref Cl1)))
  (a0:SM K (.ref Cl1) "got"=some (some (.ref f0)))
  (i0:SU K (.ref f0)=true)
  (l0:Lk K f0 "got" "Pair.got" (inClass (top 29) 2) oc0 od0 kV0 dc0 pm0 an0 cd0 ct0 sl0)
  (c0:S7 K cd0 "Pair.got"=true)
  (k0:S0 K (.ref f0)=true)
  (a1:SM K (.ref Cl0) "got"=some (some (.ref f1)))
  (i1:SU K (.ref f1)=true)
  (l1:Lk K f1 "got" "Gather.got" (inClass (top 32) 3) oc1 od1 kV1 dc1 pm1 an1 cd1 ct1 sl1)
  (c1:S7 K cd1 "Gather.got"=true)
  (k1:S0 K (.ref f1)=true)
  (a2:SM K (.ref Cl1) "view_form"=some (some (.ref f2)))
  (i2:SU K (.ref f2)=true)
  (l2:Lk K f2 "view_form" "Pair.view_form" (inClass (top 29) 1) oc2 od2 kV2 dc2 pm2 an2 cd2 ct2 sl2)
  (c2:S7 K cd2 "Pair.view_form"=true)
  (k2:S0 K (.ref f2)=true)
  (a3:SM K (.ref Cl0) "view_form"=some (some (.ref f3)))
  (i3:SU K (.ref f3)=true)
  (l3:Lk K f3 "view_form" "Gather.view_form" (inClass (top 32) 2) oc3 od3 kV3 dc3 pm3 an3 cd3 ct3 sl3)
  (c3:S7 K cd3 "Gather.view_form"=true)
  (k3:S0 K (.ref f3)=true)
  (a4:SM K (.ref Cl1) "put"=some (some (.ref f4)))
  (i4:SU K (.ref f4)=true)
  (l4:Lk K f4 "put" "Pair.put" (inClass (top 29) 3) oc4 od4 kV4 dc4 pm4 an4 cd4 ct4 sl4)
  (c4:S7 K cd4 "Pair.put"=true)
  (k4:S0 K (.ref f4)=true)
  (a5:S8 K Ug "sorted_by"=some (some (.ref f5)))
  (l5:Lk K f5 "sorted_by" "sorted_by" (top 23) oc5 od5 kV5 dc5 pm5 an5 cd5 ct5 sl5)
  (c5:S7 K cd5 "sorted_by"=true)
  (k5:S0 K (.ref f5)=true)
  (a6:SM K (.ref Cl0) "put"=some (some (.ref f6)))
  (i6:SU K (.ref f6)=true)
  (l6:Lk K f6 "put" "Gather.put" (inClass (top 32) 4) oc6 od6 kV6 dc6 pm6 an6 cd6 ct6 sl6)
  (c6:S7 K cd6 "Gather.put"=true)
  (k6:S0 K (.ref f6)=true)
  (a7:SM K (.ref Cl1) "words"=some (some (.ref f7)))
  (i7:SU K (.ref f7)=true)
  (l7:Lk K f7 "words" "Pair.words" (inClass (top 29) 0) oc7 od7 kV7 dc7 pm7 an7 cd7 ct7 sl7)
  (c7:S7 K cd7 "Pair.words"=true)
  (k7:S0 K (.ref f7)=true)
  (a8:SM K (.ref Cl0) "words"=some (some (.ref f8)))
  (i8:SU K (.ref f8)=true)
  (l8:Lk K f8 "words" "Gather.words" (inClass (top 32) 1) oc8 od8 kV8 dc8 pm8 an8 cd8 ct8 sl8)
  (c8:S7 K cd8 "Gather.words"=true)
  (k8:S0 K (.ref f8)=true)
  (a9:S8 K Ug "law"=some (some (.ref f9)))
  (l9:Lk K f9 "law" "law" (top 58) oc9 od9 kV9 dc9 pm9 an9 cd9 ct9 sl9)
  (c9:S7 K cd9 "law"=true)
  (k9:S0 K (.ref f9)=true)
  (a10:SM K (.ref Cl0) "__init__"=some (some (.ref f10)))
  (i10:SU K (.ref f10)=true)
  (l10:Lk K f10 "__init__" "Gather.__init__" (inClass (top 32) 0) oc10 od10 kV10 dc10 pm10 an10 cd10 ct10 sl10)
  (c10:S7 K cd10 "Gather.__init__"=true)
  (k10:S0 K (.ref f10)=true)
  (p0:SK K Cl0 Str.empty=true)
  (q0:SL K Cl0=true)
  (r0:SV K Cl0=true)
  (s0:SM K (.ref Cl0) "__setattr__"=some (some (.builtin "object.__setattr__")))
  (n0_0:SM K (.ref Cl0) "name"=some none)
  (m0:SY K Cl0=true)
  (kp0:S0 K (.ref Cl0)=true)
  (p1:SK K Cl1 Str.empty=true)
  (q1:SL K Cl1=true)
  (r1:SV K Cl1=true)
  (s1:SM K (.ref Cl1) "__setattr__"=some (some (.builtin "object.__setattr__")))
  (dd0:KDs K [("_law_alike",top 46),("is_whole",top 7),("has_parts",top 8),("keys_rise",top 22),("kinds_of",top 9),("fits",top 19),("keeps",top 20),("is_row",top 21),("both_words",top 12),("both_numbers",top 11),("both",top 10),("shared_key",top 30),("seen_rows",top 33),("grouped",top 26),("depth_of",top 17),("names_of",top 16),("by_key",top 25),("standing",top 27),("_law_next",top 36),("_law_sorted",top 44),("_law_value",top 42),("_law_row",top 43),("_law_rows",top 45),("_law_in_both",top 49),("_law_key_of_both",top 51),("_law_again",top 57),("_law_cell_at",top 35),("_law_seed",top 37),("_law_fit",top 56),("_law_name",top 38)])
  (dd1:KDs K [("_law_gathered_name",top 54),("_law_values",top 52),("_law_gathered_tables",top 55),("_law_plain",top 39),("_law_kind",top 40),("_law_form",top 41),("_law_some_words",top 47),("_law_two_kinds",top 48),("_law_two_keys",top 50),("_law_gathered_forms",top 53)])
  (zz:KZs K ["isinstance","str","bool","int","tuple","len","zip","all","range","max","min","dict","sorted","list","enumerate"])
  (ke0:S8 K Ug "MOST_FIELDS"=some (some (.int 8 tk0)))
  (ke1:S8 K Ug "MOST_WITHIN"=some (some (.int 3 tk1)))
  (lc:cd5=.ref cL)
  (lh:Ti K cL T=true)
  (lt:K.lookup T=none):
  (∃c,Ti K c T=true)/\K.lookup T=none/\∃fd:UM,(∀(s:T8)(v:T2),UN s fd ⟨[v],[]⟩ [("_law_script",v)])/\∀base:Uc,K.In base->base.Ns Ug mg->wR mg base->ir l.prog w K mg base (j3 l.prog w) 25 fa fd ["_law_script"] (@zV (ux T ⟨61,34,61,56⟩ ((("sorted_by":Str)++".<locals>.")++"<lambda>")) K 1 (aC ox 1 13)):=by
 letI:aB:=ux T ⟨61,34,61,56⟩ ((("sorted_by":Str)++".<locals>.")++"<lambda>")
 have e:=hfa.symm.trans (Th X G a9);cases e;have c_MOST_FIELDS:∃t,mg "MOST_FIELDS"=some (.int 8 t):=⟨_,Th X G ke0⟩
 have c_MOST_WITHIN:∃t,mg "MOST_WITHIN"=some (.int 3 t):=⟨_,Th X G ke1⟩
 have F0:=gO (st:=(inClass (top 29) 2)) l0 c0 k0;have F1:=gO (st:=(inClass (top 32) 3)) l1 c1 k1;have F2:=gO (st:=(inClass (top 29) 1)) l2 c2 k2;have F3:=gO (st:=(inClass (top 32) 2)) l3 c3 k3;have F4:=gO (st:=(inClass (top 29) 3)) l4 c4 k4;have F5:=gO (st:=(top 23)) l5 c5 k5;have F6:=gO (st:=(inClass (top 32) 4)) l6 c6 k6;have F7:=gO (st:=(inClass (top 29) 0)) l7 c7 k7;have F8:=gO (st:=(inClass (top 32) 1)) l8 c8 k8;have F9:=gO (st:=(top 58)) l9 c9 k9;have F10:=gO (st:=(inClass (top 32) 0)) l10 c10 k10;have b10:=F10.binds (ps:=["self","name"]) λ_ _ _ _ _ _ us hl=>by obtain⟨u0,u1,rfl⟩:=Jb hl;rfl
 have cl0:wB K Cl0:=⟨p0,q0,r0,s0⟩
 have cl1:wB K Cl1:=⟨p1,q1,r1,s1⟩
 have qa:D6 K "name" ["Gather"]:=by
  intro c hc C hC;simp only[Ri,RP,or_false]at hc;rcases hc with rfl
  ·cases tN hC ac0;exact⟨cl0,n0_0⟩
 have lC:rC K f5 (.ref cL):=⟨_,_,_,_,l5,lc⟩
 refine⟨⟨cL,lh⟩,lt,S6 "law" "law" (jx (top 58)) (dF (top 58)) (aw (top 58)) .none kV9 dc9 pm9 an9 cd9 ct9,λs v=>.of_eq rfl,λbase kb _ bm=>?_⟩;have CH:=vn (P:=l.prog) (w:=w) (base:=base) ac0 ⟨m0,a10,i10,kp0⟩ cl0 (by intro g hg;simp only[Ri,RP,or_false]at hg;rcases hg with rfl;exact n0_0) F10 b10 (Th X G ac0)
 let u:U:=⟨l.prog,w,K,mg,base,cL,T⟩
 have q0:Q0 u:=⟨⟨⟨⟨⟨⟨⟨⟨⟨⟨⟨⟨⟨⟨⟨(L1.of X G (L1.of X G (Zs.of X G zz) dd0) dd1),c_MOST_FIELDS⟩,c_MOST_WITHIN⟩,qa⟩,CH⟩,⟨_,_,_,ac1,cl1,⟨a0,i0,k0⟩,F0⟩⟩,⟨_,_,_,ac0,cl0,⟨a1,i1,k1⟩,F1⟩⟩,⟨_,_,_,ac1,cl1,⟨a2,i2,k2⟩,F2⟩⟩,⟨_,_,_,ac0,cl0,⟨a3,i3,k3⟩,F3⟩⟩,⟨_,_,_,ac1,cl1,⟨a4,i4,k4⟩,F4⟩⟩,⟨_,_,F5,Th X G a5,lC⟩⟩,(FZ kb lh bm)⟩,(λ_ z=>z)⟩,⟨_,_,_,ac0,cl0,⟨a6,i6,k6⟩,F6⟩⟩,⟨_,_,_,ac1,cl1,⟨a7,i7,k7⟩,F7⟩⟩,⟨_,_,_,ac0,cl0,⟨a8,i8,k8⟩,F8⟩⟩
 exact Lp (u:=u) F9 (O9 (O7 (O5 (OQ (OO (OB (O0 (OG (O3 (Og (Py (OD (Pj (Ou (OW (OH (Ox (Od (Pm (O8 (Pb (OX (Oo (Px (OA (NB (Nv (Ov (e20 (OS (Oe (Pl (Pk (Pp (Ol (Ow (Oy (NK (e10 (e9 (e8 (e7 (e6 (e5 (e4 (e3 (e2 (e1 q0))))))))))))))))))))))))))))))))))))))))))))))))
theorem walk{l:Tf}{q:Ua}{loose:ax}{XP:(cB)->Uc->Prop}{YP:T9->Uc->Prop}{d:DefRec}{K:Params->SH}{T:T5}(hn:l.most=some 63)(hdf:d.params.defaults=[])
  (hY:∀(w:T9)(h:Uc),YP w h->(K w.params).In h/\h.get? T=some (Te #[]))
  (F:∀ (w:T9) (mg:cB) (fa:T5) (h:Uc),(K w.params).In h->h.Ns Ug mg->mg d.name=some (.ref fa) ->
   (∃c,Ti (K w.params) c T=true)/\(K w.params).lookup T=none/\∃fd:UM,(∀(s:T8)(u:T2),UN s fd ⟨[u],[]⟩ [("_law_script",u)])/\∀base:Uc,(K w.params).In base->base.Ns Ug mg->wR mg base->ir l.prog w (K w.params) mg base (j3 l.prog w) 25 fa fd ["_law_script"] (@zV (ux T ⟨61,34,61,56⟩ ((("sorted_by":Str)++".<locals>.")++"<lambda>")) (K w.params) 1 (aC ox 1 13)))
  (math:∀ns:List Int,ns.length<=63->aC ox 1 13 [.lst (ns.map .int)]=.ok (.bl true)):PySem.W.WalkO q loose XP YP l.row.toRowW d [] (λf vs=>PySem.call f vs):=
 Ef (n:=63) (k:=25) (x:="_law_script") (T:=T) (CX:=λw=>j3 l.prog w) (sp:=λw=>@zV (ux T ⟨61,34,61,56⟩ ((("sorted_by":Str)++".<locals>.")++"<lambda>")) (K w.params) 1 (aC ox 1 13)) hn (by decide) hdf ⟨rfl,by decide,by decide⟩ hY F
  (λw H a ns hl hT hS=>⟨[],[.lst (ns.map .int)],rfl,⟨hT,λa h=>nomatch h⟩,by rw[Fu];exact aX.mpr ⟨.ref a,[],rfl,bX.mpr ⟨a,_,rfl,hS,sq ns⟩,cn.mpr rfl⟩,by rw[math ns hl];exact λv H' sm d=>⟨ju.mp d,sm⟩⟩) λ_ _ _ _ _ z=>by obtain⟨_,_,_,_,_,_,_,_,_,_,_,_,_,z⟩:=z;exact z
end Tk53
namespace Tk53
open PySem PySem.Spec L2 TG TD T4
local macro_rules|`(‹$x›)=>do if x.raw.isOfKind `num then Lean.Macro.throwUnsupported else `(some (S.val $x))
local macro_rules
 |`(tactic| simp! only[$xs,*])=>`(tactic| simp only[cJ,tP,qB,sG,gQ,eA,ge_0,AZ,nT,zS,nz,kW,oa,nK,A6,A7,Au,zN,Az,nR,oj,tQ,iQ,kY,nN,kE,tL,nq,nG,kA,nS,jd,ou,iX,jc,hJ,hU,n9,kN,h7,kJ,iZ,lr,kG,gX,li,ji,lR,ly,jn,iA,kZ,kM,AX,sj,AC,zH,Ai,m9,kU,nu,lj,kX,Ab,zv,R7,R8,P6,Qq,QE,QT,K0,env0,List.replicate,Ry,Qa,Rq,Nat.reduceAdd,Nat.reduceSub,P5,Qv,mY,nJ,rV,nH,ot,nD,ic,n5,su,rS,tD,mX,jl,ja,iU,jb,jg,iT,mO,sU,si,rW,sE,rE,jk,i5,fO,fH,nV,g9,fN,fV,fM,jG,jC,fT,fW,iS,i9,lg,kK,jh,lu,nF,oh,kQ,kO,gN,if_true,if_false,R9,Sa,QB,$xs,*])
theorem gm(j:Int)(h:0<j:=by decide):∀i:Int,bP (.int i) (.int j)=some (.int (i%j)):=λi=>d9 (i:=i) h
theorem gd(j:Int)(h:0<j:=by decide)(h':j<10^200:=by decide):∀i:Int,cH (.int i) (.int j)=some (.int (i/j)):=λi=>ki (i:=i) h h'
inductive Kd where
 |num (lo hi:Int)|wrd (ws:ax)
noncomputable def Kd.d:Kd->D
 |.num lo hi=>.tup [.str "number",.int lo,.int hi]
 |.wrd ws=>.tup [.str "word",.tup (ws.map .str)]
noncomputable def Kd.gd:Kd->Prop
 |.num lo hi=>lo<=hi
 |.wrd ws=>ws≠[]/\ws.length<=100
noncomputable def Kd.b:Kd->Bool
 |.num _ _=>true
 |.wrd _=>false
noncomputable abbrev KL:=List (Str×Kd)
noncomputable def kf(p:Str×Kd):D:=.tup [.str p.1,p.2.d]
noncomputable abbrev fr(k:KL)(r:dZ):D:=.tup [.tup (k.map kf),.tup (r.map fld)]
noncomputable def toD(p:Str×Kd):Str×D:=(p.1,p.2.d)
theorem lZ(k:KL):k.map kf=(k.map toD).map fld:=by rw[RN];rfl
theorem lU:(("number":Str)==("number":Str))=true:=by decide +kernel
theorem mh:(("word":Str)==("word":Str))=true:=by decide +kernel
theorem oq:(("word":Str)==("number":Str))=false:=by decide +kernel
theorem Dg:(("rows":Str)==("number":Str))=false:=by decide +kernel
theorem zg:(("rows":Str)==("word":Str))=false:=by decide +kernel
noncomputable def KG:Nat->D->Prop
 |0,d=>∃c:Kd,c.gd/\d=c.d
 |n+1,d=>(∃c:Kd,c.gd/\d=c.d)\/∃(ks:KL)(qs:dZ)(b:Bool),d=.tup [.str "rows",fr ks qs,.bl b]/\1<=ks.length/\ks.length<=8/\(∀p∈ks,p.2.gd)/\qs.length<=8/\∀q∈qs,KG n q.2
theorem EY(ws:ax)(w:Str):nZ ws w≠[]:=by
 unfold nZ;split
 ·rename_i h;intro z;rw[z]at h;simp at h
 ·simp
theorem He(ws:ax)(h:ws.Nodup)(hl:ws.length<64):∃us:ax,eB [.lst (ws.map .str)]=some (.lst (us.map .str))/\us.Perm ws:=by
 have pz:∀zs:List D,zs.Perm (ws.map D.str)->∃us:ax,zs=us.map .str/\us.Perm ws:=λzs p=>by
  have e:zs=(zs.map λz=>match z with|.str w=>w|_=>"").map .str:=by
   rw[RN]
   conv=>lhs;rw[<-List.map_id zs]
   refine QU λz hz=>?_;obtain⟨w,_,rfl⟩:=List.mem_map.mp (p.mem_iff.mp hz);rfl
  refine⟨_,e,?_⟩;have q:=p.map λz:D=>match z with|.str w=>w|_=>("":Str)
  rw[RN]at q;have e2:ws.map ((λz:D=>match z with|.str w=>w|_=>("":Str))∘D.str)=ws:=by
   conv=>rhs;rw[<-List.map_id ws]
   exact QU λ_ _=>rfl
  rw[e2]at q;exact q
 have fin:∀key:D->List D,∃us:ax,some (D.lst (iy key (ws.map .str)))=some (.lst (us.map .str))/\us.Perm ws:=λkey=>by
  obtain⟨us,e,q⟩:=pz _ (ga key (ws.map .str));exact⟨us,by rw[e],q⟩
 show∃us,oI (ws.map .str)=_/\_;unfold oI;by_cases a:Jf (ws.map .str)
 ·rw[if_pos a];exact fin _
 ·have b:Ls (ws.map .str):=by
   refine⟨by rw[P7];exact hl,false,λx hx=>?_,?_⟩
   ·obtain⟨w,_,rfl⟩:=List.mem_map.mp hx;exact .str w .nil
   ·rw[RL];refine h.imp λhne e=>hne ?_;have e:[D.str _]=[D.str _]:=e;injection e with e _;injection e
  rw[if_neg a,if_pos b];exact fin _
theorem pJ(x:Int)(h0:0<=x)(h1:x<2147483700):∃c:Kd,aC dG 1 8 [.int x]=.ok c.d/\c.gd:=by
 have g3:=gm 3;have g4:=gm 4;have g26:=gm 26;have d3:=gd 3;have d12:=gd 12;have d78:=gd 78;have d2028:=gd 2028;have p7:iK (.int x) (.int 7)=some (.int (x^7)):=uG x 7 (by decide) ‹0›;have pb:=Hz;have gp:=λi=>d9 (i:=i) (show(0:Int)<A3 by omega);rw[gI];unfold dG;by_cases h:x%3<2
 ·have h':decide (x%3<2)=true:=decide_eq_true h;obtain⟨v,hv,e1⟩:=OM (.int 0) (.int (-3)) (.int (0-x^7%A3)) (.int (x^7%A3)) (x/3%4) ‹0› ‹0›;obtain⟨lo,rfl⟩:∃lo:Int,v=.int lo:=by
   simp only[Ri,RP,or_false]at hv;rcases hv with rfl|rfl|rfl|rfl<;>exact⟨_,rfl⟩
  obtain⟨w,w0,e2⟩:∃w:Int,0<=w/\ah (.lst [.int 0,.int 1,.int 6,.int A3]) (.int (x/12%4))=some (.int w):=by
   rcases(show x/12%4=0\/x/12%4=1\/x/12%4=2\/x/12%4=3 by omega)with z|z|z|z<;>rw[z]
   ·exact⟨0,by decide,rfl⟩
   ·exact⟨1,by decide,rfl⟩
   ·exact⟨6,by decide,rfl⟩
   ·exact⟨A3,by omega,rfl⟩
  refine⟨.num lo (lo+w),?_,by show lo<=lo+w;omega⟩;unfold Kd.d;simp! only[g3,h',p7,xZ,gp,KP,d3,g4,e1,d12,e2,Ej]
 ·have h':decide (x%3<2)=false:=decide_eq_false h;have LL:(("abcdefghijklmnopqrstuvwxyz":Str)).length=26:=by decide +kernel
  have L0:(("":Str)).length<=1000:=by decide +kernel
  generalize hL:("abcdefghijklmnopqrstuvwxyz":Str)=L at LL;obtain⟨one,ho,e1⟩:=pG L ‹0› (x/3%26) ‹0› ‹0›;obtain⟨oth,hq,e2⟩:=pG L ‹0› (x/78%26) ‹0› ‹0›;have a1:=gz one oth ‹0› ‹0›;have a2:=gz oth one ‹0› ‹0›;have a3:=gz one one ‹0› ‹0›;have m1:=BA (x:=one) (n:=8) (by decide) (by decide) ‹0›;have m2:=BA (x:=oth) (n:=3) (by decide) (by decide) ‹0›;have r8:lx [.int 8]=some (eR 0 8):=jm 8 (by decide);generalize hW:[D.str "",.str one,.str oth,.str (one++oth),.str (oth++one),.str (iN one 8),.str (one++one),.str (iN oth 3)]=W;have W8:W.length=8:=by rw[<-hW];rfl
  have Ws:∀d∈W,∃w:Str,d=.str w:=by
   rw[<-hW];intro d hd;simp only[Ri,RP,or_false]at hd;rcases hd with rfl|rfl|rfl|rfl|rfl|rfl|rfl|rfl<;>exact⟨_,rfl⟩
  obtain⟨T,hT⟩:∃T:bH,T=(ai (iE (eX (aa (fC (.int 8)) af)) (gN 7) (ai (fF (fB (f2 eS (f2 oQ (f2 u9 (f2 cH (ae 0) (fC (.int 2028))) (ae 7)) (fC (.int 1))) (fC (.int 1)))) (lL 6 (f2 ah (ae 5) (ae 7)) (fC (.bl true))) bC) (dC [7] bC))) (ai (fF (ky [6] (fB (f2 eS (fL qA (aa (ae 6) af)) (fC (.int 0))))) (lL 6 (ae 3) (fC (.bl true))) bC) (fA 6 (aN (aL (aa (fC (.str "word")) (aa (fL aZ (aa (fL eB (aa (fL jt (aa (ae 6) af)) af)) af)) af))))))):=⟨_,rfl⟩
  have fin:∀ws:ax,ws.Nodup->ws.length<=10->ws≠[]->∃c:Kd,fA 6 (aN (aL (aa (fC (.str "word")) (aa (fL aZ (aa (fL eB (aa (fL jt (aa (ae 6) af)) af)) af)) af)))) K0 [‹.int x›,none,none,‹.str one›,none,‹.lst W›,some (.own (wd ws)),none]=.ok c.d/\c.gd:=λws nd hl wn=>by
   obtain⟨us,ez,pz⟩:=He ws nd ‹0›;refine⟨.wrd us,?_,⟨λz=>wn (by rw[z]at pz;exact pz.symm.eq_nil),by rw[pz.length_eq];omega⟩⟩;unfold Kd.d;simp! only[vD,ez,mV]
  have key:∃c:Kd,T K0 [‹.int x›,none,none,‹.str one›,none,‹.lst W›,some (.own (.dct [] [])),none]=.ok c.d/\c.gd:=by
   rw[hT,gX,iA];simp! only[r8];refine cZ (Q:=λz=>∃c:Kd,z=.ok c.d/\c.gd) (λi ρ=>∃ws:ax,ws.Nodup/\ws.length<=i/\ρ=[‹.int x›,none,none,‹.str one›,none,‹.lst W›,some (.own (wd ws)),none]) ?_ ⟨[],Qy,PX _,rfl⟩ ?_
   ·rintro i d ρ kk hd ⟨ws,nd,hl,rfl⟩;have hi:=bW hd;rw[cC]at hi;have hdi:d=.int (i:Int):=by
     rw[iP,Qh,Ra hi]at hd;cases hd;simp
    subst hdi;obtain⟨w,ew⟩:=Ws (W[i]'‹0›) (RK _);have ix:ah (.lst W) (.int (i:Int))=some (.str w):=by
     rw[HV,p9 ‹0›,ew]
    have sh:=C5 (x/2028) i;cases hb:(Builtin.bitAnd (x/2028/2^i) 1==1)with
    |false=>
     refine⟨_,_,rfl,⟨ws,nd,by omega,rfl⟩,?_⟩;simp! only[d2028,sh,uA,hb]
    |true=>
     refine⟨_,_,rfl,⟨nZ ws w,tZ w nd,by have:=p3 ws w;omega,rfl⟩,?_⟩;have pk:=λk:Ks=>uj (i:=6) (fk:=f2 ah (ae 5) (ae 7)) (fv:=fC (.bl true)) (k:=k) (ρ:=[‹.int x›,none,none,‹.str one›,none,‹.lst W›,some (.own (wd ws)),‹.int (i:Int)›]) (al:=zm ws) (q:=.inr w) (d:=.str w) (v:=.bl true) rfl (by simp! only[ix]) rfl rfl (by simp;omega);simp! only[d2028,sh,uA,hb,pk,w8]
   ·rintro ρ' ⟨ws,nd,hl,rfl⟩;rw[cC]at hl;have pt:ky [6] (fB (f2 eS (fL qA (aa (ae 6) af)) (fC (.int 0)))) [‹.int x›,none,none,‹.str one›,none,‹.lst W›,some (.own (wd ws)),none]=.ok (((ws.length:Int))==0):=by
     simp! only[qR,Jx,E9]
    dsimp only;rw[gX,lR,pt,qB];cases hb:((ws.length:Int)==0)with
    |false=>exact fin ws nd ‹0› λz=>by rw[z]at hb;cases hb
    |true=>
     have pk:=λk:Ks=>uj (i:=6) (fk:=ae 3) (fv:=fC (.bl true)) (k:=k) (ρ:=[‹.int x›,none,none,‹.str one›,none,‹.lst W›,some (.own (wd ws)),none]) (al:=zm ws) (q:=.inr one) (d:=.str one) (v:=.bl true) rfl rfl rfl rfl (by simp;omega);rw[if_pos rfl,pk,w8];exact fin (nZ ws one) (tZ one nd) (by have:=p3 ws one;omega) (EY ws one)
  obtain⟨d,ed,fd⟩:=key;have mW:jP W=some (.lst W):=DQ ‹0›;refine⟨d,?_,fd⟩;rw[<-hT];simp only[K0]at ed;simp! only[hL,g3,h',d3,g26,e1,d78,e2,a1,a2,a3,m1,m2,hW,mW,uK,ed]
theorem zo{b st:Int}{L:ax}{nm:Str}(h:∀(j:Nat)(w:Str),L[j]?=some w->vy b (st+(j:Int)) w)(hn:vy b (st+(L.length:Int)) nm):∀(j:Nat)(w:Str),(L++[nm])[j]?=some w->vy b (st+(j:Int)) w:=λj w e=>by
 rw[List.getElem?_append]at e;split at e
 ·exact h j w e
 ·rename_i hj
  have:j-L.length=0:=by
   have:=bW e
   simp at this;omega
  rw[this]at e;cases e;rw[show j=L.length by omega];exact hn
theorem zq(dp g:Nat)(hk:∀x b:Int,0<=x->x<2147483700->0<=b->∃d,bi g [.int x,.int b,.int dp]=.ok d/\KG dp d)(x b st:Int)(m r:Nat)(h0:0<=x)(h1:x<2147483700)(hb:0<=b)(hs:0<=st)(hm:m<=8)(hr:r<=8):
  ∃(ks:KL)(qs:dZ),aP (g+1) [.int x,.int b,.int st,.int m,.int r,.int dp]=.ok (fr ks qs)/\ks.length=m/\qs.length=r/\(∀p∈ks,p.2.gd)/\(∀q∈qs,KG dp q.2)/\∀(j:Nat)(w:Str),(ks.map (·.1)++qs.map (·.1))[j]?=some w->vy b (st+(j:Int)) w:=by
 rw[fX,JF];unfold iz;have rn:lx [.int ((m:Int)+(r:Int))]=some (eR 0 (m+r)):=by
  rw[show((m:Int)+(r:Int))=((m+r:Nat):Int)by omega];exact jm (m+r) ‹0›
 obtain⟨T,hT⟩:∃T:bH,T=fA 7 (fA 6 (aN (aL (aa (fL aZ (aa (ae 6) af)) (aa (fL aZ (aa (ae 7) af)) af))))):=⟨_,rfl⟩
 rw[<-hT];simp! only[HI,rn];refine cZ (Q:=λz=>∃(ks:KL)(qs:dZ),z=.ok (fr ks qs)/\ks.length=m/\qs.length=r/\(∀p∈ks,p.2.gd)/\(∀q∈qs,KG dp q.2)/\∀(j:Nat)(w:Str),(ks.map (·.1)++qs.map (·.1))[j]?=some w->vy b (st+(j:Int)) w)
  (fun i ρ=>∃ (y:Int) (ks:KL) (qs:dZ),0<=y/\y < 2147483700/\ks.length=min i m/\qs.length=i - m/\(∀ p∈ks,p.2.gd)/\(∀ q∈qs,KG dp q.2)/\(∀ (j:Nat) (w:Str),(ks.map (·.1)++qs.map (·.1))[j]?=some w->vy b (st+(j:Int)) w) /\
   ρ=[‹.int y›,‹.int b›,‹.int st›,‹.int m›,‹.int r›,‹.int dp›,some (.own (.lst (ks.map kf))),some (.own (.lst (qs.map fld))),none]) ?_ ⟨x,[],[],h0,h1,by simp,by simp,(λ_ h=>nomatch h),(λ_ h=>nomatch h),(λj w h=>by simp at h),rfl⟩ ?_
 ·rintro i d ρ kk hd ⟨y,ps,qs,y0,y1,lp,lq,fp,fq,fn,rfl⟩;have hi:=bW hd;rw[cC]at hi;have hdi:d=.int (i:Int):=by
   rw[iP,Qh,Ra hi]at hd;cases hd;simp
  subst hdi;obtain⟨y',y0',y1',ey⟩:=eU y y0 y1;obtain⟨nm,en,nP⟩:=pH b (st+(i:Int)) hb ‹0›;by_cases h:i<m
  ·have h':decide ((i:Int)<(m:Int))=true:=decide_eq_true ‹0›;obtain⟨c,ek,ck⟩:=pJ y' y0' ‹0›;refine⟨_,_,rfl,⟨y',ps++[(nm,c)],qs,y0',by omega,by rw[Qj,Qo];omega,by omega,λp hp=>?_,fq,?_,rfl⟩,?_⟩
   ·rcases List.mem_append.mp hp with z|z
    ·exact fp p z
    ·rw[RX]at z;subst z;exact ck
   ·have q0:qs=[]:=List.length_eq_zero_iff.mp ‹0›;subst q0;rw[Qq,Qa]at fn ⊢;rw[QV];exact zo fn (by rw[P7,lp,RZ ‹0›];exact nP)
   ·have ap:eK (ps.map kf) [.tup [.str nm,c.d]]=some ((ps++[(nm,c)]).map kf):=by
     rw[jK (by rw[P7];omega),QV];rfl
    have sm:=λK:Ks=>jI 6 eK (aa (aL (aa (fR (aC bL 2 7) (aa (ae 1) (aa (f2 aW (ae 2) (ae 8)) af))) (aa (fR (aC dG 1 8) (aa (ae 0) af)) af))) af) K [‹.int y'›,‹.int b›,‹.int st›,‹.int m›,‹.int r›,‹.int dp›,some (.own (.lst (ps.map kf))),some (.own (.lst (qs.map fld))),‹.int i›] (xs:=ps.map kf) rfl;generalize (ps++[(nm,c)]).map kf=Y at ap ⊢;simp! only[ey,h',sm,en,ek,mV,ap]
  ·have h':decide ((i:Int)<(m:Int))=false:=decide_eq_false ‹0›;obtain⟨k,ek,fk⟩:=hk y' b y0' ‹0› hb;refine⟨_,_,rfl,⟨y',ps,qs++[(nm,k)],y0',by omega,by omega,by rw[Qj,Qo];omega,fp,λp hp=>?_,?_,rfl⟩,?_⟩
   ·rcases List.mem_append.mp hp with z|z
    ·exact fq p z
    ·rw[RX]at z;subst z;exact fk
   ·rw[QV,<-Rf];exact zo fn (by rw[Qj,P7,P7,lp,lq,show min i m+(i-m)=i by omega];exact nP)
   ·have ap:eK (qs.map fld) [.tup [.str nm,k]]=some ((qs++[(nm,k)]).map fld):=by
     rw[jK (by rw[P7];omega),QV];rfl
    have sm:=λK:Ks=>jI 7 eK (aa (aL (aa (fR (aC bL 2 7) (aa (ae 1) (aa (f2 aW (ae 2) (ae 8)) af))) (aa (fR (bi g) (aa (ae 0) (aa (ae 1) (aa (ae 5) af)))) af))) af) K [‹.int y'›,‹.int b›,‹.int st›,‹.int m›,‹.int r›,‹.int dp›,some (.own (.lst (ps.map kf))),some (.own (.lst (qs.map fld))),‹.int i›] (xs:=qs.map fld) rfl;generalize (qs++[(nm,k)]).map fld=Y at ap ⊢;simp! only[ey,h',sm,en,ek,mV,ap]
 ·rintro ρ' ⟨y,ps,qs,y0,y1,lp,lq,fp,fq,fn,rfl⟩;rw[cC]at lp lq;refine⟨ps,qs,?_,by omega,by omega,fp,fq,fn⟩;rw[hT];simp! only[mV]
theorem EJ:∀(dp g:Nat),2*dp+1<=g->∀x b:Int,0<=x->x<2147483700->0<=b->∃d,bi g [.int x,.int b,.int dp]=.ok d/\KG dp d:=by
 intro dp
 induction dp with
 |zero=>
  intro g hg x b h0 h1 hb;obtain⟨g,rfl⟩:∃g',g=g'+1:=⟨g-1,by omega⟩
  have d3:=gd 3;obtain⟨c,e,f⟩:=pJ (x/3) ‹0› ‹0›;refine⟨c.d,?_,c,f,rfl⟩;rw[eE,jy];unfold gB;have z:(((0:Nat):Int)==0)=true:=rfl;simp! only[z,d3,e]
 |succ dp ih=>
  intro g hg x b h0 h1 hb;obtain⟨g,rfl⟩:∃g',g=g'+1+1:=⟨g-2,by omega⟩
  have g2:=gm 2;have g3:=gm 3;have g12:=gm 12;have d3:=gd 3;have d6:=gd 6;have d18:=gd 18;have d36:=gd 36;have z:(((dp+1:Nat):Int)==0)=false:=by simp;omega
  rw[eE,jy];unfold gB;by_cases h:x%3<2
  ·have h':decide (x%3<2)=true:=decide_eq_true h;obtain⟨c,e,f⟩:=pJ (x/3) ‹0› ‹0›;refine⟨c.d,?_,.inl ⟨c,f,rfl⟩⟩;simp! only[z,g3,h',d3,e]
  ·have h':decide (x%3<2)=false:=decide_eq_false h;obtain⟨m,hm,hm8,m1⟩:∃m:Nat,1+x/3%2=(m:Int)/\m<=8/\1<=m:=⟨(1+x/3%2).toNat,by omega,by omega,by omega⟩
   obtain⟨r,hr,hr8⟩:∃m:Nat,x/6%3=(m:Int)/\m<=8:=⟨(x/6%3).toNat,by omega,by omega⟩
   have hd:((dp+1:Nat):Int)-1=(dp:Int):=(by omega);obtain⟨ps,qs,e,l1,l2,F1,F2,_⟩:=zq dp g (ih g ‹0›) (x/3) b (x/36%12) m r ‹0› ‹0› hb ‹0› hm8 hr8;refine⟨.tup [.str "rows",fr ps qs,.bl (x/18%2==1)],?_,.inr ⟨ps,qs,_,rfl,by omega,by omega,F1,by omega,F2⟩⟩;simp! only[z,g3,h',d3,d36,g12,g2,d6,hm,hr,hd,e,d18,Ej]
theorem yM(dp:Nat)(hd:dp<=3)(x b st:Int)(m r:Nat)(h0:0<=x)(h1:x<2147483700)(hb:0<=b)(hs:0<=st)(hm:m<=8)(hr:r<=8):
  ∃(ks:KL)(qs:dZ),aP 20 [.int x,.int b,.int st,.int m,.int r,.int dp]=.ok (fr ks qs)/\ks.length=m/\qs.length=r/\(∀p∈ks,p.2.gd)/\(∀q∈qs,KG dp q.2)/\∀(j:Nat)(w:Str),(ks.map (·.1)++qs.map (·.1))[j]?=some w->vy b (st+(j:Int)) w:=
 zq dp 19 (EJ dp 19 ‹0›) x b st m r h0 h1 hb hs hm hr
noncomputable def Kd.has:Kd->D->Prop
 |.num lo hi,d=>∃i,d=.int i/\lo<=i/\i<=hi
 |.wrd ws,d=>∃w,d=.str w/\w∈ws
noncomputable def vv:KL->List D->Prop
 |[],[]=>True
 |p::k,v::vs=>p.2.has v/\vv k vs
 |_,_=>False
theorem xq{c:Kd}{v:D}(h:c.has v){σ:bQ}{vs:List D}(s:Sh σ vs):Sh (c.b::σ) (v::vs):=by
 cases c with
 |num lo hi=>obtain⟨i,rfl,_⟩:=h;exact .int i s
 |wrd ws=>obtain⟨w,rfl,_⟩:=h;exact .str w s
theorem vv.sh:∀{k:KL}{vs:List D},vv k vs->Sh (k.map (·.2.b)) vs
 |[],[],_=>.nil
 |_::_,_::_,h=>xq h.1 h.2.sh
theorem vv.app:∀{k:KL}{vs:List D}{k':KL}{vs':List D},vv k vs->vv k' vs'->vv (k++k') (vs++vs')
 |[],[],_,_,_,h=>h
 |_::_,_::_,_,_,a,h=>⟨a.1,a.2.app h⟩
theorem vv.length{k:KL}{vs:List D}(h:vv k vs):vs.length=k.length:=by
 rw[h.sh.length,P7]
theorem sQ{σ:bQ}{kl:Nat}(h0:σ≠[])(hl:kl=σ.length)(rows:bB)(hs:∀r∈rows,Sh σ (r.take kl))(hn:rows.length<64):∃t:bB,aC bM 2 4 [.int kl,.lst (rows.map .tup)]=.ok (.tup (t.map .tup))/\xY kl t/\(∀r∈t,r∈rows)/\t.length<=rows.length:=by
 obtain⟨T,hT⟩:∃T:bH,T=(fA 2 (aN (fL aZ (aa (dA [none,some 2] (aG (fL eB (aa (fL lY (aa (ae 2) af)) af))) (gN 0) bF (f2 yg (ae 1) (ae 0))) af)))):=⟨_,rfl⟩
 rw[cE];unfold bM;rw[<-hT];simp! only[uK];refine cZ (Q:=λz=>∃t:bB,z=.ok (.tup (t.map .tup))/\xY kl t/\(∀r∈t,r∈rows)/\t.length<=rows.length) (λi ρ=>∃al:cx,(al.map (·.1)).Nodup/\al.length<=i/\(∀p∈al,∃r∈rows,p.2=.tup r/\r.take kl=p.1.map bg)/\ρ=[‹.int kl›,‹.lst (rows.map .tup)›,some (.own (bS al)),none]) ?_ ⟨[],Qy,PX _,(λ_ h=>nomatch h),rfl⟩ ?_
 ·rintro i d ρ kk hd ⟨al,nd,ll,hp,rfl⟩;have hi:=bW hd;rw[P7]at hi;rw[Qh,QO hi]at hd;cases hd;have rm:rows[i]∈rows:=RK hi;obtain⟨q,eq⟩:=pf (hs _ rm);have ct:cutD rows[i] none (some (kl:Int))=q.map bg:=by rw[eZ,eq]
  refine⟨_,_,rfl,⟨gG al q (.tup rows[i]),Fg _ _ nd,by have:=Dy al q (.tup rows[i]);omega,λp h=>?_,rfl⟩,?_⟩
  ·rcases Cw h with z|z
   ·exact hp p z
   ·subst z;exact⟨_,rm,rfl,eq⟩
  ·have pd:=λK:Ks=>FC (i:=2) (fk:=aH (ae 3) av (aY (ae 0))) (fv:=ae 3) (k:=K) (ρ:=[‹.int kl›,‹.lst (rows.map .tup)›,some (.own (bS al)),‹.tup rows[i]›]) (al:=al) (q:=q) (v:=.tup rows[i]) rfl (by simp! only[ct]) rfl ‹0›;generalize bS (gG al q (.tup rows[i]))=Y at pd ⊢;generalize bS al=Z at pd ⊢;simp! only[pd]
 ·rintro ρ' ⟨al,nd,ll,hp,rfl⟩;rw[P7]at ll;have hsk:∀p∈al,Sh σ (p.1.map bg):=λp h=>by
   obtain⟨r,hr,_,e⟩:=hp p h;rw[<-e];exact hs r hr
  obtain⟨es,ri⟩:=FP nd hsk h0 ‹0›;have pm:=ga de (encK al);have lt:=CN al;generalize iy de (encK al)=W at es ri pm;have wl:W.length=al.length:=by rw[pm.length_eq,P7]
  have mem:∀x∈W,∃p∈al,x=.tup (p.1.map bg):=λx hx=>by
   obtain⟨p,h1,h2⟩:=List.mem_map.mp (pm.mem_iff.mp hx);exact⟨p,h1,h2.symm⟩
  obtain⟨vs,v1,v2,v3⟩:=BH (ρ:=[none,‹bS al›]) (g:=gN 0) (C:=bF) (Fe:=f2 yg (ae 1) (ae 0)) W (λi v=>∃r∈rows,v=.tup r/\W[i]?=some (.tup (r.take kl))) λi d hd=>by
   obtain⟨p,h1,h2⟩:=mem d (Qi hd);obtain⟨r,hr,e1,e2⟩:=hp p h1;have dx:=JK al p.1;rw[qO nd h1,e1]at dx;refine⟨[‹d›,‹bS al›],.tup r,rfl,rfl,?_,r,hr,rfl,by rw[hd,h2,e2]⟩;subst h2;generalize bS al=Z at dx;simp! only[dx]
  obtain⟨t,rfl⟩:=yA vs λv hv=>by
   obtain⟨i,hi,ei⟩:=QS hv;obtain⟨r,_,e,_⟩:=v2 i v (by rw[QO hi,ei]);exact⟨r,e⟩
  rw[P7]at v1;have at_:∀(i:Nat)(h:i<t.length),t[i]∈rows/\W[i]?=some (.tup (t[i].take kl)):=λi h=>by
   obtain⟨r,hr,e,w⟩:=v2 i (.tup t[i]) (by rw[Qh,QO h];rfl);injection e with e;rw[e];exact⟨hr,w⟩
  refine⟨t,?_,?_,λr hr=>?_,by omega⟩
  ·have lc:dA [none,some 2] (aG (fL eB (aa (fL lY (aa (ae 2) af)) af))) (gN 0) bF (f2 yg (ae 1) (ae 0)) [‹.int kl›,‹.lst (rows.map .tup)›,‹bS al›,none]=.ok (.lst (t.map .tup)):=by
    refine cj (ds:=W) ?_ ‹0› v3;generalize bS al=Z at lt;simp! only[lt,es]
   rw[hT];generalize bS al=Z at lc;simp! only[lc]
  ·refine List.pairwise_iff_getElem.mpr λi j hi hj hij=>?_;have a:=(at_ i hi).2;have b:=(at_ j hj).2;rw[QO ‹0›]at a b
   have:=List.pairwise_iff_getElem.mp ri i j ‹0› ‹0› hij
   rw[Option.some.inj a,Option.some.inj b]at this;exact this
  ·obtain⟨i,hi,ei⟩:=QS hr;rw[<-ei];exact(at_ i hi).1
theorem pR(c:Kd)(hg:c.gd)(g:Nat)(x:Int)(h0:0<=x)(h1:x<2147483700):∃v,aA (g+1) [c.d,.int x]=.ok v/\c.has v:=by
 rw[cR,cE];unfold eD;cases c with
 |num lo hi=>
  have hg:lo<=hi:=hg;have p7:iK (.int x) (.int 7)=some (.int (x^7)):=uG x 7 (by decide) ‹0›;have gm:=λi=>d9 (i:=i) (show(0:Int)<hi-lo+1 by omega);have z1:=Sb (x^7) (show hi-lo+1≠0 by omega);have z2:=Sd (x^7) (show 0<hi-lo+1 by omega);refine⟨.int (lo+x^7%(hi-lo+1)),?_,_,rfl,by omega,by omega⟩;simp! only[Kd.d,lU,p7,gm]
 |wrd ws=>
  obtain⟨wn,_⟩:=(show ws≠[]/\ws.length<=100 from hg)
  have ul:0<ws.length:=List.length_pos_iff.mpr wn;have q1:=Sb x (show(ws.length:Int)≠0 by omega);have q2:=Sd x (show(0:Int)<(ws.length:Int)by omega);have gm:=λi=>d9 (i:=i) (show(0:Int)<(ws.length:Int)by omega);have ix:ah (.tup (ws.map .str)) (.int (x%(ws.length:Int)))=some (.str (ws[(x%(ws.length:Int)).toNat]'‹0›)):=by
   rw[Kx,pF,mH q1 q2];rfl
  refine⟨_,?_,ws[(x%(ws.length:Int)).toNat]'‹0›,rfl,RK _⟩;simp! only[Kd.d,oq,mh,P7,gm,ix]
theorem DE(n g:Nat)(Pv:D->D->Prop)(hv:∀(d:D)(x:Int),KG n d->0<=x->x<2147483700->∃v,aA (g+1) [d,.int x]=.ok v/\Pv d v)(ks:KL)(qs:dZ)(k8:ks.length<=8)(q8:qs.length<=8)(hk:∀p∈ks,p.2.gd)(hq:∀q∈qs,KG n q.2)(A B:List D)(em:A++B=(ks.map toD++qs).map fld)(mn hd tl:Int)(h0:0<=hd)(h1:hd<2147483700)(t0:0<=tl)(t1:tl<2147483700):
  ∃ka va:List D,bb (g+2) [.tup [.tup A,.tup B],.int mn,.int hd,.int tl]=.ok (.tup (ka++va))/\vv ks ka/\va.length=qs.length/\∀(j:Nat)(d:Str×D)(v:D),qs[j]?=some d->va[j]?=some v->Pv d.2 v:=by
 rw[gK,wG];unfold jv;have fl:(ks.map toD++qs).length=ks.length+qs.length:=by rw[Qj,P7]
 have ad:=cw A B (by have:=congrArg List.length em;rw[Qj,P7]at this;omega);rw[em]at ad;obtain⟨T,hT⟩:∃T:bH,T=(fA 4 (aN (fL aZ (aa (ae 4) af)))):=⟨_,rfl⟩
 rw[<-hT];simp! only[HI,ad];refine cZ (Q:=λz=>∃ka va:List D,z=.ok (.tup (ka++va))/\vv ks ka/\va.length=qs.length/\∀(j:Nat)(d:Str×D)(v:D),qs[j]?=some d->va[j]?=some v->Pv d.2 v)
  (λi ρ=>∃(y z:Int)(ka va:List D),0<=y/\y<2147483700/\0<=z/\z<2147483700/\vv (ks.take i) ka/\va.length=i-ks.length/\(∀(j:Nat)(d:Str×D)(v:D),qs[j]?=some d->va[j]?=some v->Pv d.2 v)/\ρ=[‹.tup [.tup A,.tup B]›,‹.int mn›,‹.int y›,‹.int z›,some (.own (.lst (ka++va))),none,none]) ?_ ⟨hd,tl,[],[],h0,h1,t0,t1,trivial,by simp,(λ_ _ _ _ h=>by simp at h),rfl⟩ ?_
 ·rintro i d ρ kk hd ⟨y,z,ka,va,y0,y1,z0,z1,hka,lva,hva,rfl⟩;have hi:=bW hd;rw[P7,fl]at hi;rw[Qh,QO ‹0›]at hd;cases hd;have kal:ka.length=min i ks.length:=by rw[hka.length,Qd]
  obtain⟨y',y0',y1',ey⟩:=eU y y0 y1;obtain⟨z',z0',z1',ez⟩:=eU z z0 z1;have step:∀x:Int,0<=x->x<2147483700->∃v,aA (g+1) [((ks.map toD++qs)[i]'‹0›).2,.int x]=.ok v/\∃ka' va',ka++va++[v]=ka'++va'/\vv (ks.take (i+1)) ka'/\va'.length=i+1-ks.length/\(∀(j:Nat)(d:Str×D)(v:D),qs[j]?=some d->va'[j]?=some v->Pv d.2 v):=λx x0 x1=>by
   by_cases h:i<ks.length
   ·have e:(ks.map toD++qs)[i]'‹0›=toD ks[i]:=(by rw[List.getElem_append_left (by rw[P7];exact h),List.getElem_map]);obtain⟨v,ev,sv⟩:=pR ks[i].2 (hk _ (RK h)) g x x0 x1;have v0:va=[]:=List.length_eq_zero_iff.mp ‹0›;subst v0;refine⟨v,by rw[e];exact ev,ka++[v],[],by simp,?_,by simp;omega,λ_ _ _ _ h=>by simp at h⟩;rw[Sg h];exact hka.app ⟨sv,trivial⟩
   ·have e:(ks.map toD++qs)[i]'‹0›=qs[i-ks.length]'‹0›:=(by rw[List.getElem_append_right (by rw[P7];omega)];simp);obtain⟨v,ev,sv⟩:=hv _ x (hq _ (RK (show i-ks.length<qs.length by omega))) x0 x1;refine⟨v,by rw[e];exact ev,ka,va++[v],by rw[Rf],?_,by rw[Qj,Qo];omega,λj d w hj hw=>?_⟩
    ·rw[RW ‹0›]at hka ⊢;exact hka
    ·by_cases z:j<va.length
     ·rw[Qg z]at hw;exact hva j d w hj hw
     ·have hj':=bW hw;rw[Qj,Qo]at hj';have ej:j=i-ks.length:=(by omega);rw[Qe ‹0›,show j-va.length=0 by omega]at hw;cases hw;subst ej;rw[QO (by omega (config:={}))]at hj;cases hj;exact sv
  have gt:gT 2 (jR [5,6]) (fld ((ks.map toD++qs)[i]'‹0›)) [‹.tup [.tup A,.tup B]›,‹.int mn›,‹.int y›,‹.int z›,some (.own (.lst (ka++va))),none,none]=some [‹.tup [.tup A,.tup B]›,‹.int mn›,‹.int y›,‹.int z›,some (.own (.lst (ka++va))),‹.str ((ks.map toD++qs)[i]'‹0›).1›,‹((ks.map toD++qs)[i]'‹0›).2›]:=rfl;have alen:(ka++va).length<1000:=by rw[Qj];omega
  generalize (ks.map toD++qs)[i]'‹0›=p at step gt;cases hb:decide (((ka++va).length:Int)<mn)with
  |true=>
   obtain⟨v,ev,ka',va',e1,e2,e3,e4⟩:=step y' y0' ‹0›;refine⟨_,_,gt,⟨y',z,ka',va',y0',by omega,z0,z1,e2,e3,e4,rfl⟩,?_⟩;have ap:eK (ka++va) [v]=some (ka'++va'):=(by rw[jK ‹0›,e1]);have sm:=λK:Ks=>jI 4 eK (aa (fR (aA (g+1)) (aa (ae 6) (aa (ae 2) af))) af) K [‹.tup [.tup A,.tup B]›,‹.int mn›,‹.int y'›,‹.int z›,some (.own (.lst (ka++va))),‹.str p.1›,‹p.2›] (xs:=ka++va) rfl;generalize ka++va=A at hb ap sm alen;generalize ka'++va'=B at ap;simp! only[qR,Jx,hb,ey,sm,ev,ap]
  |false=>
   obtain⟨v,ev,ka',va',e1,e2,e3,e4⟩:=step z' z0' ‹0›;refine⟨_,_,gt,⟨y,z',ka',va',y0,y1,z0',by omega,e2,e3,e4,rfl⟩,?_⟩;have ap:eK (ka++va) [v]=some (ka'++va'):=(by rw[jK ‹0›,e1]);have sm:=λK:Ks=>jI 4 eK (aa (fR (aA (g+1)) (aa (ae 6) (aa (ae 3) af))) af) K [‹.tup [.tup A,.tup B]›,‹.int mn›,‹.int y›,‹.int z'›,some (.own (.lst (ka++va))),‹.str p.1›,‹p.2›] (xs:=ka++va) rfl;generalize ka++va=A at hb ap sm alen;generalize ka'++va'=B at ap;simp! only[qR,Jx,hb,ez,sm,ev,ap]
 ·rintro ρ' ⟨y,z,ka,va,y0,y1,z0,z1,hka,lva,hva,rfl⟩;rw[P7,fl]at hka lva;rw[RW ‹0›]at hka;refine⟨ka,va,?_,hka,by omega,hva⟩;rw[hT];generalize ka++va=A;simp! only[]
theorem CQ{qs:dZ}{va:List D}{n:Nat}(l:va.length=qs.length)(h:∀(j:Nat)(d:Str×D)(v:D),qs[j]?=some d->va[j]?=some v->AL n v):∀v∈va,AL n v:=λv hv=>by
 obtain⟨j,hj,e⟩:=QS hv;exact h j (qs[j]'‹0›) v (QO ‹0›) (by rw[QO hj,e])
theorem uz(n g:Nat)(Pv:D->D->Prop)(hv:∀(d:D)(x:Int),KG n d->0<=x->x<2147483700->∃v,aA (g+1) [d,.int x]=.ok v/\Pv d v)(ks:KL)(qs:dZ)(k1:1<=ks.length)(k8:ks.length<=8)(q8:qs.length<=8)(hk:∀p∈ks,p.2.gd)(hq:∀q∈qs,KG n q.2)(x:Int)(m:Nat)(h0:0<=x)(h1:x<2147483700)(hm:m<=8):
  ∃t:bB,aQ (g+3) [fr ks qs,.int x,.int m]=.ok (.tup (t.map .tup))/\xY ks.length t/\t.length<=m/\∀r∈t,∃ka va:List D,r=ka++va/\vv ks ka/\va.length=qs.length/\∀(j:Nat)(d:Str×D)(v:D),qs[j]?=some d->va[j]?=some v->Pv d.2 v:=by
 have rn:=jm m ‹0›;obtain⟨T,hT⟩:∃T:bH,T=(fA 3 (aN (fR (aC bM 2 4) (aa (fL dS (aa (f2 ah (ae 0) (fC (.int 0))) af)) (aa (ae 3) af))))):=⟨_,rfl⟩
 rw[fQ,jy];unfold iw;rw[<-hT];simp! only[HI,rn];refine cZ (Q:=λz=>∃t:bB,z=.ok (.tup (t.map .tup))/\xY ks.length t/\t.length<=m/\∀r∈t,∃ka va:List D,r=ka++va/\vv ks ka/\va.length=qs.length/\∀(j:Nat)(d:Str×D)(v:D),qs[j]?=some d->va[j]?=some v->Pv d.2 v)
  (λi ρ=>∃(y:Int)(rs:bB),0<=y/\y<2147483700/\rs.length=i/\(∀r∈rs,∃ka va:List D,r=ka++va/\vv ks ka/\va.length=qs.length/\∀(j:Nat)(d:Str×D)(v:D),qs[j]?=some d->va[j]?=some v->Pv d.2 v)/\ρ=[‹fr ks qs›,‹.int y›,‹.int m›,some (.own (.lst (rs.map .tup))),none]) ?_ ⟨x,[],h0,h1,rfl,(λ_ h=>nomatch h),rfl⟩ ?_
 ·rintro i d ρ kk hd ⟨y,rs,y0,y1,rl,hr,rfl⟩;have hi:=bW hd;rw[cC]at hi;obtain⟨y',y0',y1',ey⟩:=eU y y0 y1;obtain⟨ka,va,ev,v1,v2,v3⟩:=DE n g Pv hv ks qs k8 q8 hk hq (ks.map kf) (qs.map fld) (by rw[QV,lZ]) 0 0 y' (by decide) (by decide) y0' ‹0›;refine⟨_,_,rfl,⟨y',rs++[ka++va],y0',by omega,by rw[Qj,Qo,rl],λr h=>?_,rfl⟩,?_⟩
  ·rcases List.mem_append.mp h with z|z
   ·exact hr r z
   ·rw[List.mem_singleton.mp z];exact⟨ka,va,rfl,v1,v2,v3⟩
  ·have ap:eK (rs.map .tup) [.tup (ka++va)]=some ((rs++[ka++va]).map .tup):=by
    rw[jK (by rw[P7];omega),QV];rfl
   have sm:=λK:Ks=>jI 3 eK (aa (fR (bb (g+2)) (aa (ae 0) (aa (fC (.int 0)) (aa (fC (.int 0)) (aa (ae 1) af))))) af) K [‹fr ks qs›,‹.int y'›,‹.int m›,some (.own (.lst (rs.map .tup))),‹d›] (xs:=rs.map .tup) rfl;generalize (rs++[ka++va]).map D.tup=Y at ap ⊢;generalize ka++va=vs at ev ap;generalize rs.map D.tup=Z at ap sm ⊢;simp! only[ey,sm,ev,ap]
 ·rintro ρ' ⟨y,rs,y0,y1,rl,hr,rfl⟩;rw[cC]at rl;obtain⟨t,et,ri,tm,tl⟩:=sQ (σ:=ks.map (·.2.b)) (kl:=ks.length) (λz=>by have:=congrArg List.length z;rw[P7,Qv]at this;omega) (by rw[P7]) rs (λr h=>by
   obtain⟨ka,va,rfl,f,_⟩:=hr r h;rw[Si f.length];exact f.sh) ‹0›
  refine⟨t,?_,ri,by omega,λr h=>hr r (tm r h)⟩;rw[hT];simp! only[P7,et]
theorem qD:∀(n g:Nat),3*n+1<=g->∀(d:D)(x:Int),KG n d->0<=x->x<2147483700->∃v,aA g [d,.int x]=.ok v/\AL (2*n) v:=by
 intro n
 induction n with
 |zero=>
  intro g hg d x hd h0 h1;obtain⟨g,rfl⟩:∃g',g=g'+1:=⟨g-1,by omega⟩
  obtain⟨c,cg,rfl⟩:=hd;obtain⟨v,ev,sv⟩:=pR c cg g x h0 h1;exact⟨v,ev,mD (xq sv .nil) v PJ⟩
 |succ n ih=>
  intro g hg d x hd h0 h1;obtain⟨g,rfl⟩:∃g',g=g'+3+1:=⟨g-4,by omega⟩
  rcases hd with⟨c,cg,rfl⟩|⟨ks,qs,b,rfl,k1,k8,hk,q8,hq⟩
  ·obtain⟨v,ev,sv⟩:=pR c cg (g+3) x h0 h1;exact⟨v,ev,(mD (xq sv .nil) v PJ).of0 _⟩
  ·have d3:=gd 3;have g3:=gm 3;obtain⟨m,hm,em⟩:∃m:Nat,m<=3/\lN [.int (x%3),.int (if b then 1 else 0)]=some (.int (m:Int)):=by
    refine⟨(if(if b then(1:Int)else 0)>x%3 then(if b then(1:Int)else 0)else x%3).toNat,?_,?_⟩
    ·cases b<;>simp<;>split<;>omega
    ·rw[jG];congr 2;cases b<;>simp<;>split<;>omega
   obtain⟨t,ev,_,tl,ht⟩:=uz n g (λ_ v=>AL (2*n) v) (ih (g+1) ‹0›) ks qs k1 k8 q8 hk hq (x/3) m ‹0› ‹0› ‹0›;refine⟨_,?_,show AL (2*n+2) (.tup (t.map .tup))from AL.tup (by rw[P7];omega) λv hv=>by
    obtain⟨r,h1,rfl⟩:=List.mem_map.mp hv;obtain⟨ka,va,rfl,w1,w2,w3⟩:=ht r h1
    have:=w1.length
    exact AL.tup (by rw[Qj];omega) λv hv=>(List.mem_append.mp hv).elim (λz=>(mD w1.sh v z).of0 _) λz=>CQ w2 w3 v z⟩
   rw[cR,cE];unfold eD;simp! only[Dg,zg,d3,g3,vU,em,ev]
theorem nE(n:Nat)(hn:n<=2)(ks:KL)(qs:dZ)(k8:ks.length<=8)(q8:qs.length<=8)(hk:∀p∈ks,p.2.gd)(hq:∀q∈qs,KG n q.2)(A:List D)(em:A=(ks.map toD++qs).map fld)(x:Int)(h0:0<=x)(h1:x<2147483700):
  ∃vs:List D,aC ce 2 2 [.tup A,.int x]=.ok (.tup vs)/\vs.length=ks.length+qs.length/\vv ks (vs.take ks.length)/\∀v∈vs,AL 4 v:=by
 obtain⟨ka,va,ev,v1,v2,v3⟩:=DE n 18 (λ_ v=>AL (2*n) v) (qD n 19 ‹0›) ks qs k8 q8 hk hq A [] (by rw[Qa];exact em) 0 0 x (by decide) (by decide) h0 h1;have ev:bb 20 [.tup [.tup A,.tup []],.int 0,.int 0,.int x]=.ok (.tup (ka++va)):=ev
 have:=v1.length
 refine⟨ka++va,?_,by rw[Qj];omega,by rw[Si v1.length];exact v1,λv h=>(List.mem_append.mp h).elim (λz=>(mD v1.sh v z).of0 _) λz=>AL.le ‹0› (CQ v2 v3 v z)⟩;rw[cE];unfold ce;generalize ka++va=w at ev ⊢;simp! only[J4,mV,ev]
theorem zip_get:∀(xs:List D)(i:Nat)(d:D),(gR xs xs)[i]?=some d->∃x∈xs,d=.tup [x,x]
 |x::xs,0,d,h=>by cases h;exact⟨x,PJ,rfl⟩
 |x::xs,i+1,d,h=>by
  obtain⟨y,h1,h2⟩:=zip_get xs i d h;exact⟨y,PL _ h1,h2⟩
theorem jw:∀(n g:Nat)(d:D),n<g->AL n d->au g [d,d]=.ok (.bl true):=by
 intro n
 induction n with
 |zero=>
  intro g d hg hd;obtain⟨g,rfl⟩:∃g',g=g'+1:=⟨g-1,by omega⟩
  show aC (bV (au g)) 2 4 [d,d]=_;rw[cE];unfold bV;rcases hd with⟨i,rfl⟩|⟨x,rfl⟩
  ·have t2:fD "str" (.int i)=some (.bl false):=rfl;have t3:fD "int" (.int i)=some (.bl true):=rfl;have t4:fD "bool" (.int i)=some (.bl false):=rfl;simp! only[t2,t3,t4,beq_self_eq_true,QQ]
  ·have t2:fD "str" (.str x)=some (.bl true):=rfl;simp! only[t2,beq_self_eq_true,QQ]
 |succ n ih=>
  intro g d hg hd;obtain⟨g,rfl⟩:∃g',g=g'+1:=⟨g-1,by omega⟩
  show aC (bV (au g)) 2 4 [d,d]=_;rw[cE];unfold bV;rcases hd with(⟨i,rfl⟩|⟨x,rfl⟩)|⟨ds,rfl,dl,hds⟩
  ·have t2:fD "str" (.int i)=some (.bl false):=rfl;have t3:fD "int" (.int i)=some (.bl true):=rfl;have t4:fD "bool" (.int i)=some (.bl false):=rfl;simp! only[t2,t3,t4,beq_self_eq_true,QQ]
  ·have t2:fD "str" (.str x)=some (.bl true):=rfl;simp! only[t2,beq_self_eq_true,QQ]
  ·have t1:fD "tuple" (.tup ds)=some (.bl true):=rfl;have t2:fD "str" (.tup ds)=some (.bl false):=rfl;have t3:fD "int" (.tup ds)=some (.bl false):=rfl;have t4:fD "bool" (.tup ds)=some (.bl false):=rfl;simp! only[t1,t2,t3,t4,beq_self_eq_true,nI];refine cZ (Q:=λz=>z=.ok (.bl true)) (λi ρ=>ρ=[‹.tup ds›,‹.tup ds›,none,none]) ?_ rfl ?_
   ·rintro i d ρ kk hd rfl;obtain⟨x,hx,rfl⟩:=zip_get ds i d hd;have ea:=ih g x ‹0› (hds x hx);refine⟨[‹.tup ds›,‹.tup ds›,‹x›,‹x›],_,rfl,rfl,?_⟩;simp! only[ea]
   ·rintro ρ' rfl;rfl
noncomputable def kq(f:List D):cX:=(keysOf f).getD []
theorem Kh(q:cX):kq (q.map bg)=q:=by unfold kq;rw[bR];rfl
theorem tq{σ:bQ}{f:List D}(h:Sh σ f):(kq f).map bg=f:=by
 obtain⟨q,e⟩:=pf h;rw[e,Kh]
theorem nX{σ:bQ}{f f':List D}(h:Sh σ f)(h':Sh σ f')(e:kq f=kq f'):f=f':=by
 rw[<-tq h,e,tq h']
theorem uM:∀(ps al:cx),((al++ps).map (·.1)).Nodup->ps.foldl (λal p=>gG al p.1 p.2) al=al++ps
 |[],al,_=>by rw[Qa];rfl
 |p::ps,al,h=>by
  rw[RB];have e:gG al p.1 p.2=al++[p]:=by
   unfold gG;rw[if_neg];intro z;obtain⟨a,ha,e⟩:=List.any_eq_true.mp z;rw[QV,P6]at h;exact(List.nodup_append.mp h).2.2 a.1 (List.mem_map.mpr ⟨a,ha,rfl⟩) p.1 PJ (of_decide_eq_true e)
  rw[e,uM ps (al++[p]) (by rw[Rf];exact h),Rf];rfl
theorem qu:∀ps:cx,iJ (ps.map jU)=some ps
 |[]=>rfl
 |p::ps=>by
  show(wz (jU p)).bind (λq=>(iJ (ps.map jU)).map (q::·))=_;rw[qu ps];show((fK (.tup (p.1.map bg))).map _).bind _=_;rw[mK];rfl
variable{τ:bQ}{m:Nat}
theorem IW{T:bB}(hs:∀r∈T,Sh τ (r.take m))(h:xY m T):T.Pairwise λa b=>a.take m≠b.take m:=
 List.Pairwise.imp_of_mem (λ{a b} ha hb e z=>by rw[z,kI (hs b hb)]at e;cases e) h
structure So(τ:bQ)(m:Nat)(L:bB):Prop where
 t0:τ≠[]
 hm:m=τ.length
 sh:∀r∈L,Sh τ (r.take m)
 pw:L.Pairwise λa b=>a.take m≠b.take m
 ln:L.length<64
theorem So.prog{L T:bB}(h:So τ m L)(r:xY m T)(p:T.Perm L):aC dB 2 2 [.int m,.lst (L.map .tup)]=.ok (.tup (T.map .tup)):=by
 have k:Le m (L.map .tup):=⟨by rw[P7];exact h.ln,τ,h.t0,λx hx=>by
  obtain⟨r,hr,rfl⟩:=List.mem_map.mp hx;exact⟨r,rfl,h.sh r hr⟩,List.pairwise_map.mpr h.pw⟩
 have so:iy (rq m) (L.map .tup)=T.map .tup:=by
  refine uU (σ:=τ) (λx hx=>?_) ?_ ?_ (p.map _)
  ·obtain⟨r,hr,rfl⟩:=List.mem_map.mp hx;exact h.sh r hr
  ·exact List.pairwise_map.mpr h.pw
  ·exact List.pairwise_map.mpr r
 have e:om (.lst (L.map .tup)) (.int m)=some (.lst (T.map .tup)):=by
  show(if(0:Int)<=(m:Int)then pX ((m:Int)).toNat (L.map .tup)else none)=_;rw[if_pos ‹0›,Qk];unfold pX;rw[if_pos k,so]
 rw[cE];unfold dB;simp! only[e]
theorem JU(xs:List D):lI [.lst xs]=some (.lst xs):=nr rfl
noncomputable def AB:Nat->D->Prop
 |0,d=>(∃i,d=.int i)\/(∃x,d=.str x)\/∃b,d=.bl b
 |n+1,d=>((∃i,d=.int i)\/(∃x,d=.str x)\/∃b,d=.bl b)\/∃ds,d=.tup ds/\ds.length<=1000/\∀x∈ds,AB n x
theorem AB.of0{d:D}(h:AB 0 d):∀n,AB n d
 |0=>h
 |_+1=>.inl h
theorem AB.up:∀{n:Nat}{d:D},AB n d->AB (n+1) d
 |0,_,h=>.inl h
 |n+1,_,h=>by
  rcases h with h|⟨ds,e,l,f⟩
  ·exact .inl h
  ·exact .inr ⟨ds,e,l,λx hx=>AB.up (f x hx)⟩
theorem AB.le{n m:Nat}(h:n<=m){d:D}(hd:AB n d):AB m d:=by
  induction m with
  | zero => have : n = 0 := by omega
            subst this;exact hd
  |succ m ih=>
    by_cases e:n=m+1
    ·subst e;exact hd
    ·exact AB.up (ih ‹0›)
theorem AB.tup{n:Nat}{ds:List D}(l:ds.length<=1000)(h:∀x∈ds,AB n x):AB (n+1) (.tup ds):=.inr ⟨ds,rfl,l,h⟩
theorem AB.str{n:Nat}(x:Str):AB n (.str x):=AB.of0 (.inr (.inl ⟨x,rfl⟩)) n
theorem AB.int{n:Nat}(i:Int):AB n (.int i):=AB.of0 (.inl ⟨i,rfl⟩) n
theorem AB.bl{n:Nat}(b:Bool):AB n (.bl b):=AB.of0 (.inr (.inr ⟨b,rfl⟩)) n
theorem qy(g:Nat)(d:D)(h:AB 0 d):au (g+1) [d,d]=.ok (.bl true):=by
 show aC (bV (au g)) 2 4 [d,d]=_;rw[cE];unfold bV;rcases h with⟨i,rfl⟩|⟨x,rfl⟩|⟨b,rfl⟩
 ·have t2:fD "str" (.int i)=some (.bl false):=rfl;have t3:fD "int" (.int i)=some (.bl true):=rfl;have t4:fD "bool" (.int i)=some (.bl false):=rfl;simp! only[t2,t3,t4,beq_self_eq_true,QQ]
 ·have t2:fD "str" (.str x)=some (.bl true):=rfl;simp! only[t2,beq_self_eq_true,QQ]
 ·have t2:fD "str" (.bl b)=some (.bl false):=rfl;have t4:fD "bool" (.bl b)=some (.bl true):=rfl;simp! only[t2,t4,beq_self_eq_true,QQ]
theorem Fb:∀(n g:Nat)(d:D),n<g->AB n d->au g [d,d]=.ok (.bl true):=by
 intro n
 induction n with
 |zero=>
  intro g d hg hd;obtain⟨g,rfl⟩:∃g',g=g'+1:=⟨g-1,by omega⟩
  exact qy g d hd
 |succ n ih=>
  intro g d hg hd;obtain⟨g,rfl⟩:∃g',g=g'+1:=⟨g-1,by omega⟩
  rcases hd with h|⟨ds,rfl,dl,hds⟩
  ·exact qy g d h
  ·show aC (bV (au g)) 2 4 [.tup ds,.tup ds]=_;rw[cE];unfold bV;have t1:fD "tuple" (.tup ds)=some (.bl true):=rfl;have t2:fD "str" (.tup ds)=some (.bl false):=rfl;have t3:fD "int" (.tup ds)=some (.bl false):=rfl;have t4:fD "bool" (.tup ds)=some (.bl false):=rfl;simp! only[t1,t2,t3,t4,beq_self_eq_true,nI];refine cZ (Q:=λz=>z=.ok (.bl true)) (λi ρ=>ρ=[‹.tup ds›,‹.tup ds›,none,none]) ?_ rfl ?_
   ·rintro i d ρ kk hd rfl;obtain⟨x,hx,rfl⟩:=zip_get ds i d hd;have ea:=ih g x ‹0› (hds x hx);refine⟨[‹.tup ds›,‹.tup ds›,‹x›,‹x›],_,rfl,rfl,?_⟩;simp! only[ea]
   ·rintro ρ' rfl;rfl
theorem C9(c:Kd)(h:c.gd):AB 2 c.d:=by
 cases c with
 |num lo hi=>
  exact AB.tup (by simp) λx hx=>by
   rcases List.mem_cons.mp hx with rfl|hx
   ·exact AB.str _
   ·rcases List.mem_cons.mp hx with rfl|hx
    ·exact AB.int _
    ·rw[List.mem_singleton.mp hx];exact AB.int _
 |wrd ws=>
  have hl:ws.length<=100:=h.2;exact AB.tup (by simp) λx hx=>by
   rcases List.mem_cons.mp hx with rfl|hx
   ·exact AB.str _
   ·rw[List.mem_singleton.mp hx];exact AB.tup (by rw[P7];omega) λy hy=>by
     obtain⟨w,_,rfl⟩:=List.mem_map.mp hy;exact AB.str _
theorem yJ{n:Nat}{a b:D}(ha:AB n a)(hb:AB n b):AB (n+1) (.tup [a,b]):=AB.tup (by simp) λx hx=>by
 rcases List.mem_cons.mp hx with rfl|hx
 ·exact ha
 ·rw[List.mem_singleton.mp hx];exact hb
theorem zk{n:Nat}{L:List D}(hl:L.length<=1000)(h:∀d∈L,∃(w:Str)(k:D),d=.tup [.str w,k]/\AB n k):AB (n+2) (.tup L):=AB.tup hl λx hx=>by
 obtain⟨w,k,rfl,hk⟩:=h x hx;exact yJ (AB.str _) hk
theorem GU{n:Nat}{f:D}(b:Bool)(hf:AB n f):AB (n+1) (.tup [.str "rows",f,.bl b]):=AB.tup (by simp) λx hx=>by
 rcases List.mem_cons.mp hx with rfl|hx
 ·exact AB.str _
 ·rcases List.mem_cons.mp hx with rfl|hx
  ·exact hf
  ·rw[List.mem_singleton.mp hx];exact AB.bl _
theorem Hs{n:Nat}(ks:KL)(qs:dZ)(k8:ks.length<=8)(q8:qs.length<=8)(hk:∀p∈ks,p.2.gd)(hq:∀q∈qs,AB (2+n) q.2):AB (5+n) (fr ks qs):=by
 have e:5+n=(2+n+2)+1:=by omega
 rw[e];refine yJ (zk (by rw[P7];omega) λd hd=>?_) (zk (by rw[P7];omega) λd hd=>?_)
 ·obtain⟨p,hp,rfl⟩:=List.mem_map.mp hd;exact⟨p.1,p.2.d,rfl,AB.le ‹0› (C9 p.2 (hk p hp))⟩
 ·obtain⟨p,hp,rfl⟩:=List.mem_map.mp hd;exact⟨p.1,p.2,rfl,hq p hp⟩
theorem Hj:∀(n:Nat)(d:D),KG n d->AB (2+4*n) d
 |0,d,h=>by
  obtain⟨c,hc,rfl⟩:=h;exact C9 c hc
 |n+1,d,h=>by
  rcases h with⟨c,hc,rfl⟩|⟨ks,qs,b,rfl,_,k8,hk,q8,hq⟩
  ·exact AB.le ‹0› (C9 c hc)
  ·have:=GU b (Hs (n:=4*n) ks qs k8 q8 hk λq hq'=>Hj n _ (hq q hq'))
   exact AB.le ‹0› this
theorem IQ{σ:bQ}{a b:List D}(h:Sh σ a)(h':Sh σ b):eS (.tup a) (.tup b)=some (.bl (eI a b)):=by
 have e:eS (.tup a) (.tup b)=if(pl (.tup a)&&pl (.tup b))&&(dU 8 (.tup a)||dU 8 (.tup b))then some (.bl (pyEq (.tup a) (.tup b)))else none:=rfl
 have d:dU 8 (.tup a)=true:=by show a.all (dU 7)=true;exact xM 6 h
 rw[e,du,du,yK h,yK h',d];show some (D.bl (pyEq (.tup a) (.tup b)))=_;rw[pyEq]
open Classical in
theorem GK{σ:bQ}{a b:List D}(h:Sh σ a)(h':Sh σ b):eS (.tup a) (.tup b)=some (.bl (decide (a=b))):=by
 rw[IQ h h'];congr 2;by_cases e:a=b
 ·rw[decide_eq_true e];exact(uJ h h').mpr e
 ·rw[decide_eq_false e];cases z:eI a b with
  |false=>rfl
  |true=>exact absurd ((uJ h h').mp z) e
theorem yu{ρ:aq}{g:GF}{C:bT}{Fe:FX}(P:D->Prop):∀ds:List D,(∀d∈ds,∃ρ1 b,g d ρ=some ρ1/\C ρ1=.ok b/\(b=true->∃v,Fe ρ1=.ok v/\P v))->∃vs:List D,(∀v∈vs,P v)/\yx ρ g C Fe ds=.ok vs
 |[],_=>⟨[],(λ_ h=>nomatch h),rfl⟩
 |d::ds,h=>by
  obtain⟨ρ1,b,e1,e2,e3⟩:=h d PJ;obtain⟨vs,v1,v2⟩:=yu P ds λx hx=>h x (PL _ hx);rw[j8,e1,eA,cJ,e2,gQ,cJ,v2];cases b with
  |false=>exact⟨vs,v1,rfl⟩
  |true=>
   obtain⟨v,ev,pv⟩:=e3 rfl;refine⟨v::vs,λx hx=>?_,by rw[if_pos rfl,ev,gQ,cJ,cJ]⟩;rcases List.mem_cons.mp hx with rfl|hx
   ·exact pv
   ·exact v1 x hx
theorem yW{n:Int}:∀(vs:List Int)(a:Int),0<=a->a<=n->(∀v∈vs,0<v/\v<=n)->0<=vs.foldl mx a/\vs.foldl mx a<=n
 |[],a,h0,h1,_=>⟨h0,h1⟩
 |v::vs,a,h0,h1,h=>by
  rw[RB]
  have:=h v PJ
  exact yW vs _ (by unfold mx;split<;>omega) (by unfold mx;split<;>omega) λw hw=>h w (PL _ hw)
theorem ints_of(n:Int):∀vs:List D,(∀v∈vs,∃z:Int,v=.int z/\0<z/\z<=n)->∃zs:List Int,vs=zs.map .int/\∀z∈zs,0<z/\z<=n
 |[],_=>⟨[],rfl,λ_ h=>nomatch h⟩
 |v::vs,h=>by
  obtain⟨z,e,hz⟩:=h v PJ;obtain⟨zs,ez,hs⟩:=ints_of n vs λx hx=>h x (PL _ hx);exact⟨z::zs,by rw[e,ez];rfl,λx hx=>by
   rcases List.mem_cons.mp hx with rfl|hx
   ·exact hz
   ·exact hs x hx⟩
theorem Hg(c:Kd):∃x:Str,ah c.d (.int 0)=some (.str x)/\(x==("rows":Str))=false:=by
 cases c with
 |num lo hi=>exact⟨"number",rfl,HG⟩
 |wrd ws=>exact⟨"word",rfl,Gh⟩
theorem BC:∀(n g:Nat),n+1<=g->∀(ks:KL)(qs:dZ),ks.length<=8->qs.length<=8->(∀q∈qs,KG n q.2)->∃d:Int,0<=d/\d<=n/\bu g [fr ks qs]=.ok (.int d):=by
 intro n
 induction n with
 |zero=>
  intro g hg ks qs k8 q8 hq;obtain⟨g,rfl⟩:∃g',g=g'+1:=⟨g-1,by omega⟩
  have ko:=BD (ks.map toD) qs (by rw[P7];exact k8) q8;have ko:aC dI 1 1 [fr ks qs]=.ok (.tup ((ks.map toD++qs).map (·.2))):=by
   unfold fr;rw[lZ];exact ko
  obtain⟨vs,v1,v2⟩:=yu (ρ:=[none]) (g:=gN 0) (C:=fB (f2 eS (f2 ah (ae 0) (fC (.int 0))) (fC (.str "rows")))) (Fe:=f2 aW (fC (.int 1)) (fR (bu g) (aa (f2 ah (ae 0) (fC (.int 1))) af))) (λ_=>False) ((ks.map toD++qs).map (·.2)) λd hd=>by
   obtain⟨p,hp,rfl⟩:=List.mem_map.mp hd;obtain⟨c,ec⟩:∃c:Kd,p.2=c.d:=by
    rcases List.mem_append.mp hp with z|z
    ·obtain⟨k,_,rfl⟩:=List.mem_map.mp z;exact⟨k.2,rfl⟩
    ·obtain⟨c,_,e⟩:=hq p z;exact⟨c,e⟩
   obtain⟨x,i1,i2⟩:=Hg c;rw[ec];exact⟨[‹c.d›],false,rfl,by simp! only[i1,i2],λz=>by cases z⟩
  have vs0:vs=[]:=List.eq_nil_iff_forall_not_mem.mpr λv hv=>v1 v hv;subst vs0;refine⟨0,by decide,by decide,?_⟩;rw[eO,gI];unfold ip;have f0:dA [none] (aG (fR (aC dI 1 1) (aa (ae 0) af))) (gN 0) (fB (f2 eS (f2 ah (ae 0) (fC (.int 0))) (fC (.str "rows")))) (f2 aW (fC (.int 1)) (fR (bu g) (aa (f2 ah (ae 0) (fC (.int 1))) af))) [‹fr ks qs›]=.ok (.lst []):=
   cj (ds:=(ks.map toD++qs).map λp:Str×D=>p.2) (by simp! only[ko]) (by rw[P7,Qj,P7];omega) v2
  have gm:oO 0 (.lst [])=some (.int 0):=rfl;simp! only[f0,gm]
 |succ n ih=>
  intro g hg ks qs k8 q8 hq;obtain⟨g,rfl⟩:∃g',g=g'+1:=⟨g-1,by omega⟩
  have ko:=BD (ks.map toD) qs (by rw[P7];exact k8) q8;have ko:aC dI 1 1 [fr ks qs]=.ok (.tup ((ks.map toD++qs).map (·.2))):=by
   unfold fr;rw[lZ];exact ko
  obtain⟨vs,v1,v2⟩:=yu (ρ:=[none]) (g:=gN 0) (C:=fB (f2 eS (f2 ah (ae 0) (fC (.int 0))) (fC (.str "rows")))) (Fe:=f2 aW (fC (.int 1)) (fR (bu g) (aa (f2 ah (ae 0) (fC (.int 1))) af))) (λv=>∃z:Int,v=.int z/\0<z/\z<=((n+1:Nat):Int)) ((ks.map toD++qs).map (·.2)) λd hd=>by
   obtain⟨p,hp,rfl⟩:=List.mem_map.mp hd;have pc:(∃c:Kd,p.2=c.d)\/∃(ks:KL)(qs:dZ)(b:Bool),p.2=.tup [.str "rows",fr ks qs,.bl b]/\ks.length<=8/\qs.length<=8/\∀q∈qs,KG n q.2:=by
    rcases List.mem_append.mp hp with z|z
    ·obtain⟨k,_,rfl⟩:=List.mem_map.mp z;exact .inl ⟨k.2,rfl⟩
    ·rcases hq p z with⟨c,_,e⟩|⟨ks,qs,b,e,_,k8,_,q8,hq⟩
     ·exact .inl ⟨c,e⟩
     ·exact .inr ⟨ks,qs,b,e,k8,q8,hq⟩
   rcases pc with⟨c,ec⟩|⟨ks',qs',b,ec,k8',q8',hq'⟩
   ·obtain⟨x,i1,i2⟩:=Hg c;rw[ec];exact⟨[‹c.d›],false,rfl,by simp! only[i1,i2],λz=>by cases z⟩
   ·obtain⟨d,d0,d1,ed⟩:=ih g ‹0› ks' qs' k8' q8' hq';rw[ec];exact⟨[‹.tup [.str "rows",fr ks' qs',.bl b]›],true,rfl,by simp! only[BEq.rfl],λ_=>⟨.int (1+d),by simp! only[ed],1+d,rfl,by omega,by omega⟩⟩
  obtain⟨zs,rfl,hz⟩:=ints_of _ vs v1;obtain⟨f0,f1⟩:=yW zs 0 (by decide) ‹0› hz;refine⟨zs.foldl mx 0,f0,f1,?_⟩;rw[eO,gI];unfold ip;have f0:dA [none] (aG (fR (aC dI 1 1) (aa (ae 0) af))) (gN 0) (fB (f2 eS (f2 ah (ae 0) (fC (.int 0))) (fC (.str "rows")))) (f2 aW (fC (.int 1)) (fR (bu g) (aa (f2 ah (ae 0) (fC (.int 1))) af))) [‹fr ks qs›]=.ok (.lst (zs.map .int)):=
   cj (ds:=(ks.map toD++qs).map λp:Str×D=>p.2) (by simp! only[ko]) (by rw[P7,Qj,P7];omega) v2
  have gm:oO 0 (.lst (zs.map .int))=some (.int (zs.foldl mx 0)):=by
   unfold oO;simp only[vF];show some (D.int _)=_;rw[BI _ λv hv=>(hz v hv).1]
  simp! only[f0,gm]
section
open Classical
theorem CC{σ:bQ}(k:List D)(v:D)(hk:Sh σ k)(ψ:List D->List D):∀L:bB,(∀f∈L,Sh σ f)->L.Nodup->(∀f∈L,(ψ f).length<1000)->(k∉L->ψ k=[])->
  qX (L.map λf=>(kq f,.lst (ψ f))) (kq k) v=some ((if k∈L then L else L++[k]).map λf=>(kq f,.lst (ψ f++if k=f then[v]else[])))
 |[],_,_,_,h0=>by
  rw[if_neg (by simp)];show some [(kq k,D.lst [v])]=some [(kq k,.lst (ψ k++if k=k then[v]else[]))];rw[h0 (by simp),if_pos rfl];rfl
 |f::L,hL,nd,hl,h0=>by
  obtain⟨n1,n2⟩:=List.nodup_cons.mp nd;show(if kq f=kq k then _ else _)=_;by_cases h:f=k
  ·subst h;rw[if_pos rfl,if_pos PJ];show(if small ((ψ f).length+1)then some ((kq f,D.lst (ψ f++[v]))::L.map λf=>(kq f,.lst (ψ f)))else none)=_;have hl0:=hl f PJ;rw[if_pos (show small ((ψ f).length+1)=true from decide_eq_true ‹0›),P6,if_pos rfl];congr 2;refine QU λx hx=>?_;rw[if_neg (λz=>n1 (by rw[z];exact hx)),Qa]
  ·rw[if_neg (λz=>h (nX (hL f PJ) hk z))];have ih:=CC k v hk ψ L (λx hx=>hL x (PL _ hx)) n2 (λx hx=>hl x (PL _ hx)) (λz=>h0 λy=>by
    rcases List.mem_cons.mp y with y|y
    ·exact h y.symm
    ·exact z y)
   rw[show qX (List.map (λf=>(kq f,D.lst (ψ f))) L) (kq k) v=_ from ih];have em:k∈f::L↔k∈L:=by
    rw[Ri];exact⟨λz=>z.resolve_left λy=>h y.symm,.inr⟩
   by_cases hm:k∈L
   ·rw[if_pos hm,if_pos (em.mpr hm),P6,if_neg (λz=>h z.symm),Qa];rfl
   ·rw[if_neg hm,if_neg (λz=>hm (em.mp z)),QE,P6,if_neg (λz=>h z.symm),Qa];rfl
structure Tab(σ:bQ)(t:bB):Prop where
 sh:∀r∈t,Sh σ (r.take σ.length)
 ri:xY σ.length t
 ln:t.length<64
 rl:∀r∈t,r.length<=16/\σ.length<=r.length
 al:∀r∈t,∀v∈r,AL 6 v
variable{σ:bQ}{t:bB}
theorem Ck(m:Nat)(t:bB)(f:List D):(gp m t f).length<=t.length:=by
 unfold gp;rw[P7];exact Sj _ _
theorem Tab.fsh(T:Tab σ t)(hm:m<=σ.length):∀r∈t,Sh (σ.take m) (r.take m):=λr h=>by
 have:=pj m (T.sh r h)
 rw[List.take_take,RZ hm]at this;exact this
theorem D5(s:bB)(h:∀r∈s,Sh (σ.take m) (r.take m)):∀f∈fs m s,Sh (σ.take m) f:=λf hf=>by
 obtain⟨r,hr,rfl⟩:=(yp m).mp hf;exact h r hr
theorem vG{i:Nat}(h:i<t.length):t.take (i+1)=t.take i++[t[i]]:=Sg h
theorem GX(L:bB)(nd:L.Nodup)(h:∀f∈L,Sh (σ.take m) f)(v:List D->D):((L.map λf=>(kq f,v f)).map (·.1)).Nodup:=by
 rw[RN];refine List.pairwise_map.mpr (List.Pairwise.imp_of_mem (λ{a b} ha hb ne e=>ne ?_) nd);exact nX (h a ha) (h b hb) e
theorem wY(T:Tab σ t)(hm:m<=σ.length):aC iO 2 4 [.int m,.tup (t.map .tup)]=.ok (bS ((fs m t).map λf=>(kq f,.tup ((gp m t f).map .tup)))):=by
 have fsh:=T.fsh hm;have fl:=DA m t;have tl:=T.ln;have fsL:=D5 t fsh;obtain⟨TT,hT⟩:∃TT:bH,TT=(sd 2 (aN (fL jZ (aa (dA [none,none] (mI (ae 2)) (gT 2 (jR [0,1])) bF (aL (aa (ae 0) (aa (fL aZ (aa (ae 1) af)) af)))) af)))):=⟨_,rfl⟩
 rw[cE];unfold iO;rw[<-hT];have nn:∀K:Ks,wt 2 K [‹.int m›,‹.tup (t.map .tup)›,none,none]=K.nx [‹.int m›,‹.tup (t.map .tup)›,some (.nest (bS [])),none]:=λK=>rfl;simp! only[nn];refine cZ (Q:=λz=>z=.ok (bS ((fs m t).map λf=>(kq f,.tup ((gp m t f).map .tup))))) (λi ρ=>ρ=[‹.int m›,‹.tup (t.map .tup)›,some (.nest (bS ((fs m (t.take i)).map λf=>(kq f,.lst ((gp m (t.take i) f).map .tup))))),none]) ?_ rfl ?_
 ·rintro i d ρ kk hd rfl;have hi:=bW hd;rw[P7]at hi;rw[Qh,QO hi]at hd;cases hd;have rm:t[i]∈t:=RK hi;have fi:=DA m (t.take i);rw[Qd]at fi;have gi:=CC (σ:=σ.take m) (t[i].take m) (.tup (t[i].drop m)) (fsh _ rm) (λf=>(gp m (t.take i) f).map .tup) (fs m (t.take i)) (D5 _ λr hr=>fsh r (Sl hr)) (B1 m _) (λf _=>by
   have:=Ck m (t.take i) f
   rw[Qd]at this;rw[P7];omega) (λz=>by
    unfold gp;rw[List.filter_eq_nil_iff.mpr]
    ·rfl
    ·intro x hx y;exact z ((yp m).mpr ⟨x,hx,by simpa using y⟩))
  have ge:∀f,((gp m (t.take i) f).map D.tup++if t[i].take m=f then[.tup (t[i].drop m)]else[])=(gp m (t.take (i+1)) f).map .tup:=λf=>by
   rw[vG hi,El,QV];by_cases h:t[i].take m=f
   ·rw[if_pos h,if_pos h];rfl
   ·rw[if_neg h,if_neg h];rfl
  have fe:fs m (t.take (i+1))=if t[i].take m∈fs m (t.take i)then fs m (t.take i)else fs m (t.take i)++[t[i].take m]:=by
   rw[vG hi,pC];rfl
  rw[<-fe]at gi;simp only[ge]at gi;refine⟨_,_,rfl,rfl,?_⟩;have gr:∀K:Ks,AG 2 (aH (ae 3) av (aY (ae 0))) (aH (ae 3) (aY (ae 0)) av) K [‹.int m›,‹.tup (t.map .tup)›,some (.nest (bS ((fs m (t.take i)).map λf=>(kq f,.lst ((gp m (t.take i) f).map .tup))))),‹.tup t[i]›]=K.nx [‹.int m›,‹.tup (t.map .tup)›,some (.nest (bS ((fs m (t.take (i+1))).map λf=>(kq f,.lst ((gp m (t.take (i+1)) f).map .tup))))),‹.tup t[i]›]:=λK=>by
   generalize hal:((fs m (t.take i)).map λf=>(kq f,D.lst ((gp m (t.take i) f).map .tup)))=al at gi;have all:al.length<=t.length:=(by rw[<-hal,P7];omega);have g2:vC (encK al) (al.map (·.2)) (.tup (t[i].take m)) (.tup (t[i].drop m))=some ((fs m (t.take (i+1))).map λf=>(kq f,.lst ((gp m (t.take (i+1)) f).map .tup))):=by
    unfold vC;rw[gx];show(fK (.tup (t[i].take m))).bind _=_
    have:t[i].take m=(kq (t[i].take m)).map bg:=(tq (fsh _ rm)).symm
    rw[this,mK];show(if small al.length then _ else _)=_;rw[if_pos (cK ‹0›)];exact gi
   have k1:aH (ae 3) av (aY (ae 0)) [‹.int m›,‹.tup (t.map .tup)›,some (.nest (bS al)),‹.tup t[i]›]=.ok (.tup (t[i].take m)):=by
    generalize bS al=Z;simp! only[eZ]
   have k2:aH (ae 3) (aY (ae 0)) av [‹.int m›,‹.tup (t.map .tup)›,some (.nest (bS al)),‹.tup t[i]›]=.ok (.tup (t[i].drop m)):=by
    generalize bS al=Z;simp! only[fh]
   show(((xj _).bind λq=>(xj _).bind λv=>rO (vC (encK al) (al.map (·.2)) q v)).bind _)=_;rw[k1,k2,gQ,cJ,gQ,cJ,g2,eA,cJ];rfl
  generalize bS ((fs m (t.take (i+1))).map λf=>(kq f,.lst ((gp m (t.take (i+1)) f).map .tup)))=Y at gr ⊢;generalize bS ((fs m (t.take i)).map λf=>(kq f,.lst ((gp m (t.take i) f).map .tup)))=Z at gr ⊢;simp! only[gr]
 ·rintro ρ' rfl;rw[P7,QY,hT];generalize hal:((fs m t).map λf=>(kq f,D.lst ((gp m t f).map .tup)))=al;have all:al.length<=t.length:=by rw[<-hal,P7];omega
  have fz:∀(F:bH)(K:Ks),sd 2 F K [‹.int m›,‹.tup (t.map .tup)›,some (.nest (bS al)),none]=F K [‹.int m›,‹.tup (t.map .tup)›,‹vT al›,none]:=λF K=>by
   show F K (match iM (encK al) (al.map (·.2))with|some al=>setV 2 (vT al) _|none=>_)=_;rw[gx];rfl
  have knd:=GX (m:=m) (σ:=σ) (fs m t) (B1 m t) fsL (λf=>.tup ((gp m t f).map .tup));have pr:=qu ((fs m t).map λf=>(kq f,D.tup ((gp m t f).map .tup)));have df:jZ [.lst (((fs m t).map λf=>(kq f,D.tup ((gp m t f).map .tup))).map jU)]=some (bS ((fs m t).map λf=>(kq f,.tup ((gp m t f).map .tup)))):=by
   show(iJ _).bind _=_;rw[pr];show(if small _ then _ else _)=_;rw[if_pos (cK (by rw[P7];omega))]
   have:=uM ((fs m t).map λf=>(kq f,D.tup ((gp m t f).map .tup))) [] knd
   unfold za;rw[this];rfl
  have it:=BF al;have lc:dA [none,none] (mI (ae 2)) (gT 2 (jR [0,1])) bF (aL (aa (ae 0) (aa (fL aZ (aa (ae 1) af)) af))) [‹.int m›,‹.tup (t.map .tup)›,‹vT al›,none]=.ok (.lst (((fs m t).map λf=>(kq f,D.tup ((gp m t f).map .tup))).map jU)):=by
   refine cj (ds:=al.map jU) ?_ (by rw[P7];omega) ?_
   ·show((ae 2 _).bind _)=_;generalize vT al=Z at it;simp! only[it]
   ·rw[<-hal,RN,RN];refine eP _ _ (fs m t) λf hf=>?_;refine⟨[‹.tup ((kq f).map bg)›,‹.lst ((gp m t f).map .tup)›],rfl,rfl,?_⟩;simp! only[mV];rfl
  generalize vT al=Z at lc fz;generalize bS al=Z0 at fz ⊢;generalize bS ((fs m t).map λf=>(kq f,D.tup ((gp m t f).map .tup)))=Y at df ⊢;simp! only[fz,lc,df]
end
noncomputable def mn(i j:Int):Int:=if j<i then j else i
theorem Km(a:Kd):pl a.d=true:=by
 cases a with
 |num _ _=>rfl
 |wrd ws=>
  show pl (.tup [.str "word",.tup (ws.map .str)])=true;rw[du];show(pl (.str "word")&&(pl (.tup (ws.map .str))&&lA []))=true;rw[du,mP D.str λ_=>rfl];rfl
noncomputable def Kd.srt:Kd->Str
 |.num _ _=>"number"
 |.wrd _=>"word"
noncomputable def Kd.ok:Kd->Prop
 |.num _ _=>True
 |.wrd ws=>ws.length<=100
noncomputable def Kd.bad:Kd->Bool
 |.num a b=>decide (b<a)
 |.wrd ws=>ws.isEmpty
noncomputable def qT:Kd->Kd->Kd
 |.num a b,.num x y=>.num (mx a x) (mn b y)
 |.wrd ws,.wrd us=>.wrd (ws.filter λw=>us.contains w)
 |k,_=>k
noncomputable def bo(k s:Kd):D:=if(qT k s).bad then .non else(qT k s).d
theorem Gz:(("number":Str)==("word":Str))=false:=by decide +kernel
theorem Kj(k:Kd):ah k.d (.int 0)=some (.str k.srt):=by
 cases k with
 |num a b=>exact mO _ _
 |wrd ws=>exact mO _ _
theorem yv{k s:Kd}(h:k.srt=s.srt)(hk:k.ok):aC mZ 2 2 [k.d,s.d]=.ok (bo k s)/\aC dq 2 2 [k.d,s.d]=.ok (qT k s).d:=by
 rw[cE,cE];unfold mZ dq;cases k with
 |num a b=>
  cases s with
  |num x y=>
   have bn:aC d7 2 4 [.tup [.str "number",.int a,.int b],.tup [.str "number",.int x,.int y]]=.ok (bo (.num a b) (.num x y)):=by
    rw[cE];unfold d7;cases hd:decide (mx a x<=mn b y)with
    |true=>
     have e:bo (.num a b) (.num x y)=.tup [.str "number",.int (mx a x),.int (mn b y)]:=by
      unfold bo;rw[if_neg]
      ·rfl
      ·show¬decide (mn b y<mx a x)=true
       have:=of_decide_eq_true hd
       rw[decide_eq_false ‹0›];simp
     have l1:decide ((if x>a then x else a)<=(if y<b then y else b))=true:=hd;rw[e];simp! only[l1,Ej];rfl
    |false=>
     have e:bo (.num a b) (.num x y)=.non:=by
      unfold bo;rw[if_pos];show decide (mn b y<mx a x)=true
      have:=of_decide_eq_false hd
      exact decide_eq_true ‹0›
     have l1:decide ((if x>a then x else a)<=(if y<b then y else b))=false:=hd;rw[e];simp! only[l1]
   constructor
   ·simp! only[Kd.d,lU,bn]
   ·simp! only[Kd.d,lU,Ej];rfl
  |wrd us=>exact absurd (show(("number":Str))="word"from h) (by decide +kernel)
 |wrd ws=>
  cases s with
  |num x y=>exact absurd (show(("word":Str))="number"from h) (by decide +kernel)
  |wrd us=>
   have hk:ws.length<=100:=hk;have f0:∀tl:aq,dA [none,some 1] (aG (f2 ah (ae 0) (fC (.int 1)))) (gN 0) (fB (f2 u6 (ae 0) (f2 ah (ae 1) (fC (.int 1))))) (ae 0) (‹.tup [.str "word",.tup (ws.map .str)]›::‹.tup [.str "word",.tup (us.map .str)]›::tl)=.ok (.lst ((ws.filter λw=>us.contains w).map .str)):=λtl=>by
    refine cj (ds:=ws.map .str) (by simp! only[]) (by rw[P7];omega) ?_;refine iq D.str (λw=>us.contains w) D.str ws λw _=>⟨_,rfl,?_,rfl⟩
    simp! only[pA]
   have bw:aC fg 2 3 [.tup [.str "word",.tup (ws.map .str)],.tup [.str "word",.tup (us.map .str)]]=.ok (bo (.wrd ws) (.wrd us)):=by
    have f0:=f0 [none];rw[cE];unfold fg;cases q:(ws.filter λw=>us.contains w)with
    |nil=>
     rw[q]at f0;have e:bo (.wrd ws) (.wrd us)=.non:=by
      unfold bo;rw[if_pos];show(ws.filter λw=>us.contains w).isEmpty=true;rw[q];rfl
     rw[e];have n0:(([]:ax).map D.str)=[]:=rfl;rw[n0]at f0;simp! only[f0];rfl
    |cons a r=>
     rw[q]at f0;have e:bo (.wrd ws) (.wrd us)=.tup [.str "word",.tup ((a::r).map .str)]:=by
      unfold bo;rw[if_neg]
      ·show D.tup [.str "word",.tup ((ws.filter λw=>us.contains w).map .str)]=_;rw[q]
      ·show¬(ws.filter λw=>us.contains w).isEmpty=true;rw[q];simp
     have ne:((a::r).map D.str).isEmpty=false:=rfl;rw[e];generalize (a::r).map D.str=Z at f0 ne;simp! only[f0,ne,mV]
   constructor
   ·simp! only[Kd.d,oq,mh,bw]
   ·have f0:=f0 [];simp! only[Kd.d,oq,f0,mV];rfl
theorem y4:∀a b:ax,eI (a.map .str) (b.map .str)=decide (a=b)
 |[],[]=>by unfold eI;simp
 |[],_::_=>by rw[Qq,P6];unfold eI;simp
 |_::_,[]=>by rw[Qq,P6];unfold eI;simp
 |x::a,y::b=>by
  rw[P6,P6];unfold eI;rw[y4 a b]
  have:pyEq (.str x) (.str y)=(x==y):=by unfold pyEq;rfl
  rw[this,Bool.eq_iff_iff];simp
theorem Fh(a b:ax):rH (.lst (a.map .str)) (.lst (b.map .str))=some (.bl (!decide (a=b))):=by
 have e:rH (.lst (a.map .str)) (.lst (b.map .str))=if(pl (.lst (a.map .str))&&pl (.lst (b.map .str)))&&(dU 8 (.lst (a.map .str))||dU 8 (.lst (b.map .str)))then some (.bl (!pyEq (.lst (a.map .str)) (.lst (b.map .str))))else none:=rfl
 have d:dU 8 (.lst (a.map .str))=true:=by
  show(a.map D.str).all (dU 7)=true;rw[QN];exact List.all_eq_true.mpr λ_ _=>rfl
 rw[e,dR,dR,mP D.str (λ_=>rfl) a,mP D.str (λ_=>rfl) b,d];show some (D.bl (!pyEq (.lst (a.map .str)) (.lst (b.map .str))))=_;rw[pyEq,y4]
noncomputable abbrev ZP:=(Str×Kd)×(Str×Kd)
structure Mt(c e:Kd):Prop where
 o1:c.ok
 o2:e.ok
 s:c.srt=e.srt
 b:(qT c e).bad=false
 b':(qT e c).bad=false
theorem Mt.gd{c e:Kd}(h:Mt c e):(qT c e).gd:=by
 have b:=h.b;have o:=h.o1;have s:=h.s;cases c with
 |num x y=>cases e with
  |num u v=>
   have b:decide (mn y v<mx x u)=false:=b;show mx x u<=mn y v
   have:=of_decide_eq_false b
   omega
  |wrd us=>cases s
 |wrd ws=>cases e with
  |num u v=>cases s
  |wrd us=>
   refine⟨λz=>?_,PD (Sj _ _) o⟩;have b:(ws.filter λw=>us.contains w).isEmpty=false:=b;rw[z]at b;cases b
theorem Mt.gds{c e:Kd}(h:Mt c e):c.gd/\e.gd/\(qT c e).b=c.b/\e.b=c.b:=by
 have b:=h.b;have o:=h.o1;have o2:=h.o2;have s:=h.s;cases c with
 |num x y=>cases e with
  |num u v=>
   have b:decide (mn y v<mx x u)=false:=b
   have:=of_decide_eq_false b
   unfold mn mx at this;refine⟨show x<=y from ?_,show u<=v from ?_,rfl,rfl⟩
   ·split at this<;>split at this<;>omega
   ·split at this<;>split at this<;>omega
  |wrd us=>cases s
 |wrd ws=>cases e with
  |num u v=>cases s
  |wrd us=>
   have b:(ws.filter λw=>us.contains w).isEmpty=false:=b;refine⟨⟨λz=>?_,o⟩,⟨λz=>?_,o2⟩,rfl,rfl⟩
   ·rw[z]at b;cases b
   ·have:(ws.filter λw=>us.contains w)=[]:=List.filter_eq_nil_iff.mpr λw _=>by rw[z];simp
    rw[this]at b;cases b
theorem wM{α:Type}(f g:α->D):∀L:List α,gR (L.map f) (L.map g)=L.map λz=>.tup [f z,g z]
 |[]=>rfl
 |a::L=>by
  rw[P6,P6,P6,<-wM f g L];rfl
noncomputable def bk(L:List ZP):KL:=L.map λz=>(z.1.1,qT z.1.2 z.2.2)
noncomputable abbrev k1(L:List ZP):KL:=L.map (·.1)
noncomputable abbrev k2(L:List ZP):KL:=L.map (·.2)
noncomputable abbrev Ok(L:List ZP):Prop:=∀z∈L,z.1.1=z.2.1/\Mt z.1.2 z.2.2
theorem sR{L:List ZP}(h:Ok L):∀p∈bk L,p.2.gd:=λp hp=>by
 obtain⟨z,hz,rfl⟩:=List.mem_map.mp hp;exact(h z hz).2.gd
theorem BU{α:Type}(f g:α->D)(t:List D):∀L:List α,gR (L.map f) (L.map g++t)=L.map λz=>.tup [f z,g z]
 |[]=>by cases t<;>rfl
 |a::L=>by
  rw[P6,P6,P6,<-BU f g t L];rfl
theorem KU{L:List ZP}(h:Ok L):∀p∈k1 L,p.2.gd:=λp hp=>by
 obtain⟨z,hz,rfl⟩:=List.mem_map.mp hp;exact(h z hz).2.gds.1
theorem Lc{L:List ZP}(h:Ok L):∀p∈k2 L,p.2.gd:=λp hp=>by
 obtain⟨z,hz,rfl⟩:=List.mem_map.mp hp;exact(h z hz).2.gds.2.1
noncomputable abbrev so(L:List ZP):bQ:=(bk L).map (·.2.b)
theorem Oq{L:List ZP}(h:Ok L):(k1 L).map (·.2.b)=so L:=by
 unfold so bk;rw[RN,RN];exact QU λz hz=>(h z hz).2.gds.2.2.1.symm
theorem OI{L:List ZP}(h:Ok L):(k2 L).map (·.2.b)=so L:=by
 unfold so bk;rw[RN,RN];exact QU λz hz=>by
  obtain⟨_,_,a,b⟩:=(h z hz).2.gds;exact b.trans a.symm
theorem j6(L:List ZP):(so L).length=L.length:=by unfold so bk;rw[P7,P7]
theorem qv{L:List ZP}(h:Ok L)(l8:L.length<=8)(t:KL)(a b:D):aC bA 2 5 [.tup [.tup ((k1 L).map kf),a],.tup [.tup ((k2 L++t).map kf),b]]=.ok (.tup ((bk L).map kf)):=by
 have ze:rk [.tup ((k1 L).map kf),.tup ((k2 L++t).map kf)]=some (L.map λz=>.tup [kf z.1,kf z.2]):=by
  show some (gR ((k1 L).map kf) ((k2 L++t).map kf))=_;rw[RN,QV,RN,BU];rfl
 obtain⟨T,hT⟩:∃T:bH,T=(fA 2 (aN (fL aZ (aa (ae 2) af)))):=⟨_,rfl⟩
 rw[cE];unfold bA;rw[<-hT];simp! only[HI,ze];generalize hA:D.tup [.tup ((k1 L).map kf),a]=A;generalize hB:D.tup [.tup ((k2 L++t).map kf),b]=B;refine cZ (Q:=λz=>z=.ok (.tup ((bk L).map kf))) (λi ρ=>ρ=[‹A›,‹B›,some (.own (.lst ((bk (L.take i)).map kf))),none,none]) ?_ rfl ?_
 ·rintro i d ρ kk hd rfl;have hi:=bW hd;rw[P7]at hi;rw[Qh,QO hi]at hd;cases hd;obtain⟨_,mt⟩:=h L[i] (RK hi);have ib:=(yv mt.s mt.o1).2;have ap:eK ((bk (L.take i)).map kf) [.tup [.str L[i].1.1,(qT L[i].1.2 L[i].2.2).d]]=some ((bk (L.take (i+1))).map kf):=by
   unfold bk;rw[jK (by rw[P7,P7,Qd];omega),Sg hi,QV,QV];rfl
  refine⟨[‹A›,‹B›,some (.own (.lst ((bk (L.take i)).map kf))),‹kf L[i].1›,‹kf L[i].2›],_,rfl,rfl,?_⟩;have sm:=λK:Ks=>jI 2 eK (aa (aL (aa (f2 ah (ae 3) (fC (.int 0))) (aa (fR (aC dq 2 2) (aa (f2 ah (ae 3) (fC (.int 1))) (aa (f2 ah (ae 4) (fC (.int 1))) af))) af))) af) K [‹A›,‹B›,some (.own (.lst ((bk (L.take i)).map kf))),‹kf L[i].1›,‹kf L[i].2›] (xs:=(bk (L.take i)).map kf) rfl;have j0:ah (kf L[i].1) (.int 0)=some (.str L[i].1.1):=rfl;have j1:ah (kf L[i].1) (.int 1)=some L[i].1.2.d:=rfl;have j2:ah (kf L[i].2) (.int 1)=some L[i].2.2.d:=rfl;generalize (bk (L.take (i+1))).map kf=Y at ap ⊢;generalize (bk (L.take i)).map kf=Z at ap sm ⊢;simp! only[sm,j0,j1,j2,ib,mV,ap]
 ·rintro ρ' rfl;rw[P7,RW (PX _),hT];simp! only[]
theorem yt{α:Type}(f h:α->D)(L:List α)(ρ:aq)(G:bE)(Fe:FX)(hG:G ρ=.ok (L.map f))(hl:L.length<=1000)(hF:∀z∈L,Fe [‹f z›]=.ok (h z)):dA [none] G (gN 0) bF Fe ρ=.ok (.lst (L.map h)):=
 cj hG (by rw[P7];omega) (eP f h L λz hz=>⟨[‹f z›],rfl,rfl,hF z hz⟩)
theorem zp(ws:ax):rH (.lst (ws.map .str)) (.lst (ws.map .str))=some (.bl false):=by
 rw[Fh,decide_eq_true rfl];rfl
theorem tV{L:List ZP}(h:Ok L)(l8:L.length<=8):aC eG 2 3 [.tup ((k1 L).map kf),.tup ((k2 L).map kf)]=.ok (.tup ((bk L).map kf)):=by
 have ze:rk [.tup ((k1 L).map kf),.tup ((k2 L).map kf)]=some (L.map λz=>.tup [kf z.1,kf z.2]):=by
  show some (gR ((k1 L).map kf) ((k2 L).map kf))=_;rw[RN,RN,wM];rfl
 rw[RN,RN]at ze ⊢;generalize hρ:[some (S.val (.tup (L.map (kf∘(·.1))))),‹.tup (L.map (kf∘(·.2)))›,none]=ρ;have f0:aG (ae 0) ρ=.ok (L.map (kf∘(·.1))):=by rw[<-hρ];simp! only[]
 have f1:aG (ae 1) ρ=.ok (L.map (kf∘(·.2))):=by rw[<-hρ];simp! only[]
 have nme:L.map (λz=>D.str z.2.1)=L.map (λz=>.str z.1.1):=QU λz hz=>by rw[(h z hz).1]
 have sre:L.map (λz=>D.str z.2.2.srt)=L.map (λz=>.str z.1.2.srt):=QU λz hz=>by rw[(h z hz).2.s]
 have n1:=yt _ (λz=>.str z.1.1) L ρ _ (f2 ah (ae 0) (fC (.int 0))) f0 ‹0› λz _=>rfl;have n2:=yt _ (λz=>.str z.2.1) L ρ _ (f2 ah (ae 0) (fC (.int 0))) f1 ‹0› λz _=>rfl;have s1:=yt _ (λz=>.str z.1.2.srt) L ρ _ (f2 ah (f2 ah (ae 0) (fC (.int 1))) (fC (.int 0))) f0 ‹0› λz _=>by
  have a:ah (kf z.1) (.int 1)=some z.1.2.d:=rfl;have b:=Kj z.1.2;simp! only[Function.comp_apply,a,b]
 have s2:=yt _ (λz=>.str z.2.2.srt) L ρ _ (f2 ah (f2 ah (ae 0) (fC (.int 1))) (fC (.int 0))) f1 ‹0› λz _=>by
  have a:ah (kf z.2) (.int 1)=some z.2.2.d:=rfl;have b:=Kj z.2.2;simp! only[Function.comp_apply,a,b]
 rw[nme]at n2;rw[sre]at s2;have ne:rH (.lst (L.map λz=>.str z.1.1)) (.lst (L.map λz=>.str z.1.1))=some (.bl false):=by
  have:=zp (L.map λz=>z.1.1)
  rwa [RN]at this
 have se:rH (.lst (L.map λz=>.str z.1.2.srt)) (.lst (L.map λz=>.str z.1.2.srt))=some (.bl false):=by
  have:=zp (L.map λz=>z.1.2.srt)
  rwa [RN]at this
 have kk:dA [none,none] (oU (aa (ae 0) (aa (ae 1) af))) (gT 2 (jR [0,1])) bF (fR (aC mZ 2 2) (aa (f2 ah (ae 0) (fC (.int 1))) (aa (f2 ah (ae 1) (fC (.int 1))) af))) ρ=.ok (.lst (L.map λz=>(qT z.1.2 z.2.2).d)):=by
  refine cj (ds:=L.map λz=>.tup [kf z.1,kf z.2]) (by rw[<-hρ];simp! only[ze]) (by rw[P7];omega) ?_;refine eP (λz:ZP=>D.tup [kf z.1,kf z.2]) _ L λz hz=>⟨[‹kf z.1›,‹kf z.2›],by rw[<-hρ];rfl,rfl,?_⟩
  obtain⟨_,mt⟩:=h z hz;have ib:=(yv mt.s mt.o1).1;have b:=mt.b;unfold bo at ib;rw[b,if_neg P4]at ib;have j1:ah (kf z.1) (.int 1)=some z.1.2.d:=rfl;have j2:ah (kf z.2) (.int 1)=some z.2.2.d:=rfl;simp! only[j1,j2,ib]
 have inn:u6 .non (.lst (L.map λz=>(qT z.1.2 z.2.2).d))=some (.bl false):=by
  show(if(pl .non&&lA (L.map λz=>(qT z.1.2 z.2.2).d))&&dU 8 .non then some (D.bl (inD .non (L.map λz=>(qT z.1.2 z.2.2).d)))else none)=_;rw[B2 λx hx=>by
   obtain⟨z,_,rfl⟩:=List.mem_map.mp hx;exact Km _]
  show some (D.bl (inD .non (L.map λz=>(qT z.1.2 z.2.2).d)))=_;congr 2;unfold inD;rw[RO];refine List.any_eq_false.mpr λz _=>?_
  have:pyEq (qT z.1.2 z.2.2).d .non=false:=by
   cases qT z.1.2 z.2.2 with
   |num _ _=>unfold Kd.d pyEq;rfl
   |wrd _=>unfold Kd.d pyEq;rfl
  rw[Function.comp_apply,this];exact P4
 have ze2:rk [.tup (L.map (kf∘(·.1))),.lst (L.map λz=>(qT z.1.2 z.2.2).d)]=some (L.map λz=>.tup [kf z.1,(qT z.1.2 z.2.2).d]):=by
  show some (gR _ _)=_;rw[wM];rfl
 have fi:dA [none,none] (oU (aa (ae 0) (aa (ae 2) af))) (gT 2 (jR [0,1])) bF (aL (aa (f2 ah (ae 0) (fC (.int 0))) (aa (ae 1) af))) [‹.tup (L.map (kf∘(·.1)))›,‹.tup (L.map (kf∘(·.2)))›,‹.lst (L.map λz=>(qT z.1.2 z.2.2).d)›]=.ok (.lst ((bk L).map kf)):=by
  unfold bk;rw[RN];refine cj (ds:=L.map λz=>.tup [kf z.1,(qT z.1.2 z.2.2).d]) (by simp! only[ze2]) (by rw[P7];omega) ?_;refine eP (λz:ZP=>D.tup [kf z.1,(qT z.1.2 z.2.2).d]) _ L λz hz=>⟨[‹kf z.1›,‹(qT z.1.2 z.2.2).d›],rfl,rfl,?_⟩
  have k0:ah (kf z.1) (.int 0)=some (.str z.1.1):=rfl;simp! only[k0,mV];rfl
 rw[cE];unfold eG;rw[<-hρ]at n1 n2 s1 s2 kk;generalize (bk L).map kf=BK at fi ⊢;simp! only[n1,n2,ne,s1,s2,se,kk,inn,fi]
theorem wO(x:Int):∃us:ax,us≠[]/\us.length<=8/\aC cT 1 6 [.int x]=.ok (.lst (us.map .str)):=by
 have g26:=gm 26;have d26:=gd 26;have LL:(("abcdefghijklmnopqrstuvwxyz":Str)).length=26:=by decide +kernel
 generalize hL:("abcdefghijklmnopqrstuvwxyz":Str)=L at LL;obtain⟨one,ho,e1⟩:=pG L ‹0› (x%26) ‹0› ‹0›;obtain⟨oth,hq,e2⟩:=pG L ‹0› (x/26%26) ‹0› ‹0›;have a1:=gz one oth ‹0› ‹0›;have a2:=gz oth one ‹0› ‹0›;have a3:=gz one one ‹0› ‹0›;have m1:=BA (x:=one) (n:=8) (by decide) (by decide) ‹0›;have m2:=BA (x:=oth) (n:=3) (by decide) (by decide) ‹0›;generalize hW:[D.str "",.str one,.str oth,.str (one++oth),.str (oth++one),.str (iN one 8),.str (one++one),.str (iN oth 3)]=W;have W8:W.length=8:=by rw[<-hW];rfl
 have Ws:∀d∈W,∃w:Str,d=.str w:=by
  rw[<-hW];intro d hd;simp only[Ri,RP,or_false]at hd;rcases hd with rfl|rfl|rfl|rfl|rfl|rfl|rfl|rfl<;>exact⟨_,rfl⟩
 have mW:jP W=some (.lst W):=DQ ‹0›;obtain⟨T,hT⟩:∃T:bH,T=(fA 4 (aN (fL eB (aa (fL jt (aa (ae 4) af)) af)))):=⟨_,rfl⟩
 rw[gI];unfold cT;rw[<-hT];simp! only[hL,g26,e1,d26,e2,uK,a1,a2,a3,m1,m2,hW,mW];refine cZ (Q:=λz=>∃us:ax,us≠[]/\us.length<=8/\z=.ok (.lst (us.map .str))) (λi ρ=>∃ws:ax,ws.Nodup/\ws.length<=i/\(0<i->ws≠[])/\ρ=[none,none,‹.str one›,‹.str oth›,some (.own (wd ws)),none]) ?_ ⟨[],Qy,PX _,λh=>by omega,rfl⟩ ?_
 ·rintro i d ρ kk hd ⟨ws,nd,hl,hn,rfl⟩;have hi:=bW hd;obtain⟨w,rfl⟩:=Ws d (Qi hd);have pn:nZ ws w≠[]:=by
   unfold nZ;split
   ·rename_i h;intro z;rw[z]at h;simp at h
   ·simp
  refine⟨_,_,rfl,⟨nZ ws w,tZ w nd,by have:=p3 ws w;omega,λ_=>pn,rfl⟩,?_⟩;have pk:=λk:Ks=>uj (i:=4) (fk:=ae 5) (fv:=fC (.bl true)) (k:=k) (ρ:=[none,none,‹.str one›,‹.str oth›,some (.own (wd ws)),‹.str w›]) (al:=zm ws) (q:=.inr w) (d:=.str w) (v:=.bl true) rfl rfl rfl rfl (by simp;omega);simp! only[pk,w8]
 ·rintro ρ' ⟨ws,nd,hl,hn,rfl⟩;rw[W8]at hl hn;obtain⟨us,eu,pu⟩:=He ws nd ‹0›;refine⟨us,λz=>hn (by decide) (by rw[z]at pu;exact pu.symm.eq_nil),by rw[pu.length_eq];exact hl,?_⟩;rw[hT];simp! only[vD,eu]
theorem vR:∀(us:ax)(i:Nat),jQ i (us.map .str)=(us.zipIdx i).map λp=>.tup [.int (p.2:Int),.str p.1]
 |[],_=>rfl
 |u::us,i=>by
  rw[P6,jQ,vR us (i+1),Rh,P6]
theorem Mt.swap{c e:Kd}(h:Mt c e):Mt e c:=⟨h.o2,h.o1,h.s.symm,h.b',h.b⟩
theorem Iu{lo w f g:Int}(h1:0<=f)(h2:f<=w)(h3:0<=g):Mt (.num lo (lo+w)) (.num (lo+f) (lo+f+g)):=by
 refine⟨trivial,trivial,rfl,?_,?_⟩
 ·show decide (mn (lo+w) (lo+f+g)<mx lo (lo+f))=false;refine decide_eq_false ?_;unfold mn mx;split<;>split<;>omega
 ·show decide (mn (lo+f+g) (lo+w)<mx (lo+f) lo)=false;refine decide_eq_false ?_;unfold mn mx;split<;>split<;>omega
theorem Jk{a b:ax}{w:Str}(h1:w∈a)(h2:w∈b)(l1:a.length<=100)(l2:b.length<=100):Mt (.wrd a) (.wrd b):=by
 refine⟨l1,l2,rfl,?_,?_⟩
 ·show(a.filter λw=>b.contains w).isEmpty=false
  have:w∈a.filter λw=>b.contains w:=List.mem_filter.mpr ⟨h1,by simpa using h2⟩
  cases h:a.filter λw=>b.contains w with
  |nil=>rw[h]at this;cases this
  |cons _ _=>rfl
 ·show(b.filter λw=>a.contains w).isEmpty=false
  have:w∈b.filter λw=>a.contains w:=List.mem_filter.mpr ⟨h2,by simpa using h1⟩
  cases h:b.filter λw=>a.contains w with
  |nil=>rw[h]at this;cases this
  |cons _ _=>rfl
theorem Fd(a b c d i:Int)(h0:0<=i)(h1:i<4):∃x:Int,(x=a\/x=b\/x=c\/x=d)/\ah (.lst [.int a,.int b,.int c,.int d]) (.int i)=some (.int x):=by
 rcases(show i=0\/i=1\/i=2\/i=3 by omega)with z|z|z|z<;>subst z
 ·exact⟨a,by simp,rfl⟩
 ·exact⟨b,by simp,rfl⟩
 ·exact⟨c,by simp,rfl⟩
 ·exact⟨d,by simp,rfl⟩
noncomputable def bit(y m:Int)(j:Nat):Bool:=Builtin.bitAnd (y/m/2^j) 1==1
theorem yE(us:ax)(hl:us.length<=8)(sp:Str)(hs:sp∈us)(y m:Int)(h0:0<m)(h1:m<10^200)(x0 x2 x3 x4 x5 x6:Option S):∃ws:ax,ws.length<=8/\sp∈ws/\dA [none,none,some 8,some 1] (gb (aa (ae 7) af)) (gT 2 (jR [0,1])) (xx (fB (f2 eS (ae 1) (ae 2))) (fB (f2 eS (f2 oQ (f2 u9 (f2 cH (ae 3) (fC (.int m))) (ae 0)) (fC (.int 1))) (fC (.int 1))))) (ae 1) [x0,‹.int y›,x2,x3,x4,x5,x6,‹.lst (us.map .str)›,‹.str sp›]=.ok (.lst (ws.map .str)):=by
 have dm:=λi=>ki (i:=i) h0 h1;have en:tE [.lst (us.map .str)]=some ((us.zipIdx 0).map λp=>.tup [.int (p.2:Int),.str p.1]):=by
  show some (jQ 0 (us.map .str))=_;rw[vR]
 refine⟨((us.zipIdx 0).filter λp=>(p.1==sp)||bit y m p.2).map (·.1),?_,?_,?_⟩
 ·rw[P7];refine PD (Sj _ _) ?_;rw[Sn];exact hl
 ·obtain⟨j,hj,e⟩:=QS hs;refine List.mem_map.mpr ⟨(sp,j),List.mem_filter.mpr ⟨?_,by simp⟩,rfl⟩;rw[List.mem_iff_getElem?];refine⟨j,?_⟩;rw[List.getElem?_zipIdx,QO hj,e];simp
 ·refine cj (ds:=(us.zipIdx 0).map λp=>.tup [.int (p.2:Int),.str p.1]) (by simp! only[en]) (by rw[P7,Sn];omega) ?_;refine Eq.trans (iq (ρ:=[none,none,‹.str sp›,‹.int y›]) (g:=gT 2 (jR [0,1])) (λp:Str×Nat=>D.tup [.int (p.2:Int),.str p.1]) (λp=>(p.1==sp)||bit y m p.2) (D.str∘λp:Str×Nat=>p.1) (us.zipIdx 0) λp _=>⟨[‹.int (p.2:Int)›,‹.str p.1›,‹.str sp›,‹.int y›],rfl,?_,?_⟩) (by rw[RN])
  ·have sh:=C5 (y/m) p.2;unfold bit;cases h:(p.1==sp)<;>simp! only[h,dm,sh,uA,Qt,Qu]
  ·simp! only[];rfl
theorem uq(x:Int)(h0:0<=x)(h1:x<2147483700):∃c e:Kd,Mt c e/\aC dh 1 9 [.int x]=.ok (.tup [c.d,e.d]):=by
 obtain⟨y,y0,y1,ey⟩:=eU x h0 h1;have g2:=gm 2;have g3:=gm 3;have g4:=gm 4;have d3:=gd 3;have d12:=gd 12;have d48:=gd 48;have d200:=gd 200;have p7:iK (.int y) (.int 7)=some (.int (y^7)):=uG y 7 (by decide) ‹0›;have pb:=Hz;have gp:=λi=>d9 (i:=i) (show(0:Int)<A3 by omega);obtain⟨lo,_,e1⟩:=Fd 0 (-3) (0-y^7%A3) (y^7%A3) (x/3%4) ‹0› ‹0›;obtain⟨wd',hw,e2⟩:=Fd 0 1 6 A3 (x/12%4) ‹0› ‹0›;obtain⟨ex,hx,e3⟩:=Fd 0 2 9 A3 (x/48%4) ‹0› ‹0›;have w0:0<=wd':=by omega
 have x0:0<=ex:=by omega
 have gw:=λi=>d9 (i:=i) (show(0:Int)<wd'+1 by omega);have f0:=Sb (y^7) (show wd'+1≠0 by omega);have f1:=Sd (y^7) (show 0<wd'+1 by omega);obtain⟨T,hT⟩:∃T:bH,T=(ai (fF (fB (f2 eS (f2 bP (f2 cH (ae 0) (fC (.int 200))) (fC (.int 2))) (fC (.int 1)))) (aN (aL (aa (ae 6) (aa (ae 5) af)))) bC) (aN (aL (aa (ae 5) (aa (ae 6) af))))):=⟨_,rfl⟩
 have fin:∀(c e:Kd)(x1 x2 x3 x4 x7 x8:Option S),Mt c e->∃c' e':Kd,Mt c' e'/\T K0 [‹.int x›,x1,x2,x3,x4,‹c.d›,‹e.d›,x7,x8]=.ok (.tup [c'.d,e'.d]):=λc e x1 x2 x3 x4 x7 x8 m=>by
  rw[hT];cases hb:(x/200%2==1)with
  |true=>exact⟨e,c,m.swap,by simp! only[d200,g2,hb,mV]⟩
  |false=>exact⟨c,e,m,by simp! only[d200,g2,hb,mV]⟩
 rw[gI];unfold dh;rw[<-hT];simp only[K0]at fin;cases h3:(x%3==2)with
 |false=>
  obtain⟨c',e',m,e⟩:=fin (.num lo (lo+wd')) (.num (lo+y^7%(wd'+1)) (lo+y^7%(wd'+1)+ex)) (‹.int y›) (‹.int lo›) (‹.int wd'›) (‹.int (y^7%(wd'+1))›) none none (Iu f0 ‹0› x0);unfold Kd.d at e;refine⟨c',e',m,?_⟩;refine Eq.trans ?_ e;simp! only[ey,p7,xZ,gp,KP,d3,g4,e1,d12,e2,gw,Ej,d48,e3,g3,h3]
 |true=>
  obtain⟨us,u1,u2,eu⟩:=wO (x/3);have ul:0<us.length:=by
   cases us with
   |nil=>exact absurd rfl u1
   |cons _ _=>simp
  have gu:=λi=>d9 (i:=i) (show(0:Int)<(us.length:Int)by omega);have q1:=Sb y (show(us.length:Int)≠0 by omega);have q2:=Sd y (show(0:Int)<(us.length:Int)by omega);obtain⟨sp,hs,es⟩:∃sp∈us,ah (.lst (us.map .str)) (.int (y%(us.length:Int)))=some (.str sp):=by
   refine⟨us[(y%(us.length:Int)).toNat]'‹0›,RK _,?_⟩;rw[HV,pF,mH q1 q2];rfl
  obtain⟨A,a1,a2,ea⟩:=yE us u2 sp hs y 9 (by decide) (by decide) (‹.int x›) (‹.int lo›) (‹.int wd'›) (‹.int (y^7%(wd'+1))›) (‹.tup [.str "number",.int lo,.int (lo+wd')]›) (‹.tup [.str "number",.int (lo+y^7%(wd'+1)),.int (lo+y^7%(wd'+1)+ex)]›);obtain⟨B,b1,b2,eb⟩:=yE us u2 sp hs y 3000 (by decide) (by decide) (‹.int x›) (‹.int lo›) (‹.int wd'›) (‹.int (y^7%(wd'+1))›) (‹.tup [.str "word",.tup (A.map .str)]›) (‹.tup [.str "number",.int (lo+y^7%(wd'+1)),.int (lo+y^7%(wd'+1)+ex)]›);obtain⟨c',e',m,e⟩:=fin (.wrd A) (.wrd B) (‹.int y›) (‹.int lo›) (‹.int wd'›) (‹.int (y^7%(wd'+1))›) (‹.lst (us.map .str)›) (‹.str sp›) (Jk a2 b2 ‹0› ‹0›);unfold Kd.d at e;refine⟨c',e',m,?_⟩;refine Eq.trans ?_ e;simp! only[ey,p7,xZ,gp,KP,d3,g4,e1,d12,e2,gw,Ej,d48,e3,g3,h3,eu,P7,gu,es,ea,eb,mV]
theorem wx(x b:Int)(m:Nat)(h0:0<=x)(h1:x<2147483700)(hb:0<=b)(hm:m<=8):∃L:List ZP,L.length=m/\(∀q∈L,q.1.1=q.2.1/\Mt q.1.2 q.2.2/\∃j:Nat,j<m/\vy b j q.1.1)/\aC dM 3 7 [.int x,.int b,.int m]=.ok (.tup [.tup ((L.map (·.1)).map kf),.tup ((L.map (·.2)).map kf)]):=by
 have rn:=jm m ‹0›;obtain⟨T,hT⟩:∃T:bH,T=(fA 4 (fA 3 (aN (aL (aa (fL aZ (aa (ae 3) af)) (aa (fL aZ (aa (ae 4) af)) af)))))):=⟨_,rfl⟩
 rw[jy];unfold dM;rw[<-hT];simp! only[HI,rn];refine cZ (Q:=λz=>∃L:List ZP,L.length=m/\(∀q∈L,q.1.1=q.2.1/\Mt q.1.2 q.2.2/\∃j:Nat,j<m/\vy b j q.1.1)/\z=.ok (.tup [.tup ((L.map (·.1)).map kf),.tup ((L.map (·.2)).map kf)]))
  (λi ρ=>∃(y:Int)(L:List ZP),0<=y/\y<2147483700/\L.length=i/\(∀q∈L,q.1.1=q.2.1/\Mt q.1.2 q.2.2/\∃j:Nat,j<m/\vy b j q.1.1)/\ρ=[‹.int y›,‹.int b›,‹.int m›,some (.own (.lst ((L.map (·.1)).map kf))),some (.own (.lst ((L.map (·.2)).map kf))),none,none]) ?_ ⟨x,[],h0,h1,rfl,(λ_ h=>nomatch h),rfl⟩ ?_
 ·rintro i d ρ kk hd ⟨y,L,y0,y1,ll,hq,rfl⟩;have hi:=bW hd;rw[cC]at hi;have hdi:d=.int (i:Int):=by
   rw[iP,Qh,Ra hi]at hd;cases hd;simp
  subst hdi;obtain⟨y',y0',y1',ey⟩:=eU y y0 y1;obtain⟨c,e,mt,ek⟩:=uq y' y0' ‹0›;obtain⟨nm,en,hnm⟩:=pH b (i:Int) hb ‹0›;have i0:ah (.tup [c.d,e.d]) (.int 0)=some c.d:=mO _ _;have i1:ah (.tup [c.d,e.d]) (.int 1)=some e.d:=rfl;have ap1:eK ((L.map (·.1)).map kf) [.tup [.str nm,c.d]]=some (((L++[((nm,c),(nm,e))]).map (·.1)).map kf):=by
   rw[jK (by rw[P7,P7];omega),QV,QV];rfl
  have ap2:eK ((L.map (·.2)).map kf) [.tup [.str nm,e.d]]=some (((L++[((nm,c),(nm,e))]).map (·.2)).map kf):=by
   rw[jK (by rw[P7,P7];omega),QV,QV];rfl
  refine⟨_,_,rfl,⟨y',L++[((nm,c),(nm,e))],y0',by omega,by rw[Qj,Qo];omega,λq hm=>?_,rfl⟩,?_⟩
  ·rcases List.mem_append.mp hm with z|z
   ·exact hq q z
   ·rw[List.mem_singleton.mp z];exact⟨rfl,mt,i,hi,hnm⟩
  ·generalize ((L++[((nm,c),(nm,e))]).map (·.1)).map kf=Y1 at ap1 ⊢;generalize ((L++[((nm,c),(nm,e))]).map (·.2)).map kf=Y2 at ap2 ⊢;generalize (L.map (·.1)).map kf=Z1 at ap1 ⊢;generalize (L.map (·.2)).map kf=Z2 at ap2 ⊢;have sm1:=λK:Ks=>jI 3 eK (aa (aL (aa (fR (aC bL 2 7) (aa (ae 1) (aa (ae 5) af))) (aa (f2 ah (ae 6) (fC (.int 0))) af))) af) K [‹.int y'›,‹.int b›,‹.int m›,some (.own (.lst Z1)),some (.own (.lst Z2)),‹.int i›,‹.tup [c.d,e.d]›] (xs:=Z1) rfl;have sm2:=λK:Ks=>jI 4 eK (aa (aL (aa (fR (aC bL 2 7) (aa (ae 1) (aa (ae 5) af))) (aa (f2 ah (ae 6) (fC (.int 1))) af))) af) K [‹.int y'›,‹.int b›,‹.int m›,some (.own (.lst Y1)),some (.own (.lst Z2)),‹.int i›,‹.tup [c.d,e.d]›] (xs:=Z2) rfl;simp! only[ey,ek,sm1,en,i0,mV,ap1,sm2,i1,ap2]
 ·rintro ρ' ⟨y,L,y0,y1,ll,hq,rfl⟩;rw[cC]at ll;refine⟨L,ll,hq,?_⟩;rw[hT];simp! only[mV]
theorem Pt(a b c d e f g h:D)(i:Int)(h0:0<=i)(h1:i<8):∃x∈[a,b,c,d,e,f,g,h],ah (.lst [a,b,c,d,e,f,g,h]) (.int i)=some x:=by
 rcases(show i=0\/i=1\/i=2\/i=3\/i=4\/i=5\/i=6\/i=7 by omega)with z|z|z|z|z|z|z|z<;>subst z
 ·exact⟨a,by simp,rfl⟩
 ·exact⟨b,by simp,rfl⟩
 ·exact⟨c,by simp,rfl⟩
 ·exact⟨d,by simp,rfl⟩
 ·exact⟨e,by simp,rfl⟩
 ·exact⟨f,by simp,rfl⟩
 ·exact⟨g,by simp,rfl⟩
 ·exact⟨h,by simp,rfl⟩
noncomputable def KO(b:Int)(ws:ax):Prop:=∀w∈ws,∃j:Nat,j<22/\vy b j w
theorem EH{b:Int}{ws:ax}(h:KO b ws){w:Str}{i:Nat}(h1:22<=i)(h2:i<24)(hw:vy b i w):w∉ws:=λz=>by
 obtain⟨j,hj,q⟩:=h w z
 have:=ER ‹0› ‹0› ‹0› ‹0› hw q
 omega
theorem Es{b:Int}{a c:ax}(h1:KO b a)(h2:KO b c):KO b (a++c):=λw hw=>by
 rcases List.mem_append.mp hw with z|z
 ·exact h1 w z
 ·exact h2 w z
theorem CI(ρ:aq)(G:bE)(L:dZ)(hG:G ρ=.ok (L.map fld))(hl:L.length<=100):dA [none,none] G (gT 2 (jR [0,1])) bF (ae 0) ρ=.ok (.lst ((L.map (·.1)).map .str)):=by
 refine cj (ds:=L.map fld) hG (by rw[P7];omega) ?_;rw[RN];refine eP _ _ _ λp _=>⟨_,rfl,rfl,?_⟩
 simp! only[];rfl
noncomputable def nms(k:KL)(r:dZ):ax:=k.map (·.1)++r.map (·.1)
theorem Ci{k:KL}{r:dZ}(k8:k.length<=8)(r8:r.length<=8)(ρ:aq)(G:bE)(hG:G ρ=.ok (k.map kf++r.map fld)):dA [none,none] G (gT 2 (jR [0,1])) bF (ae 0) ρ=.ok (.lst ((nms k r).map .str)):=by
 have em:k.map kf++r.map fld=(k.map toD++r).map fld:=by rw[QV,lZ]
 rw[em]at hG;have lc:=CI ρ G (k.map toD++r) hG (by rw[Qj,P7];omega);have en:(k.map toD++r).map (·.1)=nms k r:=by
  unfold nms;rw[QV,RN];rfl
 rw[en]at lc;exact lc
theorem Jp(ws:ax)(h:ws≠[])(x:Int):∃w∈ws,ah (.lst (ws.map .str)) (.int (x%(ws.length:Int)))=some (.str w):=by
 have ul:0<ws.length:=List.length_pos_iff.mpr h;have q1:=Sb x (show(ws.length:Int)≠0 by omega);have q2:=Sd x (show(0:Int)<(ws.length:Int)by omega);refine⟨ws[(x%(ws.length:Int)).toNat]'‹0›,RK _,?_⟩;rw[HV,pF,mH q1 q2];rfl
theorem yy(w:Str)(ws:ax):iH (.str w) (.lst (ws.map .str))=some (.bl (!ws.contains w)):=by
 have e:=Gs w ws;have e1:u6 (.str w) (.lst (ws.map .str))=if(pl (.str w)&&lA (ws.map .str))&&dU 8 (.str w)then some (.bl (inD (.str w) (ws.map .str)))else none:=rfl
 have e2:iH (.str w) (.lst (ws.map .str))=if(pl (.str w)&&lA (ws.map .str))&&dU 8 (.str w)then some (.bl (!inD (.str w) (ws.map .str)))else none:=rfl
 rw[e1]at e;rw[e2];split at e
 ·rename_i z;rw[if_pos z];injection e with e;injection e with e;rw[e]
 ·cases e
theorem l2(a b:D):jP [a,b]=some (.lst [a,b]):=nr rfl
theorem MP(x e:Int)(e1:1<=e)(e8:e<=8):∃m:Nat,1<=m/\m<=8/\(m:Int)<=max 3 e/\ah (.lst [.int 1,.int 2,.int 1,.int 3,.int 2,.int 1,.int 2,.int e]) (.int (x%8))=some (.int (m:Int)):=by
 obtain⟨d,hd,ed⟩:=Pt (.int 1) (.int 2) (.int 1) (.int 3) (.int 2) (.int 1) (.int 2) (.int e) (x%8) ‹0› ‹0›;obtain⟨m,rfl,h⟩:∃m:Nat,d=.int (m:Int)/\1<=m/\m<=8/\(m:Int)<=max 3 e:=by
  simp only[Ri,RP,or_false]at hd;rcases hd with rfl|rfl|rfl|rfl|rfl|rfl|rfl|rfl
  ·exact⟨1,rfl,by omega⟩
  ·exact⟨2,rfl,by omega⟩
  ·exact⟨1,rfl,by omega⟩
  ·exact⟨3,rfl,by omega⟩
  ·exact⟨2,rfl,by omega⟩
  ·exact⟨1,rfl,by omega⟩
  ·exact⟨2,rfl,by omega⟩
  ·exact⟨e.toNat,by congr 1;omega,by omega⟩
 exact⟨m,h.1,h.2.1,h.2.2,ed⟩
theorem Ku(x:Int):∃dp:Nat,dp<=2/\ah (.lst [.int 0,.int 0,.int 1,.int 2]) (.int (x%4))=some (.int (dp:Int)):=by
 obtain⟨z,hz,ez⟩:=Fd 0 0 1 2 (x%4) ‹0› ‹0›;rcases hz with rfl|rfl|rfl|rfl
 ·exact⟨0,by decide,ez⟩
 ·exact⟨0,by decide,ez⟩
 ·exact⟨1,by decide,ez⟩
 ·exact⟨2,by decide,ez⟩
theorem AQ(dp:Nat)(hd:dp<=2)(x b st:Int)(r:Nat)(h0:0<=x)(h1:x<2147483700)(hb:0<=b)(hs:0<=st)(hr:r<=8):∃qs:dZ,aP 20 [.int x,.int b,.int st,.int 0,.int r,.int dp]=.ok (.tup [.tup [],.tup (qs.map fld)])/\qs.length=r/\(∀q∈qs,KG dp q.2)/\∀(j:Nat)(w:Str),(qs.map (·.1))[j]?=some w->vy b (st+(j:Int)) w:=by
 obtain⟨ks,qs,e,k0,ql,_,hq,nm⟩:=yM dp ‹0› x b st 0 r h0 h1 hb hs ‹0› hr
 have:=List.length_eq_zero_iff.mp k0
 subst this;exact⟨qs,e,ql,hq,nm⟩
theorem t0(a b:D):ah (.tup [a,b]) (.int 0)=some a:=rfl
theorem t1(a b:D):ah (.tup [a,b]) (.int 1)=some b:=rfl
structure Gd(b:Int)(L:List ZP)(t:KL)(r q:dZ)(n:Nat):Prop where
 l1:1<=L.length
 t1:1<=t.length
 l8:L.length+t.length<=8
 r8:r.length<=7
 q8:q.length<=8
 ok:Ok L
 tg:∀p∈t,p.2.gd
 n2:n<=2
 hr:∀f∈r,KG n f.2
 hq:∀f∈q,KG n f.2
 nm:KO b (nms (k1 L) r)
theorem vk(ns:List Int):∃(b:Int)(L:List ZP)(t:KL)(r q:dZ)(n:Nat),0<=b/\ns.getD 1 0*48271%2147483647=b/\Gd b L t r q n/\aC bZ 1 10 [.lst (ns.map .int)]=.ok (.tup [fr (k1 L) r,fr (k2 L++t) q]):=by
 obtain⟨x,x0,x1,ex⟩:=o8 ns 0 ‹0›;have e1:aC cy 2 2 [.lst (ns.map .int),.int 1]=.ok (.int (ns.getD 1 0)):=uf ns 1;have ex:aC cz 2 3 [.lst (ns.map .int),.int 0]=.ok (.int x):=ex;have mm:=λi=>mF (i:=i) (j:=48271) (by decide) (by decide);have gM:=gm 2147483647;have g2:=gm 2;have g4:=gm 4;have g7:=gm 7;have g8:=gm 8;have d8:=gd 8;have d32:=gd 32;have d64:=gd 64;have d512:=gd 512;have d2048:=gd 2048;have d4096:=gd 4096;have d16384:=gd 16384;obtain⟨b,hb,b0⟩:∃b:Int,ns.getD 1 0*48271%2147483647=b/\0<=b:=⟨_,rfl,Sb _ (by decide)⟩
 generalize ns.getD 1 0=c1 at e1 hb;obtain⟨y,y0,y1,ey⟩:=eU x x0 ‹0›;obtain⟨m,m1,_,m7,em⟩:=MP x (1+x/64%7) ‹0› ‹0›;obtain⟨L,ll,hq,ek⟩:=wx y b m y0 ‹0› b0 ‹0›;obtain⟨dp,dp2,ed⟩:=Ku (x/8);obtain⟨st,s8,s15,es⟩:∃st:Nat,8<=st/\st<=15/\ah (.lst [.int 8,.int 15]) (.int (x/2048%2))=some (.int (st:Int)):=by
  rcases(show x/2048%2=0\/x/2048%2=1 by omega)with z|z<;>rw[z]
  ·exact⟨8,by decide,by decide,rfl⟩
  ·exact⟨15,by decide,by decide,rfl⟩
 have mi:je [.int 3,.int (8-(m:Int))]=some (.int (if 8-(m:Int)<3 then 8-(m:Int)else 3)):=jC _ _;generalize hmn:(if 8-(m:Int)<3 then 8-(m:Int)else 3)=mv at mi;have mv1:1<=mv/\mv<=3/\(m:Int)+mv<=8:=by rw[<-hmn];split<;>omega
 have gv:=λi=>d9 (i:=i) (show(0:Int)<mv by omega);have w1:=Sb (x/4096) (show mv≠0 by omega);have w2:=Sd (x/4096) (show 0<mv by omega);obtain⟨wi,hw,wl⟩:∃wi:Nat,1+x/4096%mv=(wi:Int)/\1<=wi/\m+wi<=8:=⟨(1+x/4096%mv).toNat,by omega,by omega,by omega⟩
 obtain⟨mo,hmo,mol⟩:∃mo:Nat,x/16384%4=(mo:Int)/\mo<=3:=⟨(x/16384%4).toNat,by omega,by omega⟩
 obtain⟨T,hT⟩:∃T:bH,T=(ai (aM 7 (f2 ah (fR (aP 20) (aa (f2 aW (fR (aC bc 1 1) (aa (ae 1) af)) (fC (.int 1))) (aa (ae 2) (aa (fC (.int 8)) (aa (fC (.int 0)) (aa (ae 6) (aa (ae 5) af))))))) (fC (.int 1)))) (ai (aM 8 (f2 aW (fC (.int 1)) (f2 bP (f2 cH (ae 1) (fC (.int 4096))) (fL je (aa (fC (.int 3)) (aa (f2 uc (fC (.int 8)) (ae 3)) af)))))) (ai (aM 9 (fR (aP 20) (aa (f2 aW (fR (aC bc 1 1) (aa (ae 1) af)) (fC (.int 2))) (aa (ae 2) (aa (f2 ah (eV (aa (fC (.int 8)) (aa (fC (.int 15)) af))) (f2 bP (f2 cH (ae 1) (fC (.int 2048))) (fC (.int 2)))) (aa (ae 8) (aa (f2 bP (f2 cH (ae 1) (fC (.int 16384))) (fC (.int 4))) (aa (ae 5) af)))))))) (aN (aL (aa (aL (aa (f2 ah (ae 4) (fC (.int 0))) (aa (ae 7) af))) (aa (aL (aa (f2 aW (f2 ah (ae 4) (fC (.int 1))) (f2 ah (ae 9) (fC (.int 0)))) (aa (f2 ah (ae 9) (fC (.int 1))) af))) af))))))):=⟨_,rfl⟩
 have fin:∀(u dp:Nat)(k6 k5:D),u<=7->dp<=2->k6=.int u->k5=.int dp->∃(t:KL)(r q:dZ),Gd b L t r q dp/\T K0 [‹.lst (ns.map .int)›,‹.int x›,‹.int b›,‹.int m›,‹.tup [.tup ((L.map (·.1)).map kf),.tup ((L.map (·.2)).map kf)]›,‹k5›,‹k6›,none,none,none]=.ok (.tup [fr (k1 L) r,fr (k2 L++t) q]):=λu dp k6 k5 h1 h2 e6 e5=>by
  subst e6 e5;obtain⟨r,er,rl,hr,nr'⟩:=AQ dp h2 (y+1) b 8 u ‹0› ‹0› b0 ‹0› ‹0›;obtain⟨t,q,eq,tl,ql,tg,hq',_⟩:=yM dp ‹0› (y+2) b st wi mo ‹0› ‹0› b0 ‹0› ‹0› ‹0›;refine⟨t,r,q,⟨by omega,by omega,by omega,by omega,by omega,λz hz=>⟨(hq z hz).1,(hq z hz).2.1⟩,tg,h2,hr,hq',Es (λw hw=>?_) λw hw=>?_⟩,?_⟩
  ·obtain⟨p,hp,rfl⟩:=List.mem_map.mp hw;obtain⟨z,hz,rfl⟩:=List.mem_map.mp hp;obtain⟨j,hj,q⟩:=(hq z hz).2.2;exact⟨j,by omega,q⟩
  ·obtain⟨j,hj,ej⟩:=QS hw;have h:=nr' j w (by rw[QO hj,ej]);rw[P7]at hj;refine⟨8+j,by omega,?_⟩;rw[show((8+j:Nat):Int)=8+(j:Int)by omega];exact h
  ·have ad:=cw ((L.map (·.2)).map kf) (t.map kf) (by rw[P7,P7,P7];omega);rw[<-QV]at ad;rw[hT];simp! only[ey,er,t0,t1,d4096,mi,gv,hw,d2048,g2,l2,es,d16384,g4,hmo,eq,ad,mV]
 rw[gI];unfold bZ;rw[<-hT];simp only[K0]at fin;cases h3:(x/32%8==3)with
 |true=>
  obtain⟨t,r,q,F,e⟩:=fin (x/512%8).toNat 0 (.int (x/512%8)) (.int 0) ‹0› (by decide) (by rw[Sq ‹0›]) rfl;refine⟨b,L,t,r,q,0,b0,hb,F,Eq.trans ?_ e⟩;simp! only[ex,e1,mm,gM,hb,ey,d64,g7,g8,N2,em,ek,d8,g4,KP,ed,d512,d32,h3]
 |false=>
  obtain⟨t,r,q,F,e⟩:=fin (x/512%4).toNat dp (.int (x/512%4)) (.int dp) ‹0› dp2 (by rw[Sq ‹0›]) rfl;refine⟨b,L,t,r,q,dp,b0,hb,F,Eq.trans ?_ e⟩;simp! only[ex,e1,mm,gM,hb,ey,d64,g7,g8,N2,em,ek,d8,g4,KP,ed,d512,d32,h3]
theorem uB(ns:List Int){b:Int}(b0:0<=b)(hb:ns.getD 1 0*48271%2147483647=b){L:List ZP}{t:KL}{r q:dZ}{n:Nat}(g:Gd b L t r q n):∃nm:Str,nm∉nms (k1 L) r/\aC cA 3 7 [fr (k1 L) r,fr (k2 L++t) q,.lst (ns.map .int)]=.ok (.str nm):=by
 obtain⟨s,s0,s1,es⟩:=o8 ns 1 ‹0›;have es:aC cz 2 3 [.lst (ns.map .int),.int 1]=.ok (.int s):=es;obtain⟨y,y0,y1,ey⟩:=eU s s0 ‹0›;have e1:aC cy 2 2 [.lst (ns.map .int),.int 1]=.ok (.int (ns.getD 1 0)):=uf ns 1;have mm:=λi=>mF (i:=i) (j:=48271) (by decide) (by decide);have gM:=gm 2147483647;obtain⟨n22,Nv,h22⟩:=pH b 22 b0 (by decide);obtain⟨n23,NB,_⟩:=pH b 23 b0 (by decide);have l8:=g.l8;have r8:=g.r8;have q8:=g.q8;obtain⟨k,hk⟩:∃k,k=k1 L:=⟨_,rfl⟩
 obtain⟨p,hp⟩:∃p,p=k2 L++t:=⟨_,rfl⟩
 have k8:k.length<=8:=by rw[hk,P7];omega
 have p8:p.length<=8:=by rw[hp,Qj,P7];omega
 have n1:=g.nm;rw[<-hk]at n1 ⊢;rw[<-hp];have ad1:=cw (k.map kf) (r.map fld) (by rw[P7,P7];omega);have ad2:=cw (p.map kf) (q.map fld) (by rw[P7,P7];omega);have c1:=Ci (r:=r) k8 ‹0› [‹fr k r›,‹fr p q›,‹.lst (ns.map .int)›,‹.int y›,‹.int b›,none,none] (aG (f2 aW (f2 ah (ae 0) (fC (.int 0))) (f2 ah (ae 0) (fC (.int 1))))) (by simp! only[ad1]);have c2:=Ci p8 q8 [‹fr k r›,‹fr p q›,‹.lst (ns.map .int)›,‹.int y›,‹.int b›,‹.lst ((nms k r).map .str)›,none] (aG (f2 aW (f2 ah (ae 1) (fC (.int 0))) (f2 ah (ae 1) (fC (.int 1))))) (by simp! only[ad2]);have nl:(nms p q).length<=16:=by unfold nms;rw[Qj,P7,P7];omega
 have ad3:=qx ((nms p q).map .str) [.str n22,.str n23] (by rw[P7];simp;omega);have ea:(nms p q).map D.str++[.str n22,.str n23]=(nms p q++[n22,n23]).map .str:=by rw[QV];rfl
 rw[ea]at ad3;have c3:dA [none,some 5] (aG (ae 6)) (gN 0) (fB (f2 iH (ae 0) (ae 1))) (ae 0) [‹fr k r›,‹fr p q›,‹.lst (ns.map .int)›,‹.int y›,‹.int b›,‹.lst ((nms k r).map .str)›,‹.lst ((nms p q++[n22,n23]).map .str)›]=.ok (.lst (((nms p q++[n22,n23]).filter λw=>!(nms k r).contains w).map .str)):=by
  refine cj (ds:=(nms p q++[n22,n23]).map .str) (by simp! only[]) (by rw[P7,Qj];simp;omega) ?_;refine iq D.str (λw=>!(nms k r).contains w) D.str _ λw _=>⟨_,rfl,?_,rfl⟩
  have ni:=yy w (nms k r);simp! only[ni]
 have ne:((nms p q++[n22,n23]).filter λw=>!(nms k r).contains w)≠[]:=λz=>by
  have m:n22∈(nms p q++[n22,n23]).filter λw=>!(nms k r).contains w:=List.mem_filter.mpr ⟨PY _ PJ,by
   have:=EH n1 (w:=n22) (i:=22) (by decide) (by decide) h22
   simpa using this⟩
  rw[z]at m;cases m
 obtain⟨nm,hm,em⟩:=Jp _ ne y;refine⟨nm,by have:=(List.mem_filter.mp hm).2;simpa using this,?_⟩;have gl:=λi=>d9 (i:=i) (show(0:Int)<(((nms p q++[n22,n23]).filter λw=>!(nms k r).contains w).length:Int)by have:=List.length_pos_iff.mpr ne;omega);generalize ((nms p q++[n22,n23]).filter λw=>!(nms k r).contains w)=W at c3 em gl;generalize (nms p q++[n22,n23]).map D.str=W0 at ad3 c3;rw[jy];unfold cA;simp! only[es,ey,e1,mm,gM,hb,c1,c2,Nv,NB,l2,ad3,c3,P7,gl,em]
section
open Classical
variable{τ:bQ}{m:Nat}
theorem So.sub{L M:bB}(h:So τ m M)(s:L.Sublist M):So τ m L:=
 ⟨h.t0,h.hm,λr hr=>h.sh r (s.subset hr),h.pw.sublist s,Rc s.length_le h.ln⟩
noncomputable abbrev ak(m:Nat)(V:bB):cx:=V.map λr=>(kq (r.take m),D.tup r)
theorem Hw{V:bB}(h:So τ m V)(X:D)(hX:X=.lst (V.map .tup)\/X=.tup (V.map .tup)):aC jf 2 2 [.int m,X]=.ok (bS (ak m V)):=by
 have ln:=h.ln;have f2':dA [none,some 0] (aG (ae 1)) (gN 0) bF (aL (aa (aH (ae 0) av (aY (ae 1))) (aa (ae 0) af))) [‹.int m›,‹X›]=.ok (.lst ((ak m V).map jU)):=by
  refine cj (ds:=V.map .tup) (by rcases hX with rfl|rfl<;>simp! only[]) (by rw[P7];omega) ?_;rw[RN];refine eP D.tup _ V λr hr=>⟨[‹.tup r›,‹.int m›],rfl,rfl,?_⟩
  simp! only[eZ,mV];show _=Except.ok (D.tup [.tup ((kq (r.take m)).map bg),.tup r]);rw[tq (h.sh r hr)]
 have knd:((ak m V).map (·.1)).Nodup:=by
  rw[RN];exact List.pairwise_map.mpr (List.Pairwise.imp_of_mem (λ{a b} ha hb ne e=>ne (nX (h.sh a ha) (h.sh b hb) e)) h.pw)
 have gd:jZ [.lst ((ak m V).map jU)]=some (bS (ak m V)):=by
  show(iJ _).bind _=_;rw[qu];show(if small _ then _ else _)=_;rw[if_pos (cK (by rw[P7];omega))];unfold za;rw[uM _ [] knd];rfl
 rw[cE];unfold jf;generalize bS (ak m V)=Z at gd;simp! only[f2',gd]
theorem K4{V:bB}(h:So τ m V){f:List D}(zs:Sh τ f):gU (.tup f) (bS (ak m V))=some (.bl (!decide (f∈V.map λr=>r.take m))):=by
 show(oN (encK _) ((ak m V).map (·.2)) (.tup f)).bind yh=_;unfold oN;rw[gx];show((fK (.tup f)).bind λk=>some (D.bl ((ak m V).any λp=>decide (p.1=k)))).bind yh=_;have e:fK (.tup f)=some (kq f):=by
  conv=>lhs;rw[<-tq zs]
  exact bR _
 rw[e];show some (D.bl (!((ak m V).any λp=>decide (p.1=kq f))))=_;congr 3;rw[Bool.eq_iff_iff,List.any_eq_true,decide_eq_true_iff];constructor
 ·rintro⟨p,hp,e⟩;obtain⟨a,ha,rfl⟩:=List.mem_map.mp hp;exact List.mem_map.mpr ⟨a,ha,nX (h.sh a ha) zs (of_decide_eq_true e)⟩
 ·intro z;obtain⟨a,ha,e⟩:=List.mem_map.mp z;exact⟨_,List.mem_map.mpr ⟨a,ha,rfl⟩,decide_eq_true (by show kq (a.take m)=_;rw[show a.take m=f from e])⟩
theorem KZ{V T R F:bB}(hF:F=T.filter λr=>!decide (r.take m∈V.map λr=>r.take m))(s:So τ m (V++F))(hT:∀r∈T,Sh τ (r.take m))(tl:T.length<64)(ri:xY m R)(p:R.Perm (V++F))(Y:D)(hY:Y=.lst (T.map .tup)\/Y=.tup (T.map .tup)):aC fJ 3 4 [.int m,.lst (V.map .tup),Y]=.ok (.tup (R.map .tup)):=by
 have hV:=s.sub (List.sublist_append_left V F);have b:=Hw hV (.lst (V.map .tup)) (.inl rfl);have ni:=λr (hr:r∈T)=>K4 hV (hT r hr);have sp:=s.prog ri p;have vl:=s.ln;rw[Qj]at vl;generalize bS (ak m V)=Z at b ni;have lc3:dA [none,some 0,some 3] (aG (ae 2)) (gN 0) (fB (f2 gU (aH (ae 0) av (aY (ae 1))) (ae 2))) (ae 0) [‹.int m›,‹.lst (V.map .tup)›,‹Y›,‹Z›]=.ok (.lst (F.map .tup)):=by
  refine cj (ds:=T.map .tup) (by rcases hY with rfl|rfl<;>simp! only[]) (by rw[P7];omega) ?_;rw[hF];refine o3 (ρ:=[none,‹.int m›,‹Z›]) (g:=gN 0) (C:=fB (f2 gU (aH (ae 0) av (aY (ae 1))) (ae 2))) (Fe:=ae 0) D.tup (λr=>!decide (r.take m∈V.map λr=>r.take m)) D.tup _ λr hr=>⟨[‹.tup r›,‹.int m›,‹Z›],rfl,?_,λ_=>rfl⟩
  have:=ni r hr
  simp! only[eZ,this]
 have ad:=qx (V.map .tup) (F.map .tup) (by rw[P7,P7];omega);rw[<-QV]at ad;rw[jy];unfold fJ;simp! only[b,lc3,JU,ad,sp]
structure Tb(τ:bQ)(m:Nat)(V:bB):Prop where
 s:So τ m V
 ri:xY m V
theorem Tb.of{V:bB}(t0:τ≠[])(hm:m=τ.length)(sh:∀r∈V,Sh τ (r.take m))(ri:xY m V)(ln:V.length<64):Tb τ m V:=⟨⟨t0,hm,sh,IW sh ri,ln⟩,ri⟩
theorem Tb.map{V:bB}(h:Tb τ m V)(g:List D->List D)(hg:∀r∈V,(g r).take m=r.take m):Tb τ m (V.map g):=
 Tb.of h.s.t0 h.s.hm (λr hr=>by
  obtain⟨a,ha,rfl⟩:=List.mem_map.mp hr;rw[hg a ha];exact h.s.sh a ha) (List.pairwise_map.mpr (List.Pairwise.imp_of_mem (λ{a b} ha hb e=>by rw[hg a ha,hg b hb];exact e) h.ri)) (by rw[P7];exact h.s.ln)
theorem M3{V:bB}(h:Tb τ m V)(Y:D)(hY:Y=.lst []\/Y=.tup []):aC fJ 3 4 [.int m,.lst (V.map .tup),Y]=.ok (.tup (V.map .tup)):=
 KZ (T:=[]) (F:=[]) rfl (by rw[Qa];exact h.s) (λ_ h=>nomatch h) (by decide) h.ri (by rw[Qa]) Y hY
theorem E6{T:bB}(h:Tb τ m T):aC dB 2 2 [.int m,.lst (T.map .tup)]=.ok (.tup (T.map .tup)):=h.s.prog h.ri (List.Perm.refl _)
end
noncomputable def qg:Kd->D->Bool
 |.num lo hi,.int i=>!(decide (i<lo)||decide (i>hi))
 |.wrd ws,.str w=>ws.contains w
 |_,_=>true
noncomputable def aF:KL->List D->Bool
 |p::k,v::vs=>qg p.2 v&&aF k vs
 |_,_=>true
noncomputable def FB:bH:=(ai (aM 4 (f2 ah (ae 2) (fC (.int 1)))) (ai (fF (vN (fB (f2 eS (f2 ah (ae 4) (fC (.int 0))) (fC (.str "number")))) (xx (fB (f2 mE (ae 3) (f2 ah (ae 4) (fC (.int 1))))) (fB (f2 J2 (ae 3) (f2 ah (ae 4) (fC (.int 2))))))) (aN (fC (.bl false))) bC) (ai (fF (vN (fB (f2 eS (f2 ah (ae 4) (fC (.int 0))) (fC (.str "word")))) (fB (f2 iH (ae 3) (f2 ah (ae 4) (fC (.int 1)))))) (aN (fC (.bl false))) bC) (dC [2,3,4] bC))))
theorem vP(K:Ks)(hK:∀ρ,K.nx ρ=.ok (.bl true))(v0 v1:Option S):∀(k:KL)(vs:List D),Sh (k.map (·.2.b)) (vs.take k.length)->iu (gT 2 (jR [2,3])) FB K (gR (k.map kf) vs) [v0,v1,none,none,none]=.ok (.bl (aF k vs))
 |[],_,_=>hK _
 |p::k,[],h=>by cases p with|mk _ c=>cases c<;>cases h
 |p::k,v::vs,h=>by
  show((rO (gT 2 (jR [2,3]) (.tup [kf p,v]) [v0,v1,none,none,none])).bind λρ1=>FB ⟨iu (gT 2 (jR [2,3])) FB K (gR (k.map kf) vs),K.nx,iu (gT 2 (jR [2,3])) FB K (gR (k.map kf) vs),K.ex⟩ ρ1)=_;have e:gT 2 (jR [2,3]) (.tup [kf p,v]) [v0,v1,none,none,none]=some [v0,v1,‹kf p›,‹v›,none]:=rfl;have j1:ah (kf p) (.int 1)=some p.2.d:=rfl;have ih:Sh (k.map (·.2.b)) (vs.take k.length)->_:=vP K hK v0 v1 k vs;rw[e,eA,cJ];obtain⟨nm,c⟩:=p;show _=Except.ok (D.bl (qg c v&&aF k vs));cases c with
  |num lo hi=>
   cases h with
   |int i h=>
    have ih:=ih h;show FB _ _=Except.ok (D.bl (!(decide (i<lo)||decide (i>hi))&&aF k vs))
    conv=>lhs;unfold FB
    cases h1:decide (i<lo)with
    |true=>simp! only[j1,Kd.d,lU,h1,Qt,R9,PV]
    |false=>
     cases h2:decide (i>hi)with
     |true=>simp! only[j1,Kd.d,lU,h1,h2,Qu,R9,PV]
     |false=>
      simp! only[j1,Kd.d,lU,Gz,h1,h2,Bool.or_self,Sa,Sr];exact ih
  |wrd ws=>
   cases h with
   |str w h=>
    have ih:=ih h;have ni:iH (.str w) (.tup (ws.map .str))=some (.bl (!ws.contains w)):=yy w ws;show FB _ _=Except.ok (D.bl (ws.contains w&&aF k vs))
    conv=>lhs;unfold FB
    cases h1:ws.contains w with
    |false=>
     rw[h1]at ni;simp! only[j1,Kd.d,oq,mh,ni,PV]
    |true=>
     rw[h1]at ni;simp! only[j1,Kd.d,oq,mh,ni,Sr];exact ih
theorem Jm{k:KL}{vs:List D}(h:Sh (k.map (·.2.b)) (vs.take k.length)):aC fG 2 5 [.tup (k.map kf),.tup vs]=.ok (.bl (aF k vs)):=by
 rw[cE];unfold fG;simp! only[nI];exact vP _ (λρ=>rfl) _ _ k vs h
theorem Fp(bs:bQ):uW [.lst (bs.map .bl)]=some (.bl (bs.all id)):=by
 have e:uW [.lst (bs.map .bl)]=(allB (bs.map .bl)).bind λb=>some (D.bl b):=rfl;rw[e,yV];rfl
theorem yY:∀(k:KL)(vs:List D),aF k (vs.take k.length)=aF k vs
 |[],v=>by cases v<;>rfl
 |_::_,[]=>rfl
 |p::k,v::vs=>by
  show(qg p.2 v&&aF k (vs.take k.length))=(qg p.2 v&&aF k vs)
  rw[yY k vs]
theorem HJ(g:Nat)(c:Kd)(v:D)(h:Sh [c.b] [v]):dg (g+1) [c.d,v]=.ok (.bl (qg c v)):=by
 rw[kn,cE];unfold ue;cases c with
 |num lo hi=>
  cases h with
  |int i _=>
   have t1:fD "int" (.int i)=some (.bl true):=rfl;have t2:fD "bool" (.int i)=some (.bl false):=rfl;have wh:aC il 1 1 [.int i]=.ok (.bl true):=by
    rw[gI];unfold il;simp! only[t1,t2,Bool.and_self]
   have e:(decide (lo<=i)&&decide (i<=hi))=qg (.num lo hi) (.int i):=by
    show _=!(decide (i<lo)||decide (i>hi));by_cases h1:lo<=i<;>by_cases h2:i<=hi<;>simp[h1,h2]<;>omega
   rw[<-e];simp! only[Kd.d,lU,wh,Sr]
 |wrd ws=>
  cases h with
  |str w _=>
   have t1:fD "str" (.str w)=some (.bl true):=rfl;show _=Except.ok (D.bl (ws.contains w));simp! only[Kd.d,oq,mh,t1,pA,Sr]
theorem C4:∀(k:KL)(vs:List D),Sh (k.map (·.2.b)) vs->gR (k.map (·.2.d)) vs=(k.zip vs).map (λz=>.tup [z.1.2.d,z.2])/\(∀z∈k.zip vs,Sh [z.1.2.b] [z.2])/\aF k vs=((k.zip vs).map λz=>qg z.1.2 z.2).all id
 |[],_,h=>by cases h;exact⟨rfl,(λ_ h=>by cases h),rfl⟩
 |p::k,vs,h=>by
  cases vs with
  |nil=>obtain⟨nm,c⟩:=p;cases c<;>cases h
  |cons v vs=>
   have hh:Sh [p.2.b] [v]/\Sh (k.map (·.2.b)) vs:=by
    obtain⟨nm,c⟩:=p;cases c with
    |num _ _=>cases h with|int i h=>exact⟨.int i .nil,h⟩
    |wrd _=>cases h with|str w h=>exact⟨.str w .nil,h⟩
   obtain⟨e1,e2,e3⟩:=C4 k vs hh.2;refine⟨?_,λz hz=>?_,?_⟩
   ·rw[P6,Rr,P6,<-e1];rfl
   ·rw[Rr]at hz;rcases List.mem_cons.mp hz with z'|z'
    ·rw[z'];exact hh.1
    ·exact e2 z z'
   ·rw[Rr,P6,QL,<-e3];rfl
theorem K3(g:Nat){k:KL}{vs:List D}(h:Sh (k.map (·.2.b)) vs)(k8:k.length<=8):bK (g+2) [.lst (k.map (·.2.d)),.tup vs]=.ok (.bl (aF k vs)):=by
 obtain⟨z1,z2,z3⟩:=C4 k vs h;have vl:=h.length;rw[P7]at vl;have ze:rk [.lst (k.map (·.2.d)),.tup vs]=some ((k.zip vs).map λz=>.tup [z.1.2.d,z.2]):=by
  show some (gR _ _)=_;rw[z1]
 have t1:fD "tuple" (.tup vs)=some (.bl true):=rfl;have hp:aC gA 2 2 [.tup vs,.int k.length]=.ok (.bl true):=by
  rw[cE];unfold gA;simp! only[t1,vl,beq_self_eq_true,Bool.and_self]
 have lc:dA [none,none] (oU (aa (ae 0) (aa (ae 1) af))) (gT 2 (jR [0,1])) bF (fR (dg (g+1)) (aa (ae 0) (aa (ae 1) af))) [‹.lst (k.map (·.2.d))›,‹.tup vs›]=.ok (.lst (((k.zip vs).map λz=>qg z.1.2 z.2).map .bl)):=by
  refine cj (ds:=(k.zip vs).map λz=>.tup [z.1.2.d,z.2]) (by simp! only[ze]) (by rw[P7,List.length_zip];omega) ?_;rw[RN];refine eP (λz:(Str×Kd)×D=>D.tup [z.1.2.d,z.2]) _ (k.zip vs) λz hz=>⟨[‹z.1.2.d›,‹z.2›],rfl,rfl,?_⟩
  have:=HJ g z.1.2 z.2 (z2 z hz)
  simp! only[this];rfl
 have al:=Fp ((k.zip vs).map λz=>qg z.1.2 z.2);rw[<-z3]at al;rw[iF,cE];unfold mU;generalize ((k.zip vs).map λz=>qg z.1.2 z.2).map D.bl=W at *;simp! only[P7,hp,lc,al]
section
open Classical
variable{L:List ZP}{t:KL}{r q:dZ}
theorem yc(ok:Ok L)(l8:L.length<=8){A:bB}(hA:∀a∈A,Sh (so L) (a.take L.length))(al:A.length<64)(b:Bool):aC cG 3 5 [.tup [fr (k1 L) r,fr (k2 L++t) q],.tup (A.map .tup),.bl b]=.ok (.lst ((A.filter λa=>aF (bk L) a==b).map .tup)):=by
 have sk:=tV ok l8;have ct:cutD ((k2 L++t).map kf) none (some (L.length:Int))=(k2 L).map kf:=by
  rw[eZ,QV,Si (by rw[P7,P7])]
 have bl:(bk L).length=L.length:=by unfold bk;rw[P7]
 have kd:∀a0 a1 a2 a4:Option S,dA [none] (aG (ae 3)) (gN 0) bF (f2 ah (ae 0) (fC (.int 1))) [a0,a1,a2,‹.tup ((bk L).map kf)›,a4]=.ok (.lst ((bk L).map (·.2.d))):=λa0 a1 a2 a4=>
  yt kf (·.2.d) (bk L) _ _ _ (by simp! only[]) ‹0› λz _=>rfl
 have lc:∀a0 a3:Option S,dA [none,some 4,some 2] (aG (ae 1)) (gN 0) (fB (f2 eS (fR (bK 20) (aa (ae 1) (aa (aH (ae 0) av (aY (fL dS (aa (ae 1) af)))) af))) (ae 2))) (ae 0) [a0,‹.tup (A.map .tup)›,‹.bl b›,a3,‹.lst ((bk L).map (·.2.d))›]=.ok (.lst ((A.filter λa=>aF (bk L) a==b).map .tup)):=λa0 a3=>by
  refine cj (ds:=A.map .tup) (by simp! only[]) (by rw[P7];omega) ?_;refine o3 (ρ:=[none,‹.lst ((bk L).map (·.2.d))›,‹.bl b›]) (g:=gN 0) (C:=fB (f2 eS (fR (bK 20) (aa (ae 1) (aa (aH (ae 0) av (aY (fL dS (aa (ae 1) af)))) af))) (ae 2))) (Fe:=ae 0) D.tup (λa=>aF (bk L) a==b) D.tup A λa ha=>⟨[‹.tup a›,‹.lst ((bk L).map (·.2.d))›,‹.bl b›],rfl,?_,λ_=>rfl⟩
  have e:=K3 18 (hA a ha) ‹0›;have at_:=yY (bk L) a;rw[bl]at at_;rw[at_]at e;generalize hK:(bk L).map (·.2.d)=K at e ⊢;have kl:K.length=L.length:=by rw[<-hK,P7,bl]
  simp! only[kl,eZ,e]
 generalize (A.filter λa=>aF (bk L) a==b).map D.tup=W at lc ⊢;rw[jy];unfold cG;simp! only[t0,t1,P7,ct,sk,kd,lc]
noncomputable abbrev gw(m:Nat)(B:bB)(a:List D):List D:=a++[.tup ((gp m B (a.take m)).map .tup)]
theorem EL{al:cx}{q:cX}(h:q∉al.map (·.1)):jS al q=none:=by
 unfold jS;rw[List.find?_eq_none.mpr λp hp z=>h (List.mem_map.mpr ⟨p,hp,of_decide_eq_true z⟩)];rfl
theorem Ke{m:Nat}{B:bB}{f:List D}(h:f∉fs m B):gp m B f=[]:=by
 unfold gp;rw[List.filter_eq_nil_iff.mpr λx hx y=>h ((yp m).mpr ⟨x,hx,of_decide_eq_true y⟩)];rfl
theorem FL{σ τ:bQ}{m:Nat}{B:bB}(T:Tab σ B)(hm:m<=σ.length){f:List D}(hf:Sh τ f)(hτ:σ.take m=τ):sJ (encK ((fs m B).map λf=>(kq f,D.tup ((gp m B f).map .tup)))) (((fs m B).map λf=>(kq f,D.tup ((gp m B f).map .tup))).map (·.2)) (.tup f) (.tup [])=some (.tup ((gp m B f).map .tup)):=by
 have fsL:=D5 B (T.fsh hm);rw[hτ]at fsL;unfold sJ;rw[gx];have e:fK (.tup f)=some (kq f):=by
  conv=>lhs;rw[<-tq hf]
  exact bR _
 show((fK (.tup f)).bind λq=>some ((jS ((fs m B).map λf=>(kq f,D.tup ((gp m B f).map .tup))) q).getD (.tup [])))=_;rw[e];show some ((jS _ (kq f)).getD (.tup []))=_;congr 1;by_cases h:f∈fs m B
 ·have nd:(((fs m B).map λf=>(kq f,D.tup ((gp m B f).map .tup))).map (·.1)).Nodup:=by
   rw[RN];exact List.pairwise_map.mpr ((B1 m B).imp_of_mem λ{a b} ha hb ne e=>ne (nX (fsL a ha) (fsL b hb) e))
  rw[qO (p:=(kq f,D.tup ((gp m B f).map .tup))) nd (List.mem_map.mpr ⟨f,h,rfl⟩)];rfl
 ·rw[EL λz=>by
   obtain⟨p,hp,e⟩:=List.mem_map.mp z;obtain⟨g,hg,rfl⟩:=List.mem_map.mp hp;exact h (by rw[<-nX (fsL g hg) hf e];exact hg),Ke h];rfl
theorem wF(o:D)(ok:Ok L)(l8:L.length<=8){A B:bB}(hA:∀a∈A,Sh (so L) (a.take L.length))(al:A.length<64)(wa:∀a∈A,a.length<=100){σ:bQ}(T:Tab σ B)(hm:L.length<=σ.length)(hσ:σ.take L.length=so L):
  aC bI 3 5 [o,.tup [fr (k1 L) r,fr (k2 L++t) q],.tup [.tup (A.map .tup),.tup (B.map .tup)]]=.ok (.tup (((A.filter λa=>aF (bk L) a).map (gw L.length B)).map .tup)):=by
 have sn:=yc (r:=r) (q:=q) (t:=t) ok l8 hA al true;have fe:(A.filter λa=>aF (bk L) a==true)=A.filter λa=>aF (bk L) a:=List.filter_congr λa _=>by cases aF (bk L) a<;>rfl
 rw[fe]at sn;have gi:=wY T hm;have kL:(k1 L).length=L.length:=P7 _;have fl:=Sj (λa=>aF (bk L) a) A;have lc:∀a0:Option S,dA [none,some 4,some 3] (aG (fR (aC cG 3 5) (aa (ae 1) (aa (f2 ah (ae 2) (fC (.int 0))) (aa (fC (.bl true)) af))))) (gN 0) bF (f2 aW (ae 0) (aL (aa (nU (ae 1) (aH (ae 0) av (aY (ae 2))) (aL af)) af))) [a0,‹.tup [fr (k1 L) r,fr (k2 L++t) q]›,‹.tup [.tup (A.map .tup),.tup (B.map .tup)]›,‹.int L.length›,‹bS ((fs L.length B).map λf=>(kq f,D.tup ((gp L.length B f).map .tup)))›]=.ok (.lst (((A.filter λa=>aF (bk L) a).map (gw L.length B)).map .tup)):=λ_=>by
  refine cj (ds:=(A.filter λa=>aF (bk L) a).map .tup) ?_ (by rw[P7];omega) ?_
  ·generalize fr (k1 L) r=F1 at *;generalize fr (k2 L++t) q=F2 at *;generalize bS ((fs L.length B).map λf=>(kq f,D.tup ((gp L.length B f).map .tup)))=Z;simp! only[t0,sn]
  ·rw[RN];refine eP D.tup _ _ λa ha=>?_;have ha':=(List.mem_filter.mp ha).1;have gt:=FL T hm (hA a ha') hσ;generalize hal:((fs L.length B).map λf=>(kq f,D.tup ((gp L.length B f).map .tup)))=al at gt;have ad:=cw a [.tup ((gp L.length B (a.take L.length)).map .tup)] (by rw[Qo];have:=wa a ha';omega);refine⟨[‹.tup a›,‹bS al›,‹.int L.length›],rfl,rfl,?_⟩;have ed:∀(fk fx:FX),nU (ae 1) fk fx [‹.tup a›,‹bS al›,‹.int L.length›]=(fk [‹.tup a›,‹bS al›,‹.int L.length›]).bind λk=>(fx [‹.tup a›,‹bS al›,‹.int L.length›]).bind λx=>rO (sJ (encK al) (al.map (·.2)) k x):=λ_ _=>rfl;have eg:nU (ae 1) (aH (ae 0) av (aY (ae 2))) (aL af) [‹.tup a›,‹bS al›,‹.int L.length›]=.ok (.tup ((gp L.length B (a.take L.length)).map .tup)):=by
    rw[ed];generalize bS al=Z;simp! only[eZ,J4,gt]
   generalize bS al=Z at eg;simp! only[eg,Kf,ad];rfl
 rw[jy];unfold bI;generalize bS ((fs L.length B).map λf=>(kq f,D.tup ((gp L.length B f).map .tup)))=Z at *;generalize ((A.filter λa=>aF (bk L) a).map (gw L.length B)).map D.tup=W at *;have i0:ah (fr (k1 L) r) (.int 0)=some (.tup ((k1 L).map kf)):=rfl;generalize fr (k1 L) r=F1 at *;generalize fr (k2 L++t) q=F2 at *;simp! only[t0,t1,i0,P7,kL,gi,lc]
end
theorem Ct{i:Nat}{K:Ks}{ρ:aq}(h:EF ρ=true):n8 i K ρ=K.nx (ρ.set i (some (.nest (.lst [.lst [],.lst []])))):=by
 unfold n8;rw[if_pos h]
theorem yX{i c:Nat}{f:FX}{K:Ks}{ρ:aq}{xs ys:List D}{v:D}(h:ρ[i]?=some (some (.nest (.lst xs))))(hc:xs[c]?=some (.lst ys))(e:f ρ=.ok v)(l:ys.length<1000):oC i c f K ρ=K.nx (ρ.set i (some (.nest (.lst (xs.set c (.lst (ys++[v]))))))):=by
 unfold oC;rw[h];show(match xs[c]? with|some (.lst ys)=>_|_=>_)=_;rw[hc];show(xj (f ρ)).bind _=_;rw[e];show(if small (ys.length+1)then _ else _)=_;rw[if_pos (cK ‹0›)]
section
variable{L:List ZP}{t:KL}{r q:dZ}{n:Nat}{b:Int}
theorem Om(a b c d:D):qb [a,b,c,d]=some (.tup [a,b,c,d]):=nr rfl
theorem Oc(a b c:D):jP [a,b,c]=some (.lst [a,b,c]):=nr rfl
theorem Lv(ok:Ok L)(x:Int):∃(K:KL)(w:Int)(b0 b1:Bool),K.length=L.length/\(∀p∈K,p.2.gd)/\K.map (·.2.b)=so L/\je [.int (x%6),.int 2]=some (.int w)/\ah (.lst [.tup ((k1 L).map kf),.tup ((k2 L).map kf),.tup ((bk L).map kf)]) (.int w)=some (.tup (K.map kf))/\u6 (.int (x%6)) (.tup [.int 0,.int 2,.int 4])=some (.bl b0)/\u6 (.int (x%6)) (.tup [.int 1,.int 3,.int 4,.int 5])=some (.bl b1):=by
 have bl:(bk L).length=L.length:=by unfold bk;rw[P7]
 rcases(show x%6=0\/x%6=1\/x%6=2\/x%6=3\/x%6=4\/x%6=5 by omega)with z|z|z|z|z|z<;>rw[z]
 ·exact⟨k1 L,0,true,false,P7 _,KU ok,Oq ok,rfl,rfl,by kernel_rfl,by kernel_rfl⟩
 ·exact⟨k2 L,1,false,true,P7 _,Lc ok,OI ok,rfl,rfl,by kernel_rfl,by kernel_rfl⟩
 ·exact⟨bk L,2,true,false,bl,sR ok,rfl,rfl,rfl,by kernel_rfl,by kernel_rfl⟩
 ·exact⟨bk L,2,false,true,bl,sR ok,rfl,rfl,rfl,by kernel_rfl,by kernel_rfl⟩
 ·exact⟨bk L,2,true,true,bl,sR ok,rfl,rfl,rfl,by kernel_rfl,by kernel_rfl⟩
 ·exact⟨bk L,2,false,true,bl,sR ok,rfl,rfl,rfl,by kernel_rfl,by kernel_rfl⟩
noncomputable abbrev sp(L:List ZP)(t:KL):bQ:=so L++t.map (·.2.b)
theorem gL(L:List ZP)(t:KL):(sp L t).length=L.length+t.length:=by
 rw[Qj,j6,P7]
theorem pI(L:List ZP)(t:KL):(sp L t).take L.length=so L:=Si (j6 L)
noncomputable def Rw(σ:bQ)(w:Nat)(a:List D):Prop:=a.length=σ.length+w/\Sh σ (a.take σ.length)/\∀v∈a,AL 4 v
structure Tw(σ:bQ)(w:Nat)(A:bB):Prop where
 tb:Tb σ σ.length A
 rw:∀a∈A,Rw σ w a
theorem rN{σ:bQ}(l1:1<=σ.length){w:Nat}(rows:bB)(h:∀a∈rows,Rw σ w a)(hn:rows.length<64):∃A:bB,Tw σ w A/\A.length<=rows.length/\aC bM 2 4 [.int σ.length,.lst (rows.map .tup)]=.ok (.tup (A.map .tup)):=by
 have ne:σ≠[]:=λz=>by rw[z]at l1;cases l1
 obtain⟨t,et,ri,tm,tl⟩:=sQ (σ:=σ) (kl:=σ.length) ne rfl rows (λa ha=>(h a ha).2.1) hn;exact⟨t,⟨Tb.of ne rfl (λa ha=>(h a (tm a ha)).2.1) ri ‹0›,λa ha=>h a (tm a ha)⟩,tl,et⟩
theorem Tw.tab{σ:bQ}{w:Nat}{B:bB}(T:Tw σ w B)(l:σ.length+w<=16):Tab σ B:=⟨T.tb.s.sh,T.tb.ri,T.tb.s.ln,λa ha=>by have:=(T.rw a ha).1;omega,λa ha v hv=>AL.le (by decide) ((T.rw a ha).2.2 v hv)⟩
theorem zY(ns:List Int)(g:Gd b L t r q n)(M:Int)(M5:6<=M)(M50:M<=50):∃A B:bB,Tw (so L) r.length A/\Tw (sp L t) q.length B/\A.length<=M/\B.length<=M/\aC bU 5 13 [fr (k1 L) r,fr (k2 L++t) q,.lst (ns.map .int),.int 2,.int M]=.ok (.tup [.tup (A.map .tup),.tup (B.map .tup)]):=by
 have l8:=g.l8;have l1:=g.l1;have r8:=g.r8;have q8:=g.q8;have kb:aC bA 2 5 [fr (k1 L) r,fr (k2 L++t) q]=.ok (.tup ((bk L).map kf)):=qv g.ok ‹0› t (.tup (r.map fld)) (.tup (q.map fld));obtain⟨N,hN,rn⟩:∃N:Nat,(N:Int)<=M/\∀e1 e2:Int,lN [.int (ns.length:Int),.int (2+6)]=some (.int e1)->je [.int e1,.int (2+M)]=some (.int e2)->pp [.int 2,.int e2]=some (eR 2 N):=by
  refine⟨((if(2+M:Int)<(if(2+6:Int)>(ns.length:Int)then 2+6 else(ns.length:Int))then 2+M else(if(2+6:Int)>(ns.length:Int)then 2+6 else(ns.length:Int)))-2).toNat,?_,λe1 e2 h1 h2=>?_⟩
  ·split<;>split<;>omega
  ·rw[jG]at h1;cases h1;rw[jC]at h2;cases h2;generalize he:(if(2+M:Int)<(if(2+6:Int)>(ns.length:Int)then 2+6 else(ns.length:Int))then 2+M else(if(2+6:Int)>(ns.length:Int)then 2+6 else(ns.length:Int)))=e;have e2:2<=e/\e<=60:=(by rw[<-he];split<;>split<;>omega);show(if okR 2&&okR e then some (eR 2 ((e-2).toNat))else none)=_;have o1:okR 2=true:=decide_eq_true ⟨by decide,by decide⟩;have o2:okR e=true:=decide_eq_true ⟨by omega,by omega⟩;rw[o1,o2];rfl
 have mx:=jG (ns.length:Int) (2+6);have rn:=rn _ _ mx (jC _ _);have g6:=gm 6;have g7:=gm 7;have g3:=gm 3;have d6:=gd 6;have i0:ah (fr (k1 L) r) (.int 0)=some (.tup ((k1 L).map kf)):=rfl;have i1:ah (fr (k1 L) r) (.int 1)=some (.tup (r.map fld)):=rfl;have j0:ah (fr (k2 L++t) q) (.int 0)=some (.tup ((k2 L++t).map kf)):=rfl;have j1:ah (fr (k2 L++t) q) (.int 1)=some (.tup (q.map fld)):=rfl;have kL:(k1 L).length=L.length:=P7 _;have kP:(k2 L++t).length=L.length+t.length:=by rw[Qj,P7]
 have ct:cutD ((k2 L++t).map kf) none (some (L.length:Int))=(k2 L).map kf:=by
  rw[eZ,QV,Si (by rw[P7,P7])]
 have cf:cutD ((k2 L++t).map kf) (some (L.length:Int)) none=t.map kf:=by
  rw[fh,QV,Ss (by rw[P7,P7])]
 have adf:=cw (t.map kf) (q.map fld) (by rw[P7,P7];omega);have sl:=j6 L;have pl':=gL L t;obtain⟨T,hT⟩:∃T:bH,T=(wq 7 (aN (aL (aa (fR (aC bM 2 4) (aa (ae 6) (aa (f2 ah (ae 7) (fC (.int 0))) af))) (aa (fR (aC bM 2 4) (aa (fL dS (aa (f2 ah (ae 1) (fC (.int 0))) af)) (aa (f2 ah (ae 7) (fC (.int 1))) af))) af))))):=⟨_,rfl⟩
 rw[IY];unfold bU;rw[<-hT];generalize hF1:fr (k1 L) r=F1 at *;generalize hF2:fr (k2 L++t) q=F2 at *;have nw:=λK:Ks=>Ct (i:=7) (K:=K) (ρ:=[‹F1›,‹F2›,‹.lst (ns.map .int)›,‹.int 2›,‹.int M›,‹.tup ((bk L).map kf)›,‹.int L.length›,none,none,none,none,none,none]) rfl;simp! only[kb,i0,P7,kL,nw,rn];refine cZ (Q:=λz=>∃A B:bB,Tw (so L) r.length A/\Tw (sp L t) q.length B/\A.length<=M/\B.length<=M/\z=.ok (.tup [.tup (A.map .tup),.tup (B.map .tup)]))
  (λi ρ=>∃R0 R1:bB,R0.length<=i/\R1.length<=i/\(∀a∈R0,Rw (so L) r.length a)/\(∀a∈R1,Rw (sp L t) q.length a)/\ρ=[‹F1›,‹F2›,‹.lst (ns.map .int)›,‹.int 2›,‹.int M›,‹.tup ((bk L).map kf)›,‹.int L.length›,some (.nest (.lst [.lst (R0.map .tup),.lst (R1.map .tup)])),none,none,none,none,none]) ?_ ⟨[],[],PX _,PX _,(λ_ h=>nomatch h),(λ_ h=>nomatch h),rfl⟩ ?_
 ·rintro i d ρ kk hd ⟨R0,R1,l0,l1',h0,h1,rfl⟩;have hi:=bW hd;rw[cC]at hi;have hdi:d=.int ((2+i:Nat):Int):=by
   rw[iP,Qh,Ra hi]at hd;cases hd;simp
  subst hdi;obtain⟨x,x0,x1,ex⟩:=o8 ns (2+i) ‹0›;obtain⟨y,y0,y1,ey⟩:=eU x x0 ‹0›;obtain⟨K,w,b0,b1,kl,kg,ks,em,ek,eb0,eb1⟩:=Lv g.ok x;obtain⟨h,hh0,hh1,eh⟩:∃h:Int,0<=h/\h<2147483700/\ah (.lst [.int y,.int (y%7),.int (y%3)]) (.int (x/6%3))=some (.int h):=by
   rcases(show x/6%3=0\/x/6%3=1\/x/6%3=2 by omega)with z|z|z<;>rw[z]
   ·exact⟨y,by omega,by omega,rfl⟩
   ·exact⟨y%7,by omega,by omega,rfl⟩
   ·exact⟨y%3,by omega,by omega,rfl⟩
  obtain⟨vs,ev,v1,v2,v3⟩:=nE n g.n2 K [] ‹0› (by decide) kg (λ_ h=>nomatch h) (K.map kf) (by rw[Qa,lZ]) h hh0 hh1;have v1:vs.length=K.length+0:=v1;rw[RW ‹0›]at v2;have vsh:=v2.sh;rw[ks]at vsh;obtain⟨us,eu,u1,_,u3⟩:=nE n g.n2 [] r (by decide) ‹0› (λ_ h=>nomatch h) g.hr (r.map fld) rfl (y+1) ‹0› ‹0›;have u1:us.length=0+r.length:=u1;obtain⟨ws,ew,w1,w2,w3⟩:=nE n g.n2 t q ‹0› q8 g.tg g.hq (t.map kf++q.map fld) (by rw[QV,lZ]) (y+2) ‹0› ‹0›;have a1:=cw vs us ‹0›;have a2:=cw vs ws ‹0›;have rA:Rw (so L) r.length (vs++us):=⟨by rw[Qj];omega,by rw[Si ‹0›];exact vsh,λv hv=>(List.mem_append.mp hv).elim (v3 v) (u3 v)⟩
  have rB:Rw (sp L t) q.length (vs++ws):=⟨by rw[Qj];omega,by
   rw[gL,show vs++ws=vs++ws from rfl,<-show vs.length=L.length by omega,Su];exact t6 vsh w2.sh,λv hv=>(List.mem_append.mp hv).elim (v3 v) (w3 v)⟩
  have sn:∀{σ:bQ}{w:Nat}{R:bB}{a:List D},(∀a∈R,Rw σ w a)->Rw σ w a->∀c∈R++[a],Rw σ w c:=λh ha c hc=>by
   rcases List.mem_append.mp hc with z|z
   ·exact h c z
   ·rw[List.mem_singleton.mp z];exact ha
  have m0:(R0++[vs++us]).map D.tup=R0.map D.tup++[.tup (vs++us)]:=by rw[QV];rfl
  have m1:(R1++[vs++ws]).map D.tup=R1.map D.tup++[.tup (vs++ws)]:=by rw[QV];rfl
  have p0:=λ(K:Ks)(Y1:List D)=>yX (v:=.tup (vs++us)) (i:=7) (c:=0) (f:=f2 aW (ae 12) (fR (aC ce 2 2) (aa (f2 ah (ae 0) (fC (.int 1))) (aa (f2 aW (ae 11) (fC (.int 1))) af)))) (K:=K) (ρ:=[‹F1›,‹F2›,‹.lst (ns.map .int)›,‹.int 2›,‹.int M›,‹.tup ((bk L).map kf)›,‹.int L.length›,some (.nest (.lst [.lst (R0.map .tup),.lst Y1])),‹.int ((2+i:Nat):Int)›,‹.int x›,‹.int (x%6)›,‹.int y›,‹.tup vs›]) rfl rfl (by simp! only[i1,eu,a1]) (by rw[P7];omega);have p1:=λ(K:Ks)(Y0:List D)=>yX (v:=.tup (vs++ws)) (i:=7) (c:=1) (f:=f2 aW (ae 12) (fR (aC ce 2 2) (aa (f2 aW (aH (f2 ah (ae 1) (fC (.int 0))) (aY (ae 6)) av) (f2 ah (ae 1) (fC (.int 1)))) (aa (f2 aW (ae 11) (fC (.int 2))) af)))) (K:=K) (ρ:=[‹F1›,‹F2›,‹.lst (ns.map .int)›,‹.int 2›,‹.int M›,‹.tup ((bk L).map kf)›,‹.int L.length›,some (.nest (.lst [.lst Y0,.lst (R1.map .tup)])),‹.int ((2+i:Nat):Int)›,‹.int x›,‹.int (x%6)›,‹.int y›,‹.tup vs›]) rfl rfl (by simp! only[j0,cf,j1,adf,ew,a2]) (by rw[P7];omega);rw[<-m0]at p0;rw[<-m1]at p1;refine⟨_,[‹F1›,‹F2›,‹.lst (ns.map .int)›,‹.int 2›,‹.int M›,‹.tup ((bk L).map kf)›,‹.int L.length›,some (.nest (.lst [.lst ((if b0 then R0++[vs++us]else R0).map .tup),.lst ((if b1 then R1++[vs++ws]else R1).map .tup)])),none,none,none,none,none],rfl,⟨_,_,?_,?_,?_,?_,rfl⟩,?_⟩
  ·cases b0<;>simp<;>omega
  ·cases b1<;>simp<;>omega
  ·cases b0
   ·exact h0
   ·exact sn h0 rA
  ·cases b1
   ·exact h1
   ·exact sn h1 rB
  ·cases b0<;>cases b1<;>simp! only[ex,g6,ey,i0,j0,ct,Oc,em,ek,g7,g3,d6,eh,ev,Ej,Om,eb0,eb1,p0,p1]
 ·rintro ρ' ⟨R0,R1,l0,l1',h0,h1,rfl⟩;rw[cC]at l0 l1';obtain⟨A,tA,la,ea⟩:=rN (σ:=so L) ‹0› R0 h0 ‹0›;obtain⟨B,tB,lb,eb⟩:=rN (σ:=sp L t) ‹0› R1 h1 ‹0›;rw[sl]at ea;rw[pl']at eb;refine⟨A,B,tA,tB,by omega,by omega,?_⟩;rw[hT];have fz:∀(G:bH)(K:Ks),wq 7 G K [‹F1›,‹F2›,‹.lst (ns.map .int)›,‹.int 2›,‹.int M›,‹.tup ((bk L).map kf)›,‹.int L.length›,some (.nest (.lst [.lst (R0.map .tup),.lst (R1.map .tup)])),none,none,none,none,none]=G K [‹F1›,‹F2›,‹.lst (ns.map .int)›,‹.int 2›,‹.int M›,‹.tup ((bk L).map kf)›,‹.int L.length›,‹.lst [.lst (R0.map .tup),.lst (R1.map .tup)]›,none,none,none,none,none]:=λ_ _=>rfl;simp! only[fz,j0,P7,kP,ea,eb,mV]
end
noncomputable abbrev rR(nm:Str):D:=.obj "Gather" ["name"] [.str nm]
theorem HN(nm:Str):x9 "name" ["Gather"] (rR nm)=some (.str nm):=by rfl
theorem mG{nm:Str}{w:Str}{g1 g2:cO}{fo:FX}{fas:bE}{ρ:aq}{as:List D}(h:fo ρ=.ok (rR nm))(ha:fas ρ=.ok as)(hm:(["name"]:ax).contains w=false):dL w [("Pair",g1),("Gather",g2)] fo fas ρ=g2 (rR nm::as):=by
 unfold dL;rw[h,cJ];have h1:(("Gather":Str)==("Pair":Str))=false:=by decide +kernel
 have:List.lookup ("Gather":Str) [(("Pair":Str),g1),(("Gather":Str),g2)]=some g2:=by
  rw[Qz,h1,Qz,BEq.rfl]
 simp only[this,hm,ha,cJ];rfl
theorem nv:(["name"]:ax).contains "view_form"=false:=by decide +kernel
theorem Pr:(["name"]:ax).contains "words"=false:=by decide +kernel
theorem ng:(["name"]:ax).contains "got"=false:=by decide +kernel
theorem np:(["name"]:ax).contains "put"=false:=by decide +kernel
theorem Gj(c:Str)(a:Str)(fas:bE)(ρ:aq):fNew c [a] fas ρ=(fas ρ).bind λas=>if as.length=1 then .ok (.obj c [a] as)else un:=nr rfl
theorem HB:∀{n:Nat}{d:D},KG n d->KG (n+1) d
 |0,_,h=>.inl h
 |n+1,_,h=>by
  rcases h with h|⟨ks,qs,b,e,h1,h2,h3,h4,h5⟩
  ·exact .inl h
  ·exact .inr ⟨ks,qs,b,e,h1,h2,h3,h4,λq hq=>HB (h5 q hq)⟩
noncomputable abbrev IK(t:KL)(q:dZ):D:=.tup [.str "rows",fr t q,.bl false]
section
open Classical
variable{L:List ZP}{t:KL}{r q:dZ}{n:Nat}
theorem K9(t1:1<=t.length)(t8:t.length<=8)(tg:∀p∈t,p.2.gd)(q8:q.length<=8)(hq:∀f∈q,KG n f.2):KG (n+1) (IK t q):=.inr ⟨t,q,false,rfl,t1,t8,tg,q8,hq⟩
theorem uN{nm:Str}(t1:1<=t.length)(t8:t.length<=8)(tg:∀p∈t,p.2.gd)(q8:q.length<=8)(hr:∀f∈r,KG n f.2)(hq:∀f∈q,KG n f.2):∀f∈r++[(nm,IK t q)],KG (n+1) f.2:=λf hf=>by
 rcases List.mem_append.mp hf with z|z
 ·exact HB (hr f z)
 ·rw[List.mem_singleton.mp z];exact K9 t1 t8 tg q8 hq
theorem zh(nm:Str)(ok:Ok L)(l8:L.length<=8)(t1':1<=t.length)(t8:L.length+t.length<=8)(r8:r.length<=7)(q8:q.length<=8)(n2:n<=2)(hq:∀f∈q,KG n f.2)(hn:nm∉nms (k1 L) r):aC bz 3 6 [rR nm,fr (k1 L) r,fr (k2 L++t) q]=.ok (fr (bk L) (r++[(nm,IK t q)])):=by
 have sk:=tV ok l8;have kL:(k1 L).length=L.length:=P7 _;have kP:(k2 L++t).length=L.length+t.length:=by rw[Qj,P7]
 have ct:cutD ((k2 L++t).map kf) none (some (L.length:Int))=(k2 L).map kf:=by
  rw[eZ,QV,Si (by rw[P7,P7])]
 have cf:cutD ((k2 L++t).map kf) (some (L.length:Int)) none=t.map kf:=by
  rw[fh,QV,Ss (by rw[P7,P7])]
 have no:=yk ((k1 L).map kf) (r.map fld) ((k1 L).map toD++r) (by rw[Qj,P7,kL];omega) (by rw[QV,<-lZ]);have en:((k1 L).map toD++r).map (λp=>D.str p.1)=(nms (k1 L) r).map .str:=by
  unfold nms;simp only[QV,RN];rfl
 rw[en]at no;have no:aC fY 1 1 [fr (k1 L) r]=.ok (.tup ((nms (k1 L) r).map .str)):=no;have ei:=pA nm (nms (k1 L) r);have e:(nms (k1 L) r).contains nm=false:=by
  cases h:(nms (k1 L) r).contains nm with
  |false=>rfl
  |true=>exact absurd (by simpa using h) hn
 rw[e]at ei;obtain⟨d,d0,d1,ed⟩:=BC n 20 ‹0› t q ‹0› q8 hq;have ad:=cw (r.map fld) [fld (nm,IK t q)] (by rw[P7,Qo];omega);have em:r.map fld++[fld (nm,IK t q)]=(r++[(nm,IK t q)]).map fld:=by rw[QV];rfl
 rw[em]at ad;have ad:aW (.tup (r.map fld)) (.tup [.tup [.str nm,.tup [.str "rows",.tup [.tup (t.map kf),.tup (q.map fld)],.bl false]]])=some (.tup ((r++[(nm,IK t q)]).map fld)):=ad;have h1:decide (((L.length+t.length:Nat):Int)<=(L.length:Int))=false:=decide_eq_false ‹0›;have h2:decide ((r.length:Int)>=8)=false:=decide_eq_false ‹0›;have h3:decide (d>=3)=false:=decide_eq_false ‹0›;have fn:=HN nm;have ed:bu 20 [.tup [.tup (t.map kf),.tup (q.map fld)]]=.ok (.int d):=ed;have i0:ah (fr (k1 L) r) (.int 0)=some (.tup ((k1 L).map kf)):=rfl;have i1:ah (fr (k1 L) r) (.int 1)=some (.tup (r.map fld)):=rfl;have j0:ah (fr (k2 L++t) q) (.int 0)=some (.tup ((k2 L++t).map kf)):=rfl;have j1:ah (fr (k2 L++t) q) (.int 1)=some (.tup (q.map fld)):=rfl;generalize fr (k1 L) r=F1 at *;generalize fr (k2 L++t) q=F2 at *;generalize rR nm=G at *;rw[jy];unfold bz;unfold fr;generalize (r++[(nm,IK t q)]).map fld=RQ at *;generalize t.map kf=TK at *;generalize q.map fld=QF at *;simp! only[i0,P7,kL,j0,kP,h1,ct,sk,fn,no,ei,cf,j1,mV,i1,h2,ed,h3,Ej,Kf,ad]
theorem yF(ok:Ok L)(l8:L.length<=8)(q8':r.length<=8)(n2:n<=3)(hr:∀f∈r,KG n f.2):au 20 [fr (bk L) r,fr (bk L) r]=.ok (.bl true):=
 Fb 17 20 _ (by decide) (AB.le ‹0› (Hs (n:=4*n) (bk L) r (by unfold bk;rw[P7];exact l8) q8' (sR ok) λf hf=>Hj n f.2 (hr f hf)))
theorem Ia{A B:bB}{σ:bQ}(hA:∀a∈A,Sh (so L) (a.take L.length))(al:A.length<64)(wa:∀a∈A,a.length<=100)(hB:∀c∈B,Sh (so L) (c.take L.length))(bl':B.length<64)(a0 a1 a2 a5 a7 a11 a12:Option S):∃F:bH,F=(ai (fF (cQ (fR (aC fG 2 5) (aa (ae 6) (aa (ae 9) af)))) (ai (aM 10 (dA [none,some 4,some 9] (aG (f2 ah (ae 3) (fC (.int 1)))) (gN 0) (fB (f2 eS (aH (ae 0) av (aY (ae 1))) (aH (ae 2) av (aY (ae 1))))) (aH (ae 0) (aY (ae 1)) av))) (xV 8 eK (aa (f2 aW (ae 9) (aL (aa (fL aZ (aa (ae 10) af)) af))) af))) bC) (dC [9,10] bC))/\∀K:Ks,iu (gN 9) F K (A.map .tup) [a0,a1,a2,‹.tup [.tup (A.map .tup),.tup (B.map .tup)]›,‹.int L.length›,a5,‹.tup ((bk L).map kf)›,a7,some (.own (.lst [])),none,none,a11,a12]=K.nx [a0,a1,a2,‹.tup [.tup (A.map .tup),.tup (B.map .tup)]›,‹.int L.length›,a5,‹.tup ((bk L).map kf)›,a7,some (.own (.lst (((A.filter λa=>aF (bk L) a).map (gw L.length B)).map .tup))),none,none,a11,a12]:=by
 refine⟨_,rfl,λK=>?_⟩;have bl:(bk L).length=L.length:=by unfold bk;rw[P7]
 refine cZ (Q:=λz=>z=K.nx [a0,a1,a2,‹.tup [.tup (A.map .tup),.tup (B.map .tup)]›,‹.int L.length›,a5,‹.tup ((bk L).map kf)›,a7,some (.own (.lst (((A.filter λa=>aF (bk L) a).map (gw L.length B)).map .tup))),none,none,a11,a12]) (λi ρ=>ρ=[a0,a1,a2,‹.tup [.tup (A.map .tup),.tup (B.map .tup)]›,‹.int L.length›,a5,‹.tup ((bk L).map kf)›,a7,some (.own (.lst ((((A.take i).filter λa=>aF (bk L) a).map (gw L.length B)).map .tup))),none,none,a11,a12]) ?_ (by rw[QG];rfl) ?_
 ·rintro i d ρ kk hd rfl;have hi:=bW hd;rw[P7]at hi;rw[Qh,QO hi]at hd;cases hd;have ha:=hA A[i] (RK hi);have wl:=wa A[i] (RK hi);have fi:=Jm (k:=bk L) (vs:=A[i]) (by rw[bl];exact ha);have fl:=Sj (λa=>aF (bk L) a) (A.take i);rw[Qd]at fl;refine⟨[a0,a1,a2,‹.tup [.tup (A.map .tup),.tup (B.map .tup)]›,‹.int L.length›,a5,‹.tup ((bk L).map kf)›,a7,some (.own (.lst ((((A.take i).filter λa=>aF (bk L) a).map (gw L.length B)).map .tup))),‹.tup A[i]›,none,a11,a12],_,rfl,rfl,?_⟩;cases hb:aF (bk L) A[i]with
  |false=>
   rw[hb]at fi;rw[Sg hi,Sf,RJ (by rw[hb];simp),List.filter_nil,Qa];generalize (((A.take i).filter λa=>aF (bk L) a).map (gw L.length B)).map D.tup=Y;generalize (bk L).map kf=BK at *;simp! only[fi]
  |true=>
   rw[hb]at fi;have st:((A.take (i+1)).filter λa=>aF (bk L) a).map (gw L.length B)=((A.take i).filter λa=>aF (bk L) a).map (gw L.length B)++[gw L.length B A[i]]:=by
    rw[Sg hi,Sf,RH hb,QV];rfl
   have ap:eK ((((A.take i).filter λa=>aF (bk L) a).map (gw L.length B)).map .tup) [.tup (gw L.length B A[i])]=some ((((A.take (i+1)).filter λa=>aF (bk L) a).map (gw L.length B)).map .tup):=by
    rw[jK (by rw[P7,P7];omega),st,QV (l₂:=[_])];rfl
   have ad:=cw A[i] [.tup ((gp L.length B (A[i].take L.length)).map .tup)] (by rw[Qo];omega);have lc:∀x8:Option S,dA [none,some 4,some 9] (aG (f2 ah (ae 3) (fC (.int 1)))) (gN 0) (fB (f2 eS (aH (ae 0) av (aY (ae 1))) (aH (ae 2) av (aY (ae 1))))) (aH (ae 0) (aY (ae 1)) av) [a0,a1,a2,‹.tup [.tup (A.map .tup),.tup (B.map .tup)]›,‹.int L.length›,a5,‹.tup ((bk L).map kf)›,a7,x8,‹.tup A[i]›,none,a11,a12]=.ok (.lst ((gp L.length B (A[i].take L.length)).map .tup)):=λx8=>by
    refine cj (ds:=B.map .tup) (by generalize (bk L).map kf=BK;simp! only[t1]) (by rw[P7];omega) ?_;unfold gp;rw[RN];refine o3 (ρ:=[none,‹.int L.length›,‹.tup A[i]›]) (g:=gN 0) (C:=fB (f2 eS (aH (ae 0) av (aY (ae 1))) (aH (ae 2) av (aY (ae 1))))) (Fe:=aH (ae 0) (aY (ae 1)) av) D.tup (λc=>decide (c.take L.length=A[i].take L.length)) (D.tup∘List.drop L.length) B λc hc=>⟨[‹.tup c›,‹.int L.length›,‹.tup A[i]›],rfl,?_,λ_=>?_⟩
    ·have:=GK (hB c hc) ha
     simp! only[eZ,this]
    ·simp! only[fh];rfl
   generalize hX:(gp L.length B (A[i].take L.length)).map D.tup=X at *;have sm:=λ(K:Ks)(bk':D)=>jI 8 eK (aa (f2 aW (ae 9) (aL (aa (fL aZ (aa (ae 10) af)) af))) af) K [a0,a1,a2,‹.tup [.tup (A.map .tup),.tup (B.map .tup)]›,‹.int L.length›,a5,‹bk'›,a7,some (.own (.lst ((((A.take i).filter λa=>aF (bk L) a).map (gw L.length B)).map .tup))),‹.tup A[i]›,‹.lst X›,a11,a12] (xs:=(((A.take i).filter λa=>aF (bk L) a).map (gw L.length B)).map .tup) rfl;have ap:eK ((((A.take i).filter λa=>aF (bk L) a).map (gw L.length B)).map .tup) [.tup (A[i]++[.tup X])]=some ((((A.take (i+1)).filter λa=>aF (bk L) a).map (gw L.length B)).map .tup):=(by rw[<-hX];exact ap);generalize (((A.take (i+1)).filter λa=>aF (bk L) a).map (gw L.length B)).map D.tup=Y1 at *;generalize (((A.take i).filter λa=>aF (bk L) a).map (gw L.length B)).map D.tup=Y at *;generalize (bk L).map kf=BK at *;simp! only[fi,lc,sm,Kf,ad,ap]
 ·rintro ρ' rfl;rw[P7,RW (PX _)]
end
theorem qt:∀{σ:bQ}{a:List D}(b c:List D),Sh σ a->cV (a++b) (a++c)=cV b c
 |_,_,b,c,.nil=>rfl
 |_,_,b,c,.int i h=>by
  show(if i=i then cV (_++b) (_++c)else some (decide (i<i)))=_;rw[if_pos rfl];exact qt b c h
 |_,_,b,c,.str x h=>by
  show(if x=x then cV (_++b) (_++c)else _)=_;rw[if_pos rfl];exact qt b c h
theorem xu:∀{σ:bQ}{a a':List D}(b c:List D),Sh σ a->Sh σ a'->cV a a'=some true->cV (a++b) (a'++c)=some true
 |_,_,_,b,c,.nil,.nil,h=>by cases h
 |_,_,_,b,c,.int i h,.int j h',e=>by
  have e:(if i=j then cV _ _ else some (decide (i<j)))=some true:=e;show(if i=j then cV (_++b) (_++c)else some (decide (i<j)))=some true;by_cases z:i=j
  ·rw[if_pos z]at e ⊢;exact xu b c h h' e
  ·rw[if_neg z]at e ⊢;exact e
 |_,_,_,b,c,.str x h,.str y h',e=>by
  have e:(if x=y then cV _ _ else some (decide (x.cps.toList<y.cps.toList)))=some true:=e;show(if x=y then cV (_++b) (_++c)else some (decide (x.cps.toList<y.cps.toList)))=some true;by_cases z:x=y
  ·rw[if_pos z]at e ⊢;exact xu b c h h' e
  ·rw[if_neg z]at e ⊢;exact e
theorem Dh:∀{k:KL}{vs:List D}(w:List D),vv k vs->aF k (vs++w)=true
 |[],[],w,_=>by cases w<;>rfl
 |p::k,v::vs,w,h=>by
  show(qg p.2 v&&aF k (vs++w))=true;rw[Dh w h.2,QQ];obtain⟨nm,c⟩:=p;cases c with
  |num lo hi=>
   obtain⟨i,rfl,h1,h2⟩:=h.1;show(!(decide (i<lo)||decide (i>hi)))=true;rw[decide_eq_false ‹0›,decide_eq_false ‹0›];rfl
  |wrd ws=>
   obtain⟨w,rfl,hw⟩:=h.1;show ws.contains w=true
   simpa using hw
noncomputable def lw(v:List D):bB:=(de (v.getLast?.getD .non)).map de
theorem Kl(u:List D)(ws:bB):lw (u++[.tup (ws.map .tup)])=ws:=by
 unfold lw;rw[List.getLast?_concat];show(ws.map D.tup).map de=ws;rw[RN];exact Sv ws
section
open Classical
variable{t:KL}{q r:dZ}{n m:Nat}
noncomputable abbrev Pw(t:KL)(q:dZ)(ws:bB):Prop:=xY t.length ws/\ws.length<=3/\∀w∈ws,w.length=t.length+q.length/\vv t (w.take t.length)/\∀v∈w,AL 4 v
theorem Jh(t1:1<=t.length)(t8:t.length<=8)(tg:∀p∈t,p.2.gd)(q8:q.length<=8)(n2:n<=2)(hq:∀f∈q,KG n f.2)(x:Int)(h0:0<=x)(h1:x<2147483700):∃ws,aA 18 [IK t q,.int x]=.ok (.tup (ws.map .tup))/\Pw t q ws:=by
 have d3:=gd 3;have g3:=gm 3;obtain⟨m,hm,em⟩:∃m:Nat,m<=3/\(if(0:Int)>x%3 then 0 else x%3)=(m:Int):=⟨(x%3).toNat,by omega,by split<;>omega⟩
 obtain⟨ws,ev,ri,wl,hw⟩:=uz n 14 (λ_ v=>AL (2*n) v) (qD n 15 ‹0›) t q t1 t8 q8 tg hq (x/3) m ‹0› ‹0› ‹0›;have ev:aQ 17 [fr t q,.int (x/3),.int m]=.ok (.tup (ws.map .tup)):=ev;refine⟨ws,?_,ri,by omega,λw hw'=>?_⟩
 ·rw[show(18:Nat)=17+1 from rfl,cR,cE];unfold eD;simp! only[Dg,zg,d3,g3,vU,em,ev]
 ·obtain⟨ka,va,rfl,f1,f2,f3⟩:=hw w hw'
  have:=f1.length
  exact⟨by rw[Qj];omega,by rw[Si f1.length];exact f1,λv hv=>(List.mem_append.mp hv).elim (λz=>(mD f1.sh v z).of0 _) λz=>AL.le ‹0› (CQ f2 f3 v z)⟩
structure Vd(k:KL)(l:Nat)(t:KL)(q:dZ)(v:List D):Prop where
 e:v=v.dropLast++[.tup ((lw v).map .tup)]
 l:v.dropLast.length=k.length+l
 f:vv k (v.take k.length)
 a:∀y∈v,AL 6 y
 w:Pw t q (lw v)
theorem Eu{k:KL}(nm:Str)(k1:1<=k.length)(k8:k.length<=8)(kg:∀p∈k,p.2.gd)(r8:r.length<=7)(t1:1<=t.length)(t8:t.length<=8)(tg:∀p∈t,p.2.gd)(q8:q.length<=8)(n2:n<=2)(hr:∀f∈r,KG n f.2)(hq:∀f∈q,KG n f.2)(x:Int)(h0:0<=x)(h1:x<2147483700):∃V:bB,aQ 20 [fr k (r++[(nm,IK t q)]),.int x,.int 4]=.ok (.tup (V.map .tup))/\xY k.length V/\V.length<=4/\∀v∈V,Vd k r.length t q v:=by
 obtain⟨V,ev,ri,vl,hv⟩:=uz (n+1) 17 (λd v=>AL 6 v/\(d=IK t q->∃ws,v=.tup (ws.map .tup)/\Pw t q ws)) (λd x hd h0 h1=>by
  obtain⟨v,e1,e2⟩:=qD (n+1) 18 ‹0› d x hd h0 h1;refine⟨v,e1,AL.le ‹0› e2,λz=>?_⟩;obtain⟨ws,e3,e4⟩:=Jh t1 t8 tg q8 n2 hq x h0 h1;rw[z,e3]at e1;cases e1;exact⟨ws,rfl,e4⟩) k (r++[(nm,IK t q)]) k1 k8 (by rw[Qj,Qo];omega) kg (uN t1 t8 tg q8 hr hq) x 4 h0 h1 (by decide)
 refine⟨V,ev,ri,vl,λv hv'=>?_⟩;obtain⟨ka,va,rfl,f1,f2,f3⟩:=hv v hv';rw[Qj,Qo]at f2;have kl:=f1.length;obtain⟨_,hl⟩:=f3 r.length (nm,IK t q) (va[r.length]'‹0›) (by rw[Qe (PX _),Rx];rfl) (QO ‹0›);obtain⟨ws,ew,pw⟩:=hl rfl;have es:va=va.take r.length++[.tup (ws.map .tup)]:=by
  conv=>lhs;rw[<-Sw r.length va]
  rw[Rb ‹0›,R6 ‹0›,ew]
 have ev':ka++va=(ka++va.take r.length)++[.tup (ws.map .tup)]:=by rw[Rf,<-es]
 have dl:(ka++va).dropLast=ka++va.take r.length:=by rw[ev',List.dropLast_concat]
 have lwe:lw (ka++va)=ws:=by rw[ev',Kl]
 refine⟨by rw[dl,lwe];exact ev',by rw[dl,Qj,Qd];omega,by rw[Si kl];exact f1,λy hy=>?_,by rw[lwe];exact pw⟩;rcases List.mem_append.mp hy with z|z
 ·exact(mD f1.sh y z).of0 _
 ·obtain⟨j,hj,e⟩:=QS z;exact(f3 j ((r++[(nm,IK t q)])[j]'(by rw[Qj,Qo];omega)) y (QO _) (by rw[QO hj,e])).1
noncomputable def fo(m:Nat)(V:bB):bB:=V.flatMap λv=>(lw v).map λw=>v.take m++w
theorem Mm{V:bB}{o:List D}:o∈fo m V↔∃v∈V,∃w∈lw v,o=v.take m++w:=by
 unfold fo;rw[List.mem_flatMap];constructor
 ·rintro⟨v,hv,ho⟩;obtain⟨w,hw,rfl⟩:=List.mem_map.mp ho;exact⟨v,hv,w,hw,rfl⟩
 ·rintro⟨v,hv,w,hw,rfl⟩;exact⟨v,hv,List.mem_map.mpr ⟨w,hw,rfl⟩⟩
theorem ud:∀V:bB,(∀v∈V,(lw v).length<=3)->(fo m V).length<=3*V.length
 |[],_=>PX _
 |v::V,h=>by
  have h1:=ud V λx hx=>h x (PL _ hx);have h2:=h v PJ;unfold fo at h1 ⊢;rw[Sx,Qj,P7,P5];omega
theorem Cj{σ:bQ}(hm:m=σ.length):∀V:bB,xY m V->(∀v∈V,Sh σ (v.take m))->(∀v∈V,xY t.length (lw v))->xY (m+t.length) (fo m V)
 |[],_,_,_=>.nil
 |v::V,ri,sh,hw=>by
  obtain⟨p1,p2⟩:=List.pairwise_cons.mp ri;have ih:=Cj hm V p2 (λx hx=>sh x (PL _ hx)) λx hx=>hw x (PL _ hx);have vl:=(sh v PJ).length;have e:fo m (v::V)=((lw v).map λw=>v.take m++w)++fo m V:=by unfold fo;rw[Sx]
  rw[e];have tk:∀(x w:List D),x.length=m->(x++w).take (m+t.length)=x++w.take t.length:=λx w hx=>by rw[<-hx,Su]
  refine List.pairwise_append.mpr ⟨List.pairwise_map.mpr ((hw v PJ).imp λ{a b} h=>?_),ih,λx hx y hy=>?_⟩
  ·rw[tk _ _ ‹0›,tk _ _ ‹0›,qt _ _ (sh v PJ)];exact h
  ·obtain⟨w,_,rfl⟩:=List.mem_map.mp hx;obtain⟨v',hv',w',_,rfl⟩:=Mm.mp hy;have vl':=(sh v' (PL _ hv')).length;rw[tk _ _ ‹0›,tk _ _ ‹0›];exact xu _ _ (sh v PJ) (sh v' (PL _ hv')) (p1 v' hv')
theorem HD:∀V:bB,V.Pairwise (λa b=>a.take m≠b.take m)->(∀v∈V,(v.take m).length=m)->∀v∈V,gp m (fo m V) (v.take m)=lw v
 |x::V,pw,hl,v,hv=>by
  obtain⟨p1,p2⟩:=List.pairwise_cons.mp pw;have e:fo m (x::V)=((lw x).map λw=>x.take m++w)++fo m V:=by unfold fo;rw[Sx]
  have g:gp m (fo m (x::V)) (v.take m)=gp m ((lw x).map λw=>x.take m++w) (v.take m)++gp m (fo m V) (v.take m):=by
   rw[e];unfold gp;rw[Sf,QV]
  have tk:∀(u w:List D),u.length=m->(u++w).take m=u:=λu w hu=>Si hu;have xl:=hl x PJ;rw[g];rcases List.mem_cons.mp hv with z|z
  ·subst z;have g2:gp m (fo m V) (v.take m)=[]:=by
    unfold gp;rw[List.filter_eq_nil_iff.mpr λo ho=>?_]
    ·rfl
    ·obtain⟨v',hv',w',_,rfl⟩:=Mm.mp ho;rw[tk _ _ (hl v' (PL _ hv'))]
     simpa using(p1 v' hv').symm
   rw[g2,Qa];unfold gp;rw[List.filter_eq_self.mpr λo ho=>?_]
   ·rw[RN]
    conv=>rhs;rw[<-Sv (lw v)]
    exact QU λw _=>Ss xl
   ·obtain⟨w,_,rfl⟩:=List.mem_map.mp ho;rw[tk _ _ xl];simp
  ·have g1:gp m ((lw x).map λw=>x.take m++w) (v.take m)=[]:=by
    unfold gp;rw[List.filter_eq_nil_iff.mpr λo ho=>?_]
    ·rfl
    ·obtain⟨w,_,rfl⟩:=List.mem_map.mp ho;rw[tk _ _ xl]
     simpa using p1 v z
   rw[g1,QT];exact HD V p2 (λu hu=>hl u (PL _ hu)) v z
end
theorem Gc{r:List D}{m:Nat}{d:D}(hl:r.length=m+1)(h:r[m]?=some d):ah (.tup r) (.int (-1))=some d:=by
 rw[Kx];have e:r=r.take m++[r[m]]:=by
  conv=>lhs;rw[<-Sw m r]
  congr 1;rw[Rb ‹0›,R6 ‹0›]
 rw[QO ‹0›]at h;rw[e,Bw];exact h
theorem JT(xs:List D):lI [.tup xs]=some (.lst xs):=nr rfl
theorem Jw(u:List D)(x:D):ah (.tup (u++[x])) (.int (-1))=some x:=
 Gc (m:=u.length) (by rw[Qj,Qo]) (by rw[Qe (PX _),Rx];rfl)
theorem Jg{x w:List D}{m k:Nat}(hx:x.length=m):(x++w).take (m+k)=x++w.take k:=by rw[<-hx,Su]
theorem CW{i:Nat}{f:FX}(K:Ks)(ρ:aq){xs ys:List D}(h:ρ[i]?=some (some (.own (.lst xs))))(l:xs.length+ys.length<=100000)(e:f ρ=.ok (.lst ys)):wQ i f K ρ=K.nx (ρ.set i (some (.own (.lst (xs++ys))))):=by
 unfold wQ;rw[h];show o7 (f ρ) K ρ _=_;rw[e];show(if small (xs.length+ys.length)then K.nx (ρ.set i (some (.own (.lst (xs++ys)))))else un)=_;rw[if_pos (cK l)]
section
open Classical
variable{L:List ZP}{t:KL}{r q:dZ}{n:Nat}
theorem zf{k:KL}{l:Nat}{v:List D}(h:Vd k l t q v):ah (.tup v) (.int (-1))=some (.tup ((lw v).map .tup)):=by
 have:=Jw v.dropLast (.tup ((lw v).map .tup))
 rw[<-h.e]at this;exact this
theorem G9{k:KL}{l:Nat}{v:List D}(h:Vd k l t q v):cutD v none (some (-1))=v.dropLast:=by
 have:=Bv v.dropLast (.tup ((lw v).map .tup))
 rw[<-h.e]at this;exact this
structure Vt(L:List ZP)(t:KL)(l:Nat)(q:dZ)(V:bB):Prop where
 tb:Tb (so L) L.length V
 vd:∀v∈V,Vd (bk L) l t q v
 vl:V.length<=4
theorem Vt.key{l:Nat}{V:bB}(h:Vt L t l q V):∀v∈V,v.dropLast.take L.length=v.take L.length:=λv hv=>by
 have bl:(bk L).length=L.length:=by unfold bk;rw[P7]
 have d:=h.vd v hv;have e:(v.dropLast++[D.tup ((lw v).map D.tup)]).take L.length=v.dropLast.take L.length:=Sy (by rw[d.l,bl];omega);rw[<-d.e]at e;exact e.symm
theorem Vt.one{l:Nat}{V:bB}(h:Vt L t l q V):Tb (so L) L.length (V.map List.dropLast):=h.tb.map List.dropLast h.key
theorem Vt.oth{l:Nat}{V:bB}(h:Vt L t l q V)(l1:1<=L.length):Tb (sp L t) (L.length+t.length) (fo L.length V)/\(fo L.length V).length<=12/\∀o∈fo L.length V,Rw (sp L t) q.length o:=by
 have bl:(bk L).length=L.length:=by unfold bk;rw[P7]
 have fl:=ud (m:=L.length) V λv hv=>(h.vd v hv).w.2.1;have vl:=h.vl;have ro:∀o∈fo L.length V,Rw (sp L t) q.length o:=λo ho=>by
  obtain⟨v,hv,w,hw,rfl⟩:=Mm.mp ho;have d:=h.vd v hv;have f:=d.f;rw[bl]at f;have fln:=f.length;obtain⟨w1,w2,w3⟩:=d.w.2.2 w hw;refine⟨by rw[Qj,gL];omega,?_,λy hy=>?_⟩
  ·rw[gL,Jg ‹0›];exact t6 f.sh w2.sh
  ·rcases List.mem_append.mp hy with z|z
   ·exact(mD f.sh y z).of0 4
   ·exact w3 y z
 refine⟨Tb.of (λz=>by have:=congrArg List.length z;rw[gL,Qv]at this;omega) (gL L t).symm (λo ho=>?_) (Cj (j6 L).symm V h.tb.ri h.tb.s.sh λv hv=>(h.vd v hv).w.1) ‹0›,by omega,ro⟩
 have:=(ro o ho).2.1
 rwa [gL]at this
theorem KI(o:D)(ok:Ok L)(l1:1<=L.length)(l8:L.length<=8){l:Nat}(l8':l<=8)(t8:t.length<=8)(q8:q.length<=8){V:bB}(h:Vt L t l q V):aC cU 4 9 [o,.tup [fr (k1 L) r,fr (k2 L++t) q],.tup [.tup [],.tup []],.tup (V.map .tup)]=.ok (.tup [.tup ((V.map List.dropLast).map .tup),.tup ((fo L.length V).map .tup)]):=by
 have vl:=h.vl;obtain⟨tO,ol,_⟩:=h.oth l1;have bl:(bk L).length=L.length:=by unfold bk;rw[P7]
 have n0:aC cG 3 5 [.tup [fr (k1 L) r,fr (k2 L++t) q],.tup [],.bl false]=.ok (.lst []):=yc (A:=[]) ok l8 (λ_ h=>nomatch h) (by decide) false;have n1:aC cG 3 5 [.tup [fr (k1 L) r,fr (k2 L++t) q],.tup [],.bl true]=.ok (.lst []):=yc (A:=[]) ok l8 (λ_ h=>nomatch h) (by decide) true;have st:=M3 h.one (.lst []) (.inl rfl);have b:=Hw h.tb.s (.lst (V.map .tup)) (.inl rfl);have sb:=E6 tO;have ad:=qx (V.map .tup) [] (by rw[P7,Qv];omega);rw[Qa]at ad;have c5:∀a0 a1 a2 a4 a5 a6 a7 a8:Option S,dA [none] (aG (ae 3)) (gN 0) bF (aH (ae 0) av (aY (lD (fC (.int 1))))) [a0,a1,a2,‹.tup (V.map .tup)›,a4,a5,a6,a7,a8]=.ok (.lst ((V.map List.dropLast).map .tup)):=λ_ _ _ _ _ _ _ _=>by
  rw[RN];exact yt D.tup _ V _ _ _ (by simp! only[]) ‹0› λv hv=>by
   have:=G9 (h.vd v hv)
   simp! only[this];rfl
 generalize bS (ak L.length V)=Z at b;have c7:∀a0 a1 a3 a4 a5 a7 a8:Option S,dA [none,some 4,some 6] (aG (f2 ah (ae 2) (fC (.int 1)))) (gN 0) (fB (f2 gU (aH (ae 0) av (aY (ae 1))) (ae 2))) (ae 0) [a0,a1,‹.tup [.tup [],.tup []]›,a3,a4,a5,‹Z›,a7,a8]=.ok (.lst []):=λ_ _ _ _ _ _ _=>rfl;have kl:(k2 L++t).length=L.length+t.length:=by rw[Qj,P7]
 have kL:(k1 L).length=L.length:=P7 _;obtain⟨T,hT⟩:∃T:bH,T=(fA 7 (aN (aL (aa (ae 5) (aa (fR (aC dB 2 2) (aa (fL dS (aa (f2 ah (f2 ah (ae 1) (fC (.int 1))) (fC (.int 0))) af)) (aa (ae 7) af))) af))))):=⟨_,rfl⟩
 rw[wG];unfold cU;rw[<-hT];generalize hF1:fr (k1 L) r=F1 at n0 n1 ⊢;have f1:ah F1 (.int 0)=some (.tup ((k1 L).map kf)):=by rw[<-hF1];rfl
 generalize hF2:fr (k2 L++t) q=F2 at n0 n1 ⊢;have f2':ah F2 (.int 0)=some (.tup ((k2 L++t).map kf)):=by rw[<-hF2];rfl
 generalize hWD:(V.map List.dropLast).map D.tup=WD at *;simp! only[t0,t1,f1,P7,kL,c5,n0,st,JT,n1,ad,b,c7];refine cZ (Q:=λz=>z=.ok (.tup [.tup WD,.tup ((fo L.length V).map .tup)])) (λi ρ=>ρ=[none,‹.tup [F1,F2]›,none,‹.tup (V.map .tup)›,‹.int L.length›,‹.tup WD›,none,some (.own (.lst ((fo L.length (V.take i)).map .tup))),none]) ?_ (by rw[QG];rfl) ?_
 ·rintro i d ρ kk hd rfl;have hi:=bW hd;rw[P7]at hi;rw[Qh,QO hi]at hd;cases hd;have d:=h.vd V[i] (RK hi);have ix:=zf d;have wl:=d.w.2.1;have fl:=ud (m:=L.length) (V.take i) λv hv=>(h.vd v (Sl hv)).w.2.1;rw[Qd]at fl;have le:∀a0 a1 a2 a3 a5 a6 a7:Option S,dA [none,some 8,some 4] (aG (f2 ah (ae 8) (lD (fC (.int 1))))) (gN 0) bF (f2 aW (aH (ae 1) av (aY (ae 2))) (ae 0)) [a0,a1,a2,a3,‹.int L.length›,a5,a6,a7,‹.tup V[i]›]=.ok (.lst (((lw V[i]).map λw=>V[i].take L.length++w).map .tup)):=λ_ _ _ _ _ _ _=>by
   refine cj (ds:=(lw V[i]).map .tup) (by simp! only[ix]) (by rw[P7];omega) ?_;rw[RN];refine eP D.tup _ (lw V[i]) λw hw=>⟨[‹.tup w›,‹.tup V[i]›,‹.int L.length›],rfl,rfl,?_⟩
   have ad:=cw (V[i].take L.length) w (by rw[Qd,(d.w.2.2 w hw).1];omega);simp! only[eZ,ad];rfl
  have st':fo L.length (V.take (i+1))=fo L.length (V.take i)++(lw V[i]).map λw=>V[i].take L.length++w:=by
   unfold fo;rw[Sg hi,Sz];simp
  rw[st',QV];refine⟨_,_,rfl,rfl,?_⟩;have sx:=λK:Ks=>CW (i:=7) (f:=dA [none,some 8,some 4] (aG (f2 ah (ae 8) (lD (fC (.int 1))))) (gN 0) bF (f2 aW (aH (ae 1) av (aY (ae 2))) (ae 0))) K [none,‹.tup [F1,F2]›,none,‹.tup (V.map .tup)›,‹.int L.length›,‹.tup WD›,none,some (.own (.lst ((fo L.length (V.take i)).map .tup))),‹.tup V[i]›] rfl (by rw[P7,P7,P7];omega) (le _ _ _ _ _ _ _);generalize ((lw V[i]).map λw=>V[i].take L.length++w).map D.tup=Y1 at *;generalize (fo L.length (V.take i)).map D.tup=Y2 at *;simp! only[sx]
 ·rintro ρ' rfl;rw[P7,RW (PX _),hT];simp! only[t0,t1,f2',P7,kl,sb,mV]
theorem Kg(o:D)(ok:Ok L)(l1:1<=L.length)(l8:L.length<=8){l:Nat}(l8':l<=8)(t8:L.length+t.length<=8)(q8:q.length<=8){V:bB}(h:Vt L t l q V):aC bI 3 5 [o,.tup [fr (k1 L) r,fr (k2 L++t) q],.tup [.tup ((V.map List.dropLast).map .tup),.tup ((fo L.length V).map .tup)]]=.ok (.tup (V.map .tup)):=by
 obtain⟨tO,ol,ro⟩:=h.oth l1;have bl:(bk L).length=L.length:=by unfold bk;rw[P7]
 have tb:Tw (sp L t) q.length (fo L.length V):=⟨by rw[gL];exact tO,ro⟩
 have g:=wF (r:=r) (q:=q) (t:=t) (A:=V.map List.dropLast) (B:=fo L.length V) o ok l8 h.one.s.sh h.one.s.ln (λa ha=>by
  obtain⟨v,hv,rfl⟩:=List.mem_map.mp ha;rw[(h.vd v hv).l,bl];omega) (tb.tab (by rw[gL];omega)) (by rw[gL];omega) (pI L t)
 have e:((V.map List.dropLast).filter λa=>aF (bk L) a).map (gw L.length (fo L.length V))=V:=by
  rw[List.filter_eq_self.mpr λa ha=>?_,RN]
  ·conv=>rhs;rw[<-Sv V]
   refine QU λv hv=>?_;have d:=h.vd v hv;show v.dropLast++[.tup ((gp L.length (fo L.length V) (v.dropLast.take L.length)).map .tup)]=v;rw[h.key v hv,HD V h.tb.s.pw (λu hu=>by rw[(h.tb.s.sh u hu).length,j6]) v hv];exact d.e.symm
  ·obtain⟨v,hv,rfl⟩:=List.mem_map.mp ha;have d:=h.vd v hv;have f:=d.f;rw[bl,<-h.key v hv]at f
   have:=Dh (v.dropLast.drop L.length) f
   rwa [Sw]at this
 rw[e]at g;exact g
end
noncomputable abbrev VT:List (Str×(cO)):=[("Pair",(aC b8 3 3)),("Gather",(aC bz 3 6))]
noncomputable abbrev PT:List (Str×(cO)):=[("Pair",(aC fS 4 4)),("Gather",(aC cU 4 9))]
noncomputable abbrev GT:List (Str×(cO)):=[("Pair",(aC dH 3 3)),("Gather",(aC bI 3 5))]
section
open Classical
variable{L:List ZP}{t:KL}{r q:dZ}{n:Nat}{b:Int}
theorem qm{A:bB}{k:Nat}(al:A.length<=1000)(h:∀a∈A,a.length<=1000/\∀v∈a,AL k v):AL (k+2) (.tup (A.map .tup)):=
 AL.tup (by rw[P7];omega) λy hy=>by
  obtain⟨a,ha,rfl⟩:=List.mem_map.mp hy;exact AL.tup (h a ha).1 (h a ha).2
theorem DK(g:Gd b L t r q n){nm:Str}(hn:nm∉nms (k1 L) r)(x:Int)(x0:0<=x)(x1:x<2147483700):
  aC eW 4 13 [rR nm,fr (k1 L) r,fr (k2 L++t) q,.int x]=.ok (.bl true):=by
 have l8:=g.l8;have l1:=g.l1;have r8:=g.r8;have q8:=g.q8;have t1':=g.t1;obtain⟨M,hM⟩:∃M,M=L.take 1:=⟨_,rfl⟩
 have ml:M.length=1:=by rw[hM,Qd];omega
 have okM:Ok M:=λz hz=>g.ok z (Sl (by rw[<-hM];exact hz));have hdr:∀f∈r.drop 1,KG n f.2:=λf hf=>g.hr f (SA hf);have hdq:∀f∈q.drop 1,KG n f.2:=λf hf=>g.hq f (SA hf);have rl:(r.drop 1).length<=r.length:=by rw[Ql];omega
 have ql:(q.drop 1).length<=q.length:=by rw[Ql];omega
 have k1M:k1 M=(k1 L).take 1:=by rw[hM];unfold k1;rw[SD]
 have k2M:k2 M=(k2 L).take 1:=by rw[hM];unfold k2;rw[SD]
 have hnM:nm∉nms (k1 M) (r.drop 1):=λz=>hn (by
  unfold nms at z ⊢;rcases List.mem_append.mp z with z|z
  ·rw[k1M,SD]at z;exact PN _ (Sl z)
  ·rw[SE]at z;exact PY _ (SA z))
 have c1:cutD ((k1 L).map kf) none (some 1)=(k1 M).map kf:=by
  rw[k1M,SD];exact eZ ((k1 L).map kf) 1
 have c3:cutD ((k2 L++t).map kf) none (some 1)=(k2 M).map kf:=by
  have:=eZ ((k2 L++t).map kf) 1
  rw[QV,Sy (by rw[P7,P7];omega)]at this;rw[k2M,SD,QV];exact this
 have c2:cutD (r.map fld) (some 1) none=(r.drop 1).map fld:=by
  rw[SE];exact fh (r.map fld) 1
 have c4:cutD (q.map fld) (some 1) none=(q.drop 1).map fld:=by
  rw[SE];exact fh (q.map fld) 1
 have cf:cutD ((k2 L++t).map kf) (some (L.length:Int)) none=t.map kf:=by
  rw[fh,QV,Ss (by rw[P7,P7])]
 have c5:cutD ((k2 M++t).map kf) (some 1) none=t.map kf:=by
  have:=fh ((k2 M++t).map kf) 1
  rw[QV,Ss (by rw[P7,P7,ml])]at this;rw[QV];exact this
 have a3:=cw ((k2 M).map kf) (t.map kf) (by rw[P7,P7,P7];omega);rw[<-QV]at a3;have bl:(bk M).length=1:=by unfold bk;rw[P7,ml]
 have kb:=qv okM ‹0› t (.tup ((r.drop 1).map fld)) (.tup ((q.drop 1).map fld));have ad:=cw ((r.drop 1).map fld) [fld (nm,IK t (q.drop 1))] (by rw[P7,Qo];omega);have em:(r.drop 1).map fld++[fld (nm,IK t (q.drop 1))]=(r.drop 1++[(nm,IK t (q.drop 1))]).map fld:=by rw[QV];rfl
 rw[em]at ad;have ad:aW (.tup ((r.drop 1).map fld)) (.tup [.tup [.str nm,.tup [.str "rows",.tup [.tup (t.map kf),.tup ((q.drop 1).map fld)],.bl false]]])=some (.tup ((r.drop 1++[(nm,IK t (q.drop 1))]).map fld)):=ad;obtain⟨V,ev,ri,vl,hv⟩:=Eu (k:=bk M) (r:=r.drop 1) (q:=q.drop 1) nm ‹0› ‹0› (sR okM) ‹0› t1' ‹0› g.tg ‹0› g.n2 hdr hdq x x0 x1;rw[bl]at ri;have vt:Vt M t (r.drop 1).length (q.drop 1) V:=⟨Tb.of (λz=>by have:=congrArg List.length z;rw[j6,Qv]at this;omega) (j6 M).symm (λv h=>by have:=(hv v h).f;rw[bl]at this;rw[ml];exact this.sh) (by rw[ml];exact ri) ‹0›,hv,vl⟩
 have vf:=zh (r:=r.drop 1) (q:=q.drop 1) nm okM ‹0› t1' ‹0› ‹0› ‹0› g.n2 hdq hnM;have al0:=yF (r:=r.drop 1++[(nm,IK t (q.drop 1))]) okM ‹0› (by rw[Qj,Qo];omega) (show n+1<=3 by have:=g.n2;omega) (uN t1' ‹0› g.tg ‹0› hdr hdq);have pv:=KI (r:=r.drop 1) (rR nm) okM ‹0› ‹0› ‹0› ‹0› ‹0› vt;have gv:=Kg (r:=r.drop 1) (rR nm) okM ‹0› ‹0› ‹0› ‹0› ‹0› vt;rw[ml]at pv gv;obtain⟨tO,ol,ro⟩:=vt.oth ‹0›;rw[ml]at ol ro;have vlen:∀v∈V,v.length<=100/\v.dropLast.length<=100:=λv h=>by
  have d:=hv v h;have e:=congrArg List.length d.e;rw[Qj,Qo,d.l,bl]at e;rw[d.l,bl];omega
 have aV:=qm (k:=6) (A:=V) ‹0› λv h=>⟨by have:=(vlen v h).1;omega,(hv v h).a⟩
 have aD:=qm (k:=6) (A:=V.map List.dropLast) (by rw[P7];omega) λa ha=>by
  obtain⟨v,h,rfl⟩:=List.mem_map.mp ha;exact⟨by have:=(vlen v h).2;omega,λy hy=>(hv v h).a y ((List.dropLast_sublist v).subset hy)⟩
 have aO:=qm (k:=6) (A:=fo 1 V) ‹0› λo ho=>⟨by have:=(ro o ho).1;rw[gL]at this;omega,λy hy=>AL.le (by decide) ((ro o ho).2.2 y hy)⟩
 have al1:=jw 9 20 (.tup [.tup ((V.map List.dropLast).map .tup),.tup ((fo 1 V).map .tup)]) (by decide) (AL.tup (by simp) λx hx=>by
  rcases List.mem_cons.mp hx with z|z
  ·rw[z];exact aD
  ·rw[List.mem_singleton.mp z];exact aO)
 have al2:=jw 8 20 _ (by decide) aV;have i0:ah (fr (k1 L) r) (.int 0)=some (.tup ((k1 L).map kf)):=rfl;have i1:ah (fr (k1 L) r) (.int 1)=some (.tup (r.map fld)):=rfl;have j0:ah (fr (k2 L++t) q) (.int 0)=some (.tup ((k2 L++t).map kf)):=rfl;have j1:ah (fr (k2 L++t) q) (.int 1)=some (.tup (q.map fld)):=rfl;have kL:(k1 L).length=L.length:=P7 _;have fn:=HN nm;have c9:∀a0 a1 a2 a3 a4 a5 a6 a7 a8 a10 a11 a12:Option S,dA [none] (aG (ae 9)) (gN 0) bF (aH (ae 0) av (aY (lD (fC (.int 1))))) [a0,a1,a2,a3,a4,a5,a6,a7,a8,‹.tup (V.map .tup)›,a10,a11,a12]=.ok (.lst ((V.map List.dropLast).map .tup)):=λ_ _ _ _ _ _ _ _ _ _ _ _=>by
  rw[RN];exact yt D.tup _ V _ _ _ (by simp! only[]) ‹0› λv h=>by
   have:=G9 (hv v h)
   simp! only[this];rfl
 have ct1:∀v:List D,cutD v none (some 1)=v.take 1:=λv=>eZ v 1;obtain⟨T,hT⟩:∃T:bH,T=(fA 10 (ai (aM 12 (aL (aa (fL aZ (aa (dA [none] (aG (ae 9)) (gN 0) bF (aH (ae 0) av (aY (lD (fC (.int 1)))))) af)) (aa (fL aZ (aa (ae 10) af)) af)))) (ai (fF (lT (cQ (fR (au 20) (aa (dL "put" [("Pair",(aC fS 4 4)),("Gather",(aC cU 4 9))] (ae 0) (aa (aL (aa (ae 5) (aa (ae 6) af))) (aa (aL (aa (aL af) (aa (aL af) af))) (aa (ae 9) af)))) (aa (ae 12) af))))) (aN (fC (.bl false))) bC) (aN (fR (au 20) (aa (dL "got" [("Pair",(aC dH 3 3)),("Gather",(aC bI 3 5))] (ae 0) (aa (aL (aa (ae 5) (aa (ae 6) af))) (aa (ae 12) af))) (aa (ae 9) af))))))):=⟨_,rfl⟩
 rw[wG];unfold eW;rw[<-hT];generalize fr (k1 L) r=F1 at i0 i1 ⊢;generalize fr (k2 L++t) q=F2 at j0 j1 ⊢;unfold fr at ev vf al0 pv gv;have kLm:((k1 L).map kf).length=L.length:=by rw[P7,kL]
 generalize (k1 L).map kf=KL1 at *;generalize (k2 L++t).map kf=KL2 at *;generalize r.map fld=RF at *;generalize q.map fld=QF at *;generalize (r.drop 1++[(nm,IK t (q.drop 1))]).map fld=RQ at *;generalize (q.drop 1).map fld=QD at *;generalize (r.drop 1).map fld=RD at *;generalize (bk M).map kf=BK at *;generalize (k1 M).map kf=K1 at *;generalize (k2 M++t).map kf=K2T at *;generalize (k2 M).map kf=K2 at *;generalize t.map kf=TK at *;generalize hWD:(V.map List.dropLast).map D.tup=WD at *;generalize hGT:rR nm=GN at *;have m8:∀a1 a2 a3 a4 a7 a8 a9 a10 a11 a12:Option S,dL "view_form" VT (ae 0) (aa (ae 5) (aa (ae 6) af)) [‹GN›,a1,a2,a3,a4,‹.tup [.tup K1,.tup RD]›,‹.tup [.tup K2T,.tup QD]›,a7,a8,a9,a10,a11,a12]=.ok (.tup [.tup BK,.tup RQ]):=λ_ _ _ _ _ _ _ _ _ _=>(mG (nm:=nm) (as:=[.tup [.tup K1,.tup RD],.tup [.tup K2T,.tup QD]]) (by rw[hGT];rfl) (by simp! only[]) nv).trans (by rw[hGT];exact vf);have mp:∀a1 a2 a3 a4 a7 a8 a10 a11 a12:Option S,dL "put" PT (ae 0) (aa (aL (aa (ae 5) (aa (ae 6) af))) (aa (aL (aa (aL af) (aa (aL af) af))) (aa (ae 9) af))) [‹GN›,a1,a2,a3,a4,‹.tup [.tup K1,.tup RD]›,‹.tup [.tup K2T,.tup QD]›,a7,a8,‹.tup (V.map .tup)›,a10,a11,a12]=.ok (.tup [.tup WD,.tup ((fo 1 V).map .tup)]):=λ_ _ _ _ _ _ _ _ _=>(mG (nm:=nm) (as:=[.tup [.tup [.tup K1,.tup RD],.tup [.tup K2T,.tup QD]],.tup [.tup [],.tup []],.tup (V.map .tup)]) (by rw[hGT];rfl) (by simp! only[mV,J4]) np).trans (by rw[hGT];exact pv);have mg:∀a1 a2 a3 a4 a7 a8 a9 a10 a11:Option S,dL "got" GT (ae 0) (aa (aL (aa (ae 5) (aa (ae 6) af))) (aa (ae 12) af)) [‹GN›,a1,a2,a3,a4,‹.tup [.tup K1,.tup RD]›,‹.tup [.tup K2T,.tup QD]›,a7,a8,a9,a10,a11,‹.tup [.tup WD,.tup ((fo 1 V).map .tup)]›]=.ok (.tup (V.map .tup)):=λ_ _ _ _ _ _ _ _ _=>(mG (nm:=nm) (as:=[.tup [.tup [.tup K1,.tup RD],.tup [.tup K2T,.tup QD]],.tup [.tup WD,.tup ((fo 1 V).map .tup)]]) (by rw[hGT];rfl) (by simp! only[mV]) ng).trans (by rw[hGT];exact gv);simp! only[i0,kLm,c1,i1,c2,mV,j0,c3,cf,a3,j1,c4,t0,t1,c5,Ej,kb,fn,Kf,ad,ev,m8,al0,HI];refine cZ (Q:=λz=>z=.ok (.bl true)) (λi ρ=>∃x11,ρ=[‹GN›,none,none,none,none,‹.tup [.tup K1,.tup RD]›,‹.tup [.tup K2T,.tup QD]›,none,none,‹.tup (V.map .tup)›,some (.own (.lst ((fo 1 (V.take i)).map .tup))),x11,none]) ?_ ⟨_,by rw[QG];rfl⟩ ?_
 ·rintro i d ρ kk hd ⟨x11,rfl⟩;have hi:=bW hd;rw[P7]at hi;rw[Qh,QO hi]at hd;cases hd;have d:=hv V[i] (RK hi);have ix:=zf d;have wl:=d.w.2.1;have fl:=ud (m:=1) (V.take i) λv h=>(hv v (Sl h)).w.2.1;rw[Qd]at fl;have le:∀a0 a1 a2 a3 a4 a5 a6 a7 a8 a9 a10 a12:Option S,dA [none,some 11] (aG (f2 ah (ae 11) (lD (fC (.int 1))))) (gN 0) bF (f2 aW (aH (ae 1) av (aY (fC (.int 1)))) (ae 0)) [a0,a1,a2,a3,a4,a5,a6,a7,a8,a9,a10,‹.tup V[i]›,a12]=.ok (.lst (((lw V[i]).map λw=>V[i].take 1++w).map .tup)):=λ_ _ _ _ _ _ _ _ _ _ _ _=>by
   refine cj (ds:=(lw V[i]).map .tup) (by simp! only[ix]) (by rw[P7];omega) ?_;rw[RN];refine eP D.tup _ (lw V[i]) λw hw=>⟨[‹.tup w›,‹.tup V[i]›],rfl,rfl,?_⟩
   have ad:=cw (V[i].take 1) w (by rw[Qd,(d.w.2.2 w hw).1];omega);simp! only[ct1,ad];rfl
  have st':fo 1 (V.take (i+1))=fo 1 (V.take i)++(lw V[i]).map λw=>V[i].take 1++w:=by
   unfold fo;rw[Sg hi,Sz];simp
  rw[st',QV];refine⟨_,_,rfl,⟨‹.tup V[i]›,rfl⟩,?_⟩;have sx:=λK:Ks=>CW (i:=10) (f:=dA [none,some 11] (aG (f2 ah (ae 11) (lD (fC (.int 1))))) (gN 0) bF (f2 aW (aH (ae 1) av (aY (fC (.int 1)))) (ae 0))) K [‹GN›,none,none,none,none,‹.tup [.tup K1,.tup RD]›,‹.tup [.tup K2T,.tup QD]›,none,none,‹.tup (V.map .tup)›,some (.own (.lst ((fo 1 (V.take i)).map .tup))),‹.tup V[i]›,none] rfl (by rw[P7,P7,P7];omega) (le _ _ _ _ _ _ _ _ _ _ _ _);generalize ((lw V[i]).map λw=>V[i].take 1++w).map D.tup=Y1 at *;generalize (fo 1 (V.take i)).map D.tup=Y2 at *;simp! only[sx]
 ·rintro ρ' ⟨x11,rfl⟩;rw[P7,RW (PX _),hT];generalize V.map D.tup=WV at *;generalize (fo 1 V).map D.tup=WO at *;simp! only[c9,mV,J4,mp,al1,mg,al2]
end
theorem Cg(nm:Str):aC cI 1 1 [rR nm]=.ok (.tup [.str "gather",.str nm]):=by
 have fn:=HN nm;rw[gI];unfold cI;generalize rR nm=G at *;simp! only[fn,mV]
theorem math(ns:List Int)(hl:ns.length<=63):aC ox 1 13 [.lst (ns.map .int)]=.ok (.bl true):=by
 obtain⟨b,L,t,r,q,n,b0,hb,g,ej⟩:=vk ns;obtain⟨nm,hn,en⟩:=uB ns b0 hb g;obtain⟨A,B,tA,tB,la,lb,et⟩:=zY ns g 50 (by decide) (by decide);have l8:=g.l8;have l1:=g.l1;have r8:=g.r8;have q8:=g.q8;have n2:=g.n2;have sl:=j6 L;have pl':=gL L t;have sA:∀a∈A,Sh (so L) (a.take L.length):=λa h=>by have:=(tA.rw a h).2.1;rwa [sl]at this
 have wA:∀a∈A,a.length<=100:=λa h=>by have:=(tA.rw a h).1;omega
 have sB:∀c∈B,Sh (so L) (c.take L.length):=λc h=>by
  have:=pj L.length (tB.rw c h).2.1
  rw[pI,List.take_take,RZ ‹0›]at this;exact this
 have tab:=tB.tab ‹0›;have kb:aC bA 2 5 [fr (k1 L) r,fr (k2 L++t) q]=.ok (.tup ((bk L).map kf)):=qv g.ok ‹0› t (.tup (r.map fld)) (.tup (q.map fld));have cf:cutD ((k2 L++t).map kf) (some (L.length:Int)) none=t.map kf:=by
  rw[fh,QV,Ss (by rw[P7,P7])]
 have ad:=cw (r.map fld) [fld (nm,IK t q)] (by rw[P7,Qo];omega);have em:r.map fld++[fld (nm,IK t q)]=(r++[(nm,IK t q)]).map fld:=by rw[QV];rfl
 rw[em]at ad;have ad:aW (.tup (r.map fld)) (.tup [.tup [.str nm,.tup [.str "rows",.tup [.tup (t.map kf),.tup (q.map fld)],.bl false]]])=some (.tup ((r++[(nm,IK t q)]).map fld)):=ad;have vf:=zh nm g.ok ‹0› g.t1 l8 r8 q8 n2 g.hq hn;have al0:=yF (r:=r++[(nm,IK t q)]) g.ok ‹0› (by rw[Qj,Qo];omega) (show n+1<=3 by omega) (uN g.t1 ‹0› g.tg q8 g.hr g.hq);have wd:=Cg nm;have al2:au 20 [.tup [.str "gather",.str nm],.tup [.str "gather",.str nm]]=.ok (.bl true):=jw 1 20 _ (by decide) (AL.tup (by simp) λx hx=>by
  rcases List.mem_cons.mp hx with z|z
  ·rw[z];exact .inr ⟨_,rfl⟩
  ·rw[List.mem_singleton.mp z];exact .inr ⟨_,rfl⟩)
 have g1:=wF (r:=r) (q:=q) (t:=t) (A:=A) (rR nm) g.ok ‹0› sA tA.tb.s.ln wA tab ‹0› (pI L t);have g2:aC bI 3 5 [rR nm,.tup [fr (k1 L) r,fr (k2 L++t) q],.tup [.tup [],.tup (B.map .tup)]]=.ok (.tup []):=wF (r:=r) (q:=q) (t:=t) (A:=[]) (rR nm) g.ok ‹0› (λ_ h=>nomatch h) (by decide) (λ_ h=>nomatch h) tab ‹0› (pI L t);have al1:=jw 8 20 _ (by decide) (qm (k:=6) (A:=(A.filter λa=>aF (bk L) a).map (gw L.length B)) (by
  rw[P7]
  have:=Sj (λa=>aF (bk L) a) A
  omega) λx hx=>by
  obtain⟨a,ha,rfl⟩:=List.mem_map.mp hx;have ha:=(List.mem_filter.mp ha).1;refine⟨by rw[Qj,Qo];have:=wA a ha;omega,λv hv=>?_⟩;rcases List.mem_append.mp hv with z|z
  ·exact AL.le (by decide) ((tA.rw a ha).2.2 v z)
  ·rw[List.mem_singleton.mp z];have gl:=Ck L.length B (a.take L.length)
   have:=tB.tb.s.ln
   refine qm (k:=4) ‹0› λw hw=>?_;unfold gp at hw;obtain⟨c,hc,rfl⟩:=List.mem_map.mp hw;have hc:=(List.mem_filter.mp hc).1;exact⟨by rw[Ql];have:=(tB.rw c hc).1;omega,λy hy=>(tB.rw c hc).2.2 y (SA hy)⟩)
 obtain⟨x,x0,x1,ex⟩:=o8 ns 2 ‹0›;have ex:aC cz 2 3 [.lst (ns.map .int),.int 2]=.ok (.int x):=ex;have ag:=DK g hn x x0 ‹0›;have nn:rH (.tup []) (.tup [])=some (.bl false):=by kernel_rfl
 obtain⟨F,hF,lp⟩:=Ia (L:=L) (A:=A) (B:=B) (σ:=so L) sA tA.tb.s.ln wA sB tB.tb.s.ln (‹.lst (ns.map .int)›) (‹fr (k1 L) r›) (‹fr (k2 L++t) q›) (‹.str nm›) (‹.tup [.str "rows",.tup [.tup (t.map kf),.tup (q.map fld)],.bl false]›) none none;have un2:∀(a b:D)(ρ:aq),gT 2 (jR [1,2]) (.tup [a,b]) ρ=some (setV 2 b (setV 1 a ρ)):=λ_ _ _=>rfl;have evU:∀(f:FX)(g:GF)(k:Ks)(ρ:aq),Fq f g k ρ=o7 (f ρ) k ρ λd=>(rO (g d ρ)).bind k.nx:=λ_ _ _ _=>rfl;have i0:ah (fr (k1 L) r) (.int 0)=some (.tup ((k1 L).map kf)):=rfl;have i1:ah (fr (k1 L) r) (.int 1)=some (.tup (r.map fld)):=rfl;have j0:ah (fr (k2 L++t) q) (.int 0)=some (.tup ((k2 L++t).map kf)):=rfl;have j1:ah (fr (k2 L++t) q) (.int 1)=some (.tup (q.map fld)):=rfl;have kL:((k1 L).map kf).length=L.length:=by rw[P7,P7]
 rw[gI];unfold ox;rw[<-hF];generalize fr (k1 L) r=F1 at *;generalize fr (k2 L++t) q=F2 at *;unfold fr at vf al0;generalize (r++[(nm,IK t q)]).map fld=RQ at *;generalize ((A.filter λa=>aF (bk L) a).map (gw L.length B)).map D.tup=WJ at *;generalize A.map D.tup=WA at *;generalize B.map D.tup=WB at *;generalize (bk L).map kf=BK at *;generalize t.map kf=TK at *;generalize q.map fld=QF at *;generalize (k1 L).map kf=KL1 at *;generalize (k2 L++t).map kf=KL2 at *;have nwG:∀(fas:bE)(ρ:aq),fas ρ=.ok [.str nm]->fNew "Gather" ["name"] fas ρ=.ok (rR nm):=λfas ρ h=>by rw[Gj,h];rfl
 have m11:∀a0 a1 a2 a3 a4 a6 a7 a8 a9 a10 a11 a12:Option S,fNew "Gather" ["name"] (aa (ae 5) af) [a0,a1,a2,a3,a4,‹.str nm›,a6,a7,a8,a9,a10,a11,a12]=.ok (rR nm):=λ_ _ _ _ _ _ _ _ _ _ _ _=>nwG _ _ (by simp! only[]);have m1:∀a0 a3 a4 a5 a6 a7 a8 a9 a10 a12:Option S,dL "view_form" VT (ae 11) (aa (ae 1) (aa (ae 2) af)) [a0,‹F1›,‹F2›,a3,a4,a5,a6,a7,a8,a9,a10,‹rR nm›,a12]=.ok (.tup [.tup BK,.tup RQ]):=λ_ _ _ _ _ _ _ _ _ _=>(mG rfl (by simp! only[]) nv).trans vf;have m2:∀a0 a1 a2 a3 a4 a5 a6 a7 a8 a9 a10 a12:Option S,dL "words" [("Pair",(aC fu 1 1)),("Gather",(aC cI 1 1))] (ae 11) af [a0,a1,a2,a3,a4,a5,a6,a7,a8,a9,a10,‹rR nm›,a12]=.ok (.tup [.str "gather",.str nm]):=λ_ _ _ _ _ _ _ _ _ _ _ _=>(mG rfl rfl Pr).trans wd;have m3:∀a0 a4 a5 a6 a7 a8 a9 a10 a12:Option S,dL "got" GT (ae 11) (aa (aL (aa (ae 1) (aa (ae 2) af))) (aa (aL (aa (aL af) (aa (f2 ah (ae 3) (fC (.int 1))) af))) af)) [a0,‹F1›,‹F2›,‹.tup [.tup WA,.tup WB]›,a4,a5,a6,a7,a8,a9,a10,‹rR nm›,a12]=.ok (.tup []):=λ_ _ _ _ _ _ _ _ _=>(mG rfl (by simp! only[t1,mV,J4]) ng).trans g2;have m4:∀a0 a4 a5 a6 a7 a8 a9 a10 a12:Option S,dL "got" GT (ae 11) (aa (aL (aa (ae 1) (aa (ae 2) af))) (aa (ae 3) af)) [a0,‹F1›,‹F2›,‹.tup [.tup WA,.tup WB]›,a4,a5,a6,a7,a8,a9,a10,‹rR nm›,a12]=.ok (.tup WJ):=λ_ _ _ _ _ _ _ _ _=>(mG rfl (by simp! only[mV]) ng).trans g1;simp! only[evU,ej,un2,et,i0,kL,en,kb,j0,cf,j1,mV,Ej,HI,t0,lp,m11,i1,Kf,ad,m1,al0,m2,al2,m3,J4,nn,m4,al1,ex,ag]
end Tk53
open PySem PySem.W PyProof.Rows
theorem PySem.W.Fast.tw17841545369636648529 : True := trivial
theorem PySem.W.Fast.tw13406621101393818539 : True := trivial
theorem PySem.W.Fast.tw13931572323623537397 : True := trivial
theorem PySem.W.Fast.tw11642398542612472007 : True := trivial
theorem PySem.W.Fast.tw14529053720865897972 : True := trivial
theorem PySem.W.Fast.tw5092712700652108892 : True := trivial
theorem PySem.W.Fast.tw15780937942248737577 : True := trivial
theorem PySem.W.Fast.tw1282199108342681538 : True := trivial
theorem PySem.W.Fast.tw3026339847360781492 : True := trivial
theorem PySem.W.Fast.tw13844504224280055609 : True := trivial
theorem PySem.W.Fast.tw7789332932452360965 : True := trivial
theorem PySem.W.Fast.tw8991176894018998505 : True := trivial
theorem PySem.W.Fast.tw4960664362241349335 : True := trivial
theorem PySem.W.Fast.tw8284799358879911998 : True := trivial
theorem PySem.W.Fast.tw13399682407250760161 : True := trivial
theorem PySem.W.Fast.tw2390276076453391692 : True := trivial
theorem PySem.W.Fast.tw6800262006892607410 : True := trivial
theorem PySem.W.Fast.tw16695654108709954282 : True := trivial
theorem PySem.W.Fast.tw15989647618114466040 : True := trivial
theorem PySem.W.Fast.tw11336775322157718642 : True := trivial
theorem PySem.W.Fast.tw4928866843027050205 : True := trivial
theorem PySem.W.Fast.tw13457293541050891747 : True := trivial
theorem PySem.W.Fast.tw18257514261600897525 : True := trivial
theorem PySem.W.Fast.tw17859561019337619963 : True := trivial
theorem PySem.W.Fast.tw6611633883233090556 : True := trivial
theorem PySem.W.Fast.tw10399621789974342551 : True := trivial
theorem PySem.W.Fast.tw8809090022308571706 : True := trivial
theorem PySem.W.Fast.tw2855538378551151755 : True := trivial
theorem PySem.W.Fast.tw13811630167571492614 : True := trivial
theorem PySem.W.Fast.tw12982988185598894816 : True := trivial
theorem PySem.W.Fast.tw2369638200636508410 : True := trivial
theorem PySem.W.Fast.tw9316710784882416944 : True := trivial
theorem PySem.W.Fast.tw18387502999073373783 : True := trivial
theorem PySem.W.Fast.tw11565085053901093715 : True := trivial
theorem PySem.W.Fast.tw7590101279495417779 : True := trivial
theorem PySem.W.Fast.tw441042141465806557 : True := trivial
theorem PySem.W.Fast.tw10223703627757649620 : True := trivial
theorem PySem.W.Fast.tw14485348709630169703 : True := trivial
theorem PySem.W.Fast.tw12206888043768973944 : True := trivial
theorem PySem.W.Fast.tw18264192999500144173 : True := trivial
theorem PySem.W.Fast.tw9506664475615443388 : True := trivial
theorem PySem.W.Fast.tw7118898685377014147 : True := trivial
theorem PySem.W.Fast.tw8412286683371789104 : True := trivial
theorem PySem.W.Fast.tw423469764392952881 : True := trivial
theorem PySem.W.Fast.tw3249863900552268472 : True := trivial
theorem PySem.W.Fast.tw16716272122408485281 : True := trivial
theorem PySem.W.Fast.tw7232550775247930345 : True := trivial
theorem PySem.W.Fast.tw3186795914785566113 : True := trivial
theorem PySem.W.Fast.tw7287605275384776448 : True := trivial
theorem PySem.W.Fast.tw167383378984193909 : True := trivial
theorem PySem.W.Fast.tw10702637339648324159 : True := trivial
theorem PySem.W.Fast.tw15341038409453966286 : True := trivial
theorem PySem.W.Fast.tw16725299488122527177 : True := trivial
theorem PySem.W.Fast.tw12642304810114909504 : True := trivial
theorem PySem.W.Fast.tw10465699848590556209 : True := trivial
theorem PySem.W.Fast.tw5156092840173645221 : True := trivial
theorem PySem.W.Fast.tw10094312903357349302 : True := trivial
theorem PySem.W.Fast.tw5260142174555133925 : True := trivial
theorem PySem.W.Fast.tw2449727908795602186 : True := trivial
theorem PySem.W.Fast.tw6520130306027641731 : True := trivial
theorem PySem.W.Fast.tw1766962414766509115 : True := trivial
theorem PySem.W.Fast.tw10168334829851534441 : True := trivial
theorem PySem.W.Fast.tw1009954716120855393 : True := trivial
theorem PySem.W.Fast.tw10960880191617437145 : True := trivial
theorem PySem.W.Fast.tw14838585301986423454 : True := trivial
theorem PySem.W.Fast.tw16672069325313652291 : True := trivial
theorem PySem.W.Fast.tw864233207542217924 : True := trivial
theorem PySem.W.Fast.tw7283682830609284706 : True := trivial
theorem PySem.W.Fast.tw18173550662198114514 : True := trivial
theorem PySem.W.Fast.tw5463577924596559859 : True := trivial
theorem PySem.W.Fast.tw14710564679445703907 : True := trivial
theorem PySem.W.Fast.tw13969009566304999310 : True := trivial
theorem PySem.W.Fast.tw14722211937391270372 : True := trivial
theorem PySem.W.Fast.tw17294925384330294291 : True := trivial
theorem PySem.W.Fast.tw1562267239116222941 : True := trivial
theorem PySem.W.Fast.tw1515198469938721785 : True := trivial
theorem PySem.W.Fast.tw3684499746572759492 : True := trivial
theorem PySem.W.Fast.tw2931006579211534562 : True := trivial
theorem PySem.W.Fast.tw9661635355597372727 : True := trivial
theorem PySem.W.Fast.tw10355496301604171712 : True := trivial
theorem PySem.W.Fast.tw12079970498475193755 : True := trivial
theorem PySem.W.Fast.tw14900178821029030341 : True := trivial
theorem PySem.W.Fast.tw9256445860718219287 : True := trivial
theorem PySem.W.Fast.tw3596886415030435456 : True := trivial
theorem PySem.W.Fast.tw46875381900182668 : True := trivial
theorem PySem.W.Fast.tw9059931117571133253 : True := trivial
theorem PySem.W.Fast.tw10410788894612606843 : True := trivial
theorem PySem.W.Fast.tw505694719261667331 : True := trivial
theorem PySem.W.Fast.tw6774667078645273523 : True := trivial
theorem PySem.W.Fast.tw11493619112365417654 : True := trivial
theorem PySem.W.Fast.tw14912189227091158442 : True := trivial
theorem PySem.W.Fast.tw9194559567848886108 : True := trivial
theorem PySem.W.Fast.tw4781873177478316634 : True := trivial
theorem PySem.W.Fast.tw14375685633852958465 : True := trivial
theorem PySem.W.Fast.tw13438032765154691740 : True := trivial
theorem PySem.W.Fast.tw3220507994095344111 : True := trivial
theorem PySem.W.Fast.tw17922253217240680573 : True := trivial
theorem PySem.W.Fast.tw4576552822592006730 : True := trivial
theorem PySem.W.Fast.tw16241817235243417262 : True := trivial
theorem PySem.W.Fast.tw15619116087511171008 : True := trivial
theorem PySem.W.Fast.tw15599337821955299592 : True := trivial
theorem PySem.W.Fast.tw4974337012347887361 : True := trivial
theorem PySem.W.Fast.tw11215563549935454290 : True := trivial
theorem PySem.W.Fast.tw3279508247756015840 : True := trivial
theorem PySem.W.Fast.tw7438377404409557814 : True := trivial
theorem PySem.W.Fast.tw2676457417940478214 : True := trivial
theorem PySem.W.Fast.tw4191460339163030740 : True := trivial
theorem PySem.W.Fast.tw15828652212491202025 : True := trivial
theorem PySem.W.Fast.tw13448988227493247862 : True := trivial
theorem PySem.W.Fast.tw14973294254707720680 : True := trivial
theorem PySem.W.Fast.tw10144271760917774171 : True := trivial
theorem PySem.W.Fast.tw292044346973301135 : True := trivial
theorem PySem.W.Fast.tw1403661156199840408 : True := trivial
theorem PySem.W.Fast.tw8253713033991592579 : True := trivial
theorem PySem.W.Fast.tw1170342822025123393 : True := trivial
theorem PySem.W.Fast.tw1183758431952042626 : True := trivial
theorem PySem.W.Fast.tw3325914478194022522 : True := trivial
set_option maxRecDepth 100000 in
set_option maxHeartbeats 0 in
theorem PySem.Challenge.cw_twoglass_k53_gathered_holds : PySem.Challenge.rw_twoglass_k53_gathered.Holds := by
  w_on; o_law; k_head; (case hw => w_witness2)
  k_fill
  refine Tk53.walk (l := PySem.Challenge.rw_twoglass_k53_gathered) rfl rfl (fun w h Y => ⟨PySem.W.km_in_of Y, PySem.W.km_tabs_of Y _ (List.Mem.head _)⟩) ?F Tk53.math
  case F =>
    intro w mg fa h KX G hmg
    refine' Tk53.all_mk KX G hmg ?ac0 ?ac1 ?a0 ?i0 ?l0 ?c0 ?k0 ?a1 ?i1 ?l1 ?c1 ?k1 ?a2 ?i2 ?l2 ?c2 ?k2 ?a3 ?i3 ?l3 ?c3 ?k3 ?a4 ?i4 ?l4 ?c4 ?k4 ?a5 ?l5 ?c5 ?k5 ?a6 ?i6 ?l6 ?c6 ?k6 ?a7 ?i7 ?l7 ?c7 ?k7 ?a8 ?i8 ?l8 ?c8 ?k8 ?a9 ?l9 ?c9 ?k9 ?a10 ?i10 ?l10 ?c10 ?k10 ?p0 ?q0 ?r0 ?s0 ?n0_0 ?m0 ?kp0 ?p1 ?q1 ?r1 ?s1 ?dd0 ?dd1 ?zz ?ke0 ?ke1 ?lc ?lh ?lt
    case ac0|ac1|a0|i0|l0|c0|k0|a1|i1|l1|c1|k1|a2|i2|l2|c2|k2|a3|i3|l3|c3|k3|a4|i4|l4|c4|k4|a5|l5|c5|k5|a6|i6|l6|c6|k6|a7|i7|l7|c7|k7|a8|i8|l8|c8|k8|a9|l9|c9|k9|a10|i10|l10|c10|k10|p0|q0|r0|s0|n0_0|m0|kp0|p1|q1|r1|s1|ke0|ke1 => first|delta TX.Lk;k_is|k_is
    case lc => rfl
    case lh|lt => kernel_rfl
    case dd0|dd1 => (repeat (refine' TX.KDs.mk (TX.KD.mk ?a ?l ?c ?k) ?_;(case a|l|c|k => first|delta TX.Lk;k_is|k_is)));trivial
    case zz => (repeat (refine TX.KZs.mk (by k_is) ?_));trivial
