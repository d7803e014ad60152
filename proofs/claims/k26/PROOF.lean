import PyProof.Rows.All
import Wide.All
import OpenK.AllK
import Wide.FinOn
import Lean
import PyProof.EqAt
import PyProof.EqKinds
import PyProof.TupleCall
import PyProof.NeKinds
import PyProof.ZipIter
import PyProof.Draws
import PyProof.FactsAll.zip
import KE.KSortTup
import KE.KDictSum
import PyProof.TupleOfSeq
import PyProof.StrWalks
import PyProof.Rows.SetFrom
import KE.KRevIter
import PyProof.Rows.Range3
import KE.KTryMore
import KE.KIsNot
import PyProof.ExcArgsOwn
import PyProof.ExcAttrAll.ValueError
import PyProof.ExcBaseAll.ValueError
import PyProof.NsDelKeeps
import PyProof.Rows.CallKwBuiltin
import PyProof.WalkInts
import PyProof.Rows.Catch
import KE.KLam
import KE.KNestM
import PyProof.FactsAll.list_3
import KE.KDictList
import PyProof.Rows.CountFlat
import KE.KDictOf
import PyProof.AttrMissHeap
import PyProof.DictFindH
import PyProof.ExcInit
import PyProof.ExcClass3
import PyProof.InstStoreFacts
import KE.KUnpack
import PySem.Challenge.RW_twoglass_k26_whole_steps_that_hide_nothi
set_option Elab.async false
set_option linter.all false
set_option maxRecDepth 100000
local macro_rules|`(tactic|omega)=>`(tactic|first|lia|omega (config:={}))
open List renaming filterMap_cons→Ng,mem_cons_self→Nh,mem_cons_of_mem→Ni,mem_append_left→Nj,getElem?_set_self→Nk,getElem?_set_ne→Nm,mem_append_right→Nr,size_toArray→Nt,any_eq_false→Nu,length_cons→Nv,map_cons→Nw,length_map→Nx,append_nil→NB,of_mem_zip→ND,length_take→NE,getElem?_append_right→NF,getElem?_replicate→NI,getElem?_append_left→NK,getElem?_map→NM,getElem?_take_of_lt→NN,take_sublist→NP,mem_of_getElem?→NQ,length_append→NR,length_drop→NT,length_singleton→NX,map_nil→NY,lookup_cons→NZ,forIn_cons→N0,cons_append→N3,take_zero→N4,take_nil→N5,take_succ_cons→N6,drop_zero→N7,drop_nil→N8,drop_succ_cons→N9,all_cons→Oa,range_succ_eq_map→Oc,getElem?_eq_getElem→Od,getElem_of_mem→Oi,any_cons→Oj,nil_append→Ol,map_congr_left→Om,range_succ→Oo,map_append→Oq,getElem?_drop→Ot,length_range→Ou,take_length→Ov,getElem?_range→Ox,length_set→Oy,drop_eq_getElem_cons→Oz,append_assoc→OA,take_of_length_le→OB,mem_cons→OD,not_mem_nil→OG,getElem?_cons_zero→OH,getElem?_cons_succ→OI,zip_cons_cons→OQ,contains_cons→OS,nodup_append→OU,replicate_zero→OW,any_map→OY,zip_nil_right→OZ,length_nil→O0,not_lt_nil→O2,nil_lt_cons→O3,cons_lt_cons_iff→O5,pairwise_singleton→O6,filter_cons_of_pos→O7,filter_cons_of_neg→O8,getElem_mem→O9,ext_getElem→Pa,pairwise_map→Pb,getD_eq_getElem?_getD→Ph,toList_toArray→Pm,getElem?_eq_none→Pp,map_drop→Pw,map_take→Px,sum_cons→Py,drop_eq_nil_of_le→Pz,set_cons_zero→PB,set_cons_succ→PD,map_map→PL,take_left'→PQ,mem_nil_iff→PR,getElem_take→PV,getElem_map→PX,set_eq_take_append_cons_drop→PZ,ext_getElem?→P0,map_set→P4,set_append_left→P5,set_append_right→P6,take_append_drop→P9,drop_append→Qb,take_take→Qi,take_append_of_le_length→Qj,map_id→Ql,getElem?_set→Qn,length_eraseIdx→Qo,getElem?_eraseIdx→Qp,getElem?_take→Qq,eraseIdx_eq_take_drop_succ→Qr,take_succ_eq_append_getElem→Qs
open Int renaming toNat_natCast→NS,emod_nonneg→PJ,zero_add→PK,emod_lt_of_pos→PN,eq_ofNat_of_zero_le→PY,mul_ediv_add_emod→P7,ediv_le_ediv→P8,mul_comm→Qc,add_comm→Qd,add_mul_ediv_right→Qe,ediv_eq_zero_of_lt→Qf,add_mul_emod_self_right→Qg,emod_eq_of_lt→Qh,mul_le_mul_of_nonneg_left→Qk,mul_le_mul_of_nonneg_right→Qt
open Nat renaming lt_of_lt_of_le→M8,lt_irrefl→M9,ne_of_lt→Nb,le_trans→Nc,le_of_lt→Nf,ne_of_gt→Np,le_refl→Nq,le_of_eq→Ny,lt_succ_self→Nz,zero_le→NA,le_succ→NC,lt_succ_of_lt→N2,min_self→Oe,sub_zero→Ow,le_add_right→OJ,add_lt_add_left→OL,lt_add_of_pos_right→OM,zero_add→OO,sub_self→OV,add_comm→OX,lt_or_gt_of_ne→Pj,lt_or_ge→Pn,le_total→Pq,min_eq_left→Pr,min_eq_right→Pt,add_sub_cancel_left→Qa
open Bool renaming false_ne_true→Nn,and_eq_true→NU,or_false→NV,false_eq_true→N1,and_true→Of,and_false→Og,or_eq_true→Oh,or_eq_false_iff→OT,or_true→Pk,not_eq_true'→Pl,not_true→PF,not_false→PH,true_and→PP,or_self→Qm
open Option renaming getD_none→NW,getD_some→OC,map_some→Pu
open PySem renaming Value→RE,NameKind→RF,Addr→RG,Expr→RH,Stmt→RJ,Shared→RK,World→RL,Program→RM,Heap→RN,sizeLine→RO,mainGlobals→RQ,builtinsNs→RT,bootBuiltins→RU,Around→RV,Scope→RW,Model→RX,wpAny→RY,starEach→RZ,wpAny_mono→R0,wpAny_Name→R1,CmpOp→R4,compareOp→R5,behindInMarks→R6,wpAny_truthy_bool→R7,wpAny_execs_nil→R8,PassesOwn→R9,wpAny_passesOwn→Sa,wpAny_pure→Sb,wpAny_bind→Sd,IsRangeIter→Se,wpAny_pyIter_rangeiter→Sf,wpAny_pyIter_list→Sg,foldedSetIterable→Si,binaryOp→Sj,sizeLine_eq→Sl,wpAny_loadPart→Sn,wpAny_lookBehind→Sq,pastItsLine_dict→Sr,Result→Ss,codeAny→Su,attributeBase→Sv,plainObj_wpAny_Assign_Attribute→Sw,callWith→Sx,keywordEach→Sy,recursionLimit→Sz,cLine→SA,FuncData→SD,BindsTo→SE,wpAny_call→SG,codeAny_mono→SH,wpAny_Call_Name_kw→SJ,Arguments→SK,concat_meets→SM,noFill_tuple_add→SN,seq_tuple_add→SR,IsPart→SU,wpAny_field→SV,wpAny_holding→SW,wpAny_callSpecial?_slot→SY,wpAny_call_entry→SZ,wpAny_typeOf→S0,wpAny_newObj_type→S3,evalPart_none→S4,Keyword→S5,wpAny_standAt→S6,wpAny_comprehension_free→S7,wpAny_rule→S8,wpAny_getItem_str_slice→S9,post_val_or_str→Tc,wpAny_seqItems→Td,wpAny_of_eq→Te,IsZip→Tf,IsPair→Tg,wpAny_setField_rec→Th,wpAny_onRaise→Ti,wpAny_updateSeq_pair→Tj,wpAny_letGo→Tl,wpAny_attempt→Tn,ExcBaseFacts→Tr,wpAny_loadPart_at→Ts
open PySem.W renaming instObj→Qu,methodObj→Qv,Frag→Qw,lookIn→Qx,plainGet→Qy,hasDictIn→Qz,findIn→QA,handedIn→QB,plainGet_of→QC,isFn→QD,plainOver→QE,takerIn→QF,makesIn→QG,typeIn→QH,emptyDict→QI,keepIn→QJ,callWith_K→QK,cellsFrom_some→QL,fnOf→QM,codeIn→QN,nsIn→QO,notCls→QP,kitOne→QQ,kia_one→QR,BoolBack→QS,excIn→QT,isNs_of_in→QU,tail_of_in→QV,exmOne→QW,mroIn→QX,subIn→QY,tabObj→QZ,OpenLaw→Ra,mg_of→Rb,codeHdIn→Rc,kla_obj→Tq
open PySem.Heap renaming lt_size→Rf,get?_none_of_le→Rg,SameBut→Rh,get?_push_of_some→Ri,get?_push_size→Rj,size_push→Rl,FlyingW→Rm,get?_update_self→Rn,get?_update_ne→Ro,get?_push_at→Rp,MadeExcOf→Rq
open PyProof.Rows renaming callWith_type1→Rr,slot_tuple_getitem→Rt,envOfC→Ru,IsTup→Rv,Call_→Rw,boot_int→Rx,boot_tuple→Ry,IsTup→RP,Constant_none→R3,get?_update_seq→To,listUpdate_at→Tp
open PySem.F renaming slot_tuple_add→Rz,entry_tuple_add→RB,args_tuple_add_2→RC,excBase_ValueError→RD
set_option maxHeartbeats 1000000
local macro_rules | `(‹2›)=>`(⟨rfl, rfl, rfl, by decide +kernel, rfl, by decide +kernel, by decide +kernel⟩)
local macro_rules | `(‹0›)=>`(by omega)
namespace L2
open PySem PySem.Spec PyProof.Rows
noncomputable abbrev fH:=List (Option Nat)
noncomputable abbrev bP:=Str->Option RE
noncomputable abbrev nY:=List (Str×RF)
noncomputable abbrev bn:=List (RG×Obj)
noncomputable abbrev j9:=List (Str×RG)
noncomputable abbrev bA:=List RH
noncomputable abbrev dM:=List RJ
noncomputable abbrev aU:=List RE
noncomputable abbrev cy:=List Bool
noncomputable abbrev aF:=List RG
noncomputable abbrev cR:=Option Int
noncomputable abbrev fJ:=Array RE
noncomputable abbrev bD:=RE->RK->Prop
noncomputable abbrev dD:=RK->Prop
noncomputable abbrev au:=List Str
noncomputable abbrev Key:=Sum Int Str
noncomputable def EX:Key->RE->Bool
 |.inl k,v=>Value.isInt k v
 |.inr x,v=>Value.isStrOf x v
noncomputable def KN(w:RL):Key->Int
 |.inl k=>hashInt k
 |.inr x=>hashStr w x
theorem cK:∀{k:Key}{v:RE},EX k v=true->(∃i t,k=Sum.inl i/\v=Value.int i t)\/(∃x t,k=Sum.inr x/\v=Value.str x t)
 |.inl i,v,h=>by
  obtain⟨t,e⟩:=Value.isInt_shape (k:=i) (v:=v) h;exact .inl ⟨i,t,rfl,e⟩
 |.inr x,v,h=>by
  obtain⟨t,e⟩:=Value.isStrOf_shape (x:=x) (v:=v) h;exact .inr ⟨x,t,rfl,e⟩
theorem Fg(a b:Int):decide ((Sum.inl a:Key)=Sum.inl b)=(a==b):=by
 by_cases e:a=b
 ·subst e;simp
 ·have h:¬(Sum.inl a:Key)=Sum.inl b:=λq=>e (Sum.inl.inj q);rw[decide_eq_false h];exact(beq_eq_false_iff_ne.mpr e).symm
theorem GJ(a b:Str):decide ((Sum.inr a:Key)=Sum.inr b)=decide (a=b):=by
 by_cases e:a=b
 ·subst e;simp
 ·have h:¬(Sum.inr a:Key)=Sum.inr b:=λq=>e (Sum.inr.inj q);rw[decide_eq_false h,decide_eq_false e]
theorem Hs(a:Int)(b:Str):decide ((Sum.inl a:Key)=Sum.inr b)=false:=decide_eq_false (λq=>nomatch q)
theorem Hz(a:Str)(b:Int):decide ((Sum.inr a:Key)=Sum.inl b)=false:=decide_eq_false (λq=>nomatch q)
noncomputable def qy(prog:RM)(w:RL):PySem.KeyKind prog w Key where
 is:=EX
 hash:=KN w
 inj:=λv a b ha hb=>by
  rcases cK ha with⟨i,t,rfl,rfl⟩|⟨x,t,rfl,rfl⟩
  ·rcases cK hb with⟨j,u,rfl,e⟩|⟨y,u,rfl,e⟩
   ·injection e with e1 _;rw[e1]
   ·exact nomatch e
  ·rcases cK hb with⟨j,u,rfl,e⟩|⟨y,u,rfl,e⟩
   ·exact nomatch e
   ·injection e with e1 _;rw[e1]
 byValue:=λk v h=>by
  rcases cK h with⟨i,t,rfl,rfl⟩|⟨x,t,rfl,rfl⟩<;>rfl
 pyHash:=λhv h=>by
  rcases cK hv with⟨i,t,rfl,rfl⟩|⟨x,t,rfl,rfl⟩
  ·exact wpAny_pyHash_int h
  ·exact wpAny_pyHash_str h
 eqBool:=λhu hv h=>by
  rcases cK hu with⟨i,t,rfl,rfl⟩|⟨x,t,rfl,rfl⟩
  ·rcases cK hv with⟨j,u,rfl,rfl⟩|⟨y,u,rfl,rfl⟩
   ·rw[Fg]at h;exact wpAny_eqBool_int h
   ·rw[Hs]at h;exact SeqAt.EqAt.int_str i t y u _ _ _ _ h
  ·rcases cK hv with⟨j,u,rfl,rfl⟩|⟨y,u,rfl,rfl⟩
   ·rw[Hz]at h;exact SeqAt.EqAt.str_int x t j u _ _ _ _ h
   ·rw[GJ]at h;exact wpAny_eqBool_str h
 «strs»:=λk x t v h=>by
  rcases cK h with⟨i,u,rfl,e⟩|⟨y,u,rfl,e⟩
  ·exact nomatch e
  ·injection e with e1 _;subst e1;cases v<;>rfl
inductive V where
 |non|bl (b:Bool)|int (i:Int)|str (x:Str)|byt (b:Array UInt8)|flt (b:UInt64)|ref (a:RG)|ty (n:String)
 deriving DecidableEq
noncomputable abbrev aH:=List V
noncomputable def RelV:V->RE->Prop
 |.non,u=>u=Value.none
 |.bl b,u=>u=Value.bool b
 |.int i,u=>∃t,u=Value.int i t
 |.str x,u=>∃t,u=Value.str x t
 |.byt b,u=>∃t,u=Value.bytes b t
 |.flt b,u=>∃t,u=Value.float b t
 |.ref a,u=>u=Value.ref a
 |.ty n,u=>u=Value.type n
noncomputable abbrev Vals:aH->aU->Prop:=Paired RelV
theorem Vals.length{xs:aH}{us:aU}(r:Vals xs us):xs.length=us.length:=Paired.length r
theorem Vals.get:∀{xs:aH}{us:aU}{i:Nat}{x:V},Vals xs us->xs[i]?=some x->∃u,us[i]?=some u/\RelV x u
 |_,_,_,_,.nil,e=>by simp at e
 |_,_,0,_,.cons r _,e=>by simp at e;subst e;exact⟨_,rfl,r⟩
 |_,_,i+1,x,.cons _ t,e=>by
  obtain⟨u,h1,h2⟩:=Vals.get (i:=i) (x:=x) t (by simpa using e);exact⟨u,by simpa using h1,h2⟩
theorem Vals.append:∀{xs ys:aH}{us ws:aU},Vals xs us->Vals ys ws->Vals (xs++ys) (us++ws)
 |_,_,_,_,.nil,s=>s
 |_,_,_,_,.cons r t,s=>.cons r (Vals.append t s)
theorem Vals.take:∀{xs:aH}{us:aU}(n:Nat),Vals xs us->Vals (xs.take n) (us.take n)
 |_,_,0,_=>.nil
 |_,_,_+1,.nil=>.nil
 |_,_,n+1,.cons r t=>.cons r (Vals.take n t)
theorem Vals.drop:∀{xs:aH}{us:aU}(n:Nat),Vals xs us->Vals (xs.drop n) (us.drop n)
 |_,_,0,r=>r
 |_,_,_+1,.nil=>.nil
 |_,_,n+1,.cons _ t=>Vals.drop n t
noncomputable def sX:Option V->Option RE->Prop
 |some v,some u=>RelV v u
 |none,none=>True
 |_,_=>False
noncomputable def KV{κ:Type}:List (κ×V)->List (κ×RE)->Prop:=Paired λ(p:κ×V)(q:κ×RE)=>p.1=q.1/\RelV p.2 q.2
noncomputable def kV:Key->V
 |.inl i=>.int i
 |.inr x=>.str x
inductive HO where
  |lst (xs:aH)
  |tup (xs:aH)
  |dK (kvs:List (Key×V))|dT (kvs:List (List Key×V))
  |set (S:Int->Bool) (n:Nat)
  |ins (C dx:RG) (fs:List (Str×V))
  |own (x:RG)
  |xd (fs:List (Str×V))
  |met (f x:RG)
  |rng (lo hi:Int)
  |frz (o:Obj) (u:HO)
  |tbl (ps:fJ)
  |ext (φ:(RG->Prop)->RN->Prop)
noncomputable abbrev Hp:=RG->Option HO
noncomputable def upd(H:Hp)(a:RG)(o:HO):Hp:=λb=>if b=a then some o else H b
theorem aK{H:Hp}{a:RG}{o:HO}:upd H a o a=some o:=by unfold upd;rw[if_pos rfl]
theorem ay{H:Hp}{a b:RG}{o:HO}(h:b≠a):upd H a o b=H b:=by unfold upd;rw[if_neg h]
theorem vV{H:Hp}{a:RG}{o u:HO}:upd (upd H a o) a u=upd H a u:=by
 funext b;unfold upd;split<;>rfl
theorem aQ{H:Hp}{a b:RG}{o:HO}(h:H a=some o)(h':H b=none):a≠b:=by
 intro e;subst e;rw[h]at h';cases h'
section
variable(P:RM)(w:RL)
noncomputable def dE(H:Hp)(h:RN)(a:RG):HO->Prop
 |.lst xs=>xs.length<=RO/\∃(its:aU)(n:Nat),Vals xs its/\h.get? a=some {cls:=.type "list",data:=.seq its.toArray n}
 |.tup xs=>xs.length<=RO/\∃its:aU,Vals xs its/\RP h a its.toArray
 |.dK kvs=>kvs.length<=RO/\(a==sysModules)=false/\∃vs,KV kvs vs/\h.DictOf (qy P w) a vs
 |.dT kvs=>kvs.length<=RO/\(a==sysModules)=false/\∃xs:List (List Key×RG×RE),
   Paired (λ(p:List Key×V)(q:List Key×RG×RE)=>p.1=q.1/\H q.2.1=some (.tup (p.1.map kV))/\RelV p.2 q.2.2) kvs xs/\
   ∃o es ep,h.get? a=some o/\o.ExactDict/\o.data=.dict es ep/\es.toList=xs.map (entryOfKey (tupleKind (qy P w)))/\(xs.map (·.1)).Nodup
 |.set S n=>h.SetOf (intKind P w) a S n
 |.ins C dx fs=>H dx=some (.own a)/\fs.length<=1000/\dx≠a/\h.get? a=some (Qu C dx)/\
   ∃mA,h.Ns1 dx mA/\(∀f,sX (fs.lookup f) (mA f))/\PySem.Within mA (fs.map (·.1))
 |.own _=>∃o,h.get? a=some o
 |.xd fs=>∃mA,h.Ns1 a mA/\∀f,sX (fs.lookup f) (mA f)
 |.rng lo hi=>∃t u v,h.get? a=some {cls:=.type "range",data:=.fields #[.int lo t,.int hi u,.int 1 v]}
 |.frz o u=>h.get? a=some o/\dE H h a u
 |.tbl ps=>h.get? a=some {cls:=.none,data:=.fields ps}
 |.met f x=>h.get? a=some (Qv (.ref f) (.ref x))
 |.ext φ=>φ (λb=>H b=some (.own a)) h/\(∃o,h.get? a=some o)/\∀(S1 S2:RG->Prop)(h1 h2:RN),φ S1 h1->(∀b,S1 b->S2 b)->(∀b o,(b=a\/S1 b)->h1.get? b=some o->h2.get? b=some o)->φ S2 h2
noncomputable def nH(H:Hp)(h:RN):Prop:=∀a o,H a=some o->dE P w H h a o
end
section
variable{P:RM}{w:RL}{H H':Hp}{h h':RN}{a:RG}{o:HO}
theorem dE.lt(x:dE P w H h a o):a<h.objs.size:=by
 cases o with
 |lst xs=>obtain⟨_,_,_,_,e⟩:=x;exact Rf e
 |tup xs=>obtain⟨_,_,_,p⟩:=x;exact p.lt
 |dK kvs=>obtain⟨_,_,_,_,o,_,_,e,_⟩:=x;exact Rf e
 |dT kvs=>obtain⟨_,_,_,_,o,_,_,e,_⟩:=x;exact Rf e
 |set S n=>obtain⟨o,_,_,_,e,_⟩:=x;exact Rf e
 |ins C dx fs=>obtain⟨_,_,_,e,_⟩:=x;exact Rf e
 |own y=>obtain⟨_,e⟩:=x;exact Rf e
 |xd fs=>obtain⟨_,⟨_,_,_,e,_⟩,_⟩:=x;exact Rf e
 |rng lo hi=>obtain⟨_,_,_,e⟩:=x;exact Rf e
 |frz ob u=>obtain⟨e,_⟩:=x;exact Rf e
 |tbl ps=>exact Rf (show h.get? a=some _ from x)
 |met f y=>exact Rf (show h.get? a=some _ from x)
 |ext φ=>obtain⟨_,⟨_,e⟩,_⟩:=x;exact Rf e
theorem Paired.mapP{α β:Type}{F G:α->β->Prop}:∀{l₁:List α}{l₂:List β},Paired F l₁ l₂->(∀a b,F a b->G a b)->Paired G l₁ l₂
 |_,_,.nil,_=>.nil
 |_,_,.cons r t,f=>.cons (f _ _ r) (Paired.mapP t f)
theorem dE.stay(x:dE P w H h a o)(k:∀b u,(b=a\/H b=some (.own a))->h.get? b=some u->h'.get? b=some u)
  (ho:∀b,H b=some (.own a)->H' b=some (.own a)) (ht:∀b xs,H b=some (.tup xs)->H' b=some (.tup xs)):dE P w H' h' a o:=by
 induction o with
 |lst xs=>obtain⟨z,its,n,r,e⟩:=x;exact⟨z,its,n,r,k _ _ (.inl rfl) e⟩
 |tup xs=>obtain⟨z,its,r,ob,e,c⟩:=x;exact⟨z,its,r,ob,k _ _ (.inl rfl) e,c⟩
 |dK kvs=>obtain⟨z,y,vs,r,ob,es,ep,e,c⟩:=x;exact⟨z,y,vs,r,ob,es,ep,k _ _ (.inl rfl) e,c⟩
 |dT kvs=>
  obtain⟨z,y,xs,r,ob,es,ep,e,c⟩:=x;exact⟨z,y,xs,Paired.mapP r λp q z=>⟨z.1,ht _ _ z.2.1,z.2.2⟩,ob,es,ep,k _ _ (.inl rfl) e,c⟩
 |set S n=>obtain⟨ob,es,ep,t,e,c⟩:=x;exact⟨ob,es,ep,t,k _ _ (.inl rfl) e,c⟩
 |ins C dx fs=>
  obtain⟨d,z,ne,e,mA,⟨od,es,ep,e2,c⟩,r⟩:=x;exact⟨ho _ d,z,ne,k _ _ (.inl rfl) e,mA,⟨od,es,ep,k _ _ (.inr d) e2,c⟩,r⟩
 |own y=>obtain⟨ob,e⟩:=x;exact⟨ob,k _ _ (.inl rfl) e⟩
 |xd fs=>obtain⟨mA,⟨od,es,ep,e,c⟩,r⟩:=x;exact⟨mA,⟨od,es,ep,k _ _ (.inl rfl) e,c⟩,r⟩
 |rng lo hi=>obtain⟨t,u,v,e⟩:=x;exact⟨t,u,v,k _ _ (.inl rfl) e⟩
 |frz ob u ih=>obtain⟨e,q⟩:=x;exact⟨k _ _ (.inl rfl) e,ih q⟩
 |tbl ps=>
  have e:h.get? a=some {cls:=.none,data:=.fields ps}:=x;show h'.get? a=some {cls:=.none,data:=.fields ps};exact k a _ (.inl rfl) e
 |met f y=>
  have e:h.get? a=some (Qv (.ref f) (.ref y)):=x;show h'.get? a=some (Qv (.ref f) (.ref y));exact k a _ (.inl rfl) e
 |ext φ=>obtain⟨p,⟨o,e⟩,st⟩:=x;exact⟨st _ _ _ _ p ho k,⟨o,k _ _ (.inl rfl) e⟩,st⟩
theorem nH.lt(x:nH P w H h)(e:H a=some o):a<h.objs.size:=(x a o e).lt
theorem nH.fresh(x:nH P w H h)(e:h.objs.size<=a):H a=none:=by
 cases q:H a with
 |none=>rfl
 |some u=>exact absurd (M8 (x.lt q) e) (M9 _)
theorem nH.kept(x:nH P w H h)(k:∀b u,h.get? b=some u->h'.get? b=some u):nH P w H h':=λa o e=>
 (x a o e).stay (λb u _ q=>k b u q) (λ_ q=>q) λ_ _ q=>q
theorem nH.laid(x:nH P w H h)(k:∀b u,h.get? b=some u->h'.get? b=some u)(hp:h.objs.size<=a)(new:dE P w (upd H a o) h' a o):nH P w (upd H a o) h':=λb u e=>by
 have hn:=x.fresh hp;by_cases hb:b=a
 ·subst hb;rw[aK]at e;cases e;exact new
 ·rw[ay hb]at e;exact(x b u e).stay (λc v _ q=>k c v q) (λc q=>by rw[ay (aQ q hn)];exact q) λc xs q=>by rw[ay (aQ q hn)];exact q
end
noncomputable def Rd(H:Hp)(a:RG)(u:HO):Prop:=H a=some u\/∃o,H a=some (.frz o u)
theorem Rd.ok{P:RM}{w:RL}{H:Hp}{h:RN}{a:RG}{u:HO}(r:Rd H a u)(x:nH P w H h):dE P w H h a u:=by
 rcases r with r|⟨o,r⟩
 ·exact x a u r
 ·obtain⟨_,q⟩:=x a _ r;exact q
noncomputable def JI:Option HO->Prop
 |some (.lst _)=>True
 |some (.dK _)=>True
 |some (.dT _)=>True
 |some (.set _ _)=>True
 |some (.ins _ _ _)=>True
 |some (.ext _)=>True
 |_=>False
section
variable{P:RM}{w:RL}{H:Hp}{h h':RN}{x e:RG}{o':HO}
theorem nH.write(ok:nH P w H h)(mu:JI (H x))(he:e=x\/H e=some (.own x))(k:∀b u,b≠e->h.get? b=some u->h'.get? b=some u)(heo:∃u,h'.get? e=some u)
  (new:dE P w (upd H x o') h' x o'):nH P w (upd H x o') h':=λb u q=>by
 have nown:∀c y,H c=some (.own y)->c≠x:=λc y r z=>by subst z;rw[r]at mu;exact mu
 have ntup:∀c xs,H c=some (.tup xs)->c≠x:=λc xs r z=>by subst z;rw[r]at mu;exact mu
 by_cases hb:b=x
 ·subst hb;rw[aK]at q;cases q;exact new
 ·rw[ay hb]at q;by_cases hbe:b=e
  ·have q':H b=some (.own x):=by
    rcases he with z|z
    ·exact absurd (hbe.trans z) hb
    ·rw[hbe];exact z
   rw[q]at q';cases q';obtain⟨v,hv⟩:=heo;exact⟨v,by rw[hbe];exact hv⟩
  ·refine(ok b u q).stay (λc v hc r=>k c v ?_ r) (λc r=>by rw[ay (nown c b r)];exact r) λc xs r=>by rw[ay (ntup c xs r)];exact r
   rcases hc with rfl|hc
   ·exact hbe
   ·rintro rfl;rcases he with z|z
    ·exact nown c b hc z
    ·rw[hc]at z;cases z;exact hb rfl
end
structure Un(fs ex:aF)(H H':Hp)(h h':RN):Prop where
 keep:∀b o,h.get? b=some o->H b=none->b∉fs->b∉ex->h'.get? b=some o
 slot:∀b o,h.get? b=some o->H b=none->b∈fs->b∉ex->∃sl,h'.get? b=some {o with slots:=sl}
 free:∀b o,h.get? b=some o->H b=none->b∉ex->H' b=none
 there:∀b o,h.get? b=some o->b∉ex->∃o',h'.get? b=some o'
 tups:∀b xs,H b=some (.tup xs)->H' b=some (.tup xs)
 frzs:∀b o u,H b=some (.frz o u)->H' b=some (.frz o u)
 tbls:∀b ps,H b=some (.tbl ps)->∃more,H' b=some (.tbl (ps++more))
section
variable{fs fs' ex ex':aF}{H H1 H2:Hp}{h h1 h2 h':RN}{a x e:RG}{o:HO}
theorem Un.any(u:Un fs ex H H1 h h1){b:RG}{ob:Obj}(q:h.get? b=some ob)(n:H b=none)(hx:b∉ex):∃sl,h1.get? b=some {ob with slots:=sl}:=by
 by_cases hb:b∈fs
 ·exact u.slot b ob q n hb hx
 ·exact⟨ob.slots,u.keep b ob q n hb hx⟩
theorem Un.kept(k:∀b u,h.get? b=some u->h'.get? b=some u):Un fs ex H H h h':=
 ⟨λb ob q _ _ _=>k b ob q,λb ob q _ _ _=>⟨ob.slots,k b ob q⟩,λ_ _ _ n _=>n,λb ob q _=>⟨ob,k b ob q⟩,λ_ _ q=>q,λ_ _ _ q=>q,λ_ ps q=>⟨#[],by rw[q];simp⟩⟩
theorem Un.refl:Un fs ex H H h h:=Un.kept λ_ _ q=>q
theorem Un.laid(k:∀b u,h.get? b=some u->h'.get? b=some u)(hp:h.objs.size<=a)(hn:H a=none):Un fs ex H (upd H a o) h h' where
 keep:=λb u q _ _ _=>k b u q
 slot:=λb u q _ _ _=>⟨u.slots,k b u q⟩
 free:=λb u q n _=>by rw[ay (Nb (M8 (Rf q) hp))];exact n
 there:=λb u q _=>⟨u,k b u q⟩
 tups:=λb xs q=>by rw[ay (aQ q hn)];exact q
 frzs:=λb u xs q=>by rw[ay (aQ q hn)];exact q
 tbls:=λb ps q=>⟨#[],by rw[ay (aQ q hn),q];simp⟩
theorem Un.write(mu:JI (H x))(he:e=x\/H e=some (.own x))(k:∀b u,b≠e->h.get? b=some u->h'.get? b=some u)(heo:∃u,h'.get? e=some u):Un fs ex H (upd H x o) h h':=by
 have hx:∀b,H b=none->b≠x:=λb n z=>by subst z;rw[n]at mu;exact mu
 have hb:∀b,H b=none->b≠e:=λb n z=>by
  subst z;rcases he with r|r
  ·exact hx b n r
  ·rw[n]at r;cases r
 have hm:∀b u,H b=some u->¬JI (some u)->b≠x:=λb u q nm z=>by subst z;rw[q]at mu;exact nm mu
 refine⟨λb u q n _ _=>k b u (hb b n) q,λb u q n _ _=>⟨u.slots,k b u (hb b n) q⟩,λb u q n _=>by rw[ay (hx b n)];exact n,λb u q _=>?_,
  λb xs q=>by rw[ay (hm b _ q λz=>z)];exact q,λb u xs q=>by rw[ay (hm b _ q λz=>z)];exact q,λb ps q=>⟨#[],by rw[ay (hm b _ q λz=>z),q];simp⟩⟩
 by_cases hbe:b=e
 ·subst hbe;exact heo
 ·exact⟨u,k b u hbe q⟩
end
noncomputable def Jv(h:RN)(H:Hp):aF:=(List.range h.objs.size).filter λa=>(H a).isSome
noncomputable def jA(h:RN)(H:Hp):RN:=PySem.W.hideAll h (Jv h H)
theorem yw(h:RN)(H:Hp):(jA h H).objs.size=h.objs.size:=PySem.W.hideAll_size _ _
theorem jb{h:RN}{H:Hp}{b:RG}{o:Obj}(e:h.get? b=some o)(n:H b=none):(jA h H).get? b=some o:=
 PySem.W.hideAll_get _ e λhm=>by
  have q:(H b).isSome=true:=(List.mem_filter.mp hm).2;rw[n]at q;simp at q
theorem jU{h:RN}{H:Hp}{b:RG}{o:Obj}(e:(jA h H).get? b=some o):h.get? b=some o/\H b=none:=by
 have e':h.get? b=some o:=PySem.W.of_hideAll (Jv h H) e;refine⟨e',?_⟩;cases q:H b with
 |none=>rfl
 |some x=>
  have hm:b∈Jv h H:=List.mem_filter.mpr ⟨List.mem_range.mpr (Rf e'),by simp[q]⟩;have z:(jA h H).get? b=none:=PySem.W.hideAll_none (Jv h H) hm;rw[z]at e;cases e
noncomputable def C8(g h:RN)(L:RG):bn:=(List.range h.objs.size).filterMap λa=>if a=L\/(g.get? a).isSome=true then none else(h.get? a).map λo=>(a,o)
noncomputable def rest(g h:RN)(L d:RG):bn:=(C8 g h L).filter λp=>decide (p.1≠d)
structure Mod(K:Qw)(mg:bP)(base:RN):Prop where
 kin:K.In base
 glob:base.Ns RQ mg
 blt:∃mb,base.Ns RT mb/\∀x:Str,x≠"__name__"->mb x=RU x
 nolimit:base.NoLimit
structure Cx where
 prog:RM
 w:RL
 K:Qw
 mg:bP
 base:RN
 A:RV
 N:au
 s₀:RK
 H₀:Hp
 env:Env
 outer:List Env
 stack:List Env
 ex:aF
 fn:Str->Bool
 calm:Bool
 pn:bn
 xe:bD
noncomputable def frs(l:List Env):aF:=l.filterMap (·.frame)
noncomputable abbrev Cx.fs(X:Cx):aF:=frs X.outer
noncomputable def FU(sc:RW)(x:Str):Prop:=sc.names.lookup x=some .local\/sc.names.lookup x=some .cell\/sc.names.lookup x=some .free
noncomputable def Loc(sc:RW)(x:Str):Prop:=sc.names.lookup x=some .local\/sc.names.lookup x=some .cell
noncomputable def Look(env:Env)(h:RN)(m:bP)(x:Str)(u:RE):Prop:=
 (env.kindOf x=some .local/\m x=some u)\/((env.kindOf x=some .cell\/env.kindOf x=some .free)/\∃c,env.cells.lookup x=some c/\h.IsCell c (some u))
structure Cx.Ok(X:Cx):Prop where
 mod:Mod X.K X.mg X.base
 kind:X.env.scope.kind=.function
 glob:X.env.globals=RQ
 blt:X.env.builtins=RT
 above:X.s₀.heap.objs.size<=X.env.locals
 inj:∀x y c,X.env.cells.lookup x=some c->X.env.cells.lookup y=some c->x=y
 has:∀x,(X.env.kindOf x=some .cell\/X.env.kindOf x=some .free)->∃c,X.env.cells.lookup x=some c
 cab:∀x c,X.fn x=true->X.env.cells.lookup x=some c->X.s₀.heap.objs.size<=c
 hd:X.calm=true->X.A.handled=none
 frames:X.A.frames=some X.stack
 stk:X.stack=X.outer\/(X.stack=X.env::X.outer/\X.env.frame=some X.env.locals)
 exf:∀b∈X.ex,b≠X.env.locals/\∀x c,X.env.cells.lookup x=some c->c≠b
 bs:∀b o,X.base.get? b=some o->X.s₀.heap.get? b=some o/\X.H₀ b=none
 bsz:X.base.objs.size<=X.s₀.heap.objs.size
 noex:∀b o,X.base.get? b=some o->b∉X.ex
 exfs:∀b∈X.ex,b∉X.fs
 funs:X.s₀.heap.FunFrames X.base X.outer
 frf:∀b∈X.fs,X.H₀ b=none
structure Inv(X:Cx)(pins:bn)(σ:List (Option V))(H:Hp)(s:RK):Prop where
 ok:X.Ok
 os:s.os=X.s₀.os
 bare:AllBare s.gens
 base:Un X.fs X.ex X.H₀ H X.s₀.heap s.heap
 loc:∃m,s.heap.Ns X.env.locals m/\∀(i:Nat)(x:Str)(v:V),X.N[i]?=some x->σ[i]?=some (some v)->FU X.env.scope x->∃u,RelV v u/\Look X.env s.heap m x u
 cell:∀x c,X.env.cells.lookup x=some c->∃v,s.heap.IsCell c v
 free:H X.env.locals=none
 freeC:∀x c,X.env.cells.lookup x=some c->H c=none
 pin:∀p∈X.pn++pins,s.heap.get? p.1=some p.2/\H p.1=none/\p.1≠X.env.locals/\p.1∉X.fs/\∀v,p.2.data≠.cell v
 hok:nH X.prog X.w H s.heap
 len:σ.length=X.N.length
section
variable{X:Cx}{pins:bn}{σ:List (Option V)}{H H':Hp}{s:RK}{h':RN}
theorem Cx.Ok.nofr(ok:X.Ok){b:RG}{o:Obj}(e:X.base.get? b=some o):b∉X.fs:=λhb=>by
 have:=(ok.funs.mem hb).1
 rw[e]at this;cases this
theorem Inv.bs(I:Inv X pins σ H s):∀b o,X.base.get? b=some o->s.heap.get? b=some o/\H b=none:=λb o e=>
 ⟨I.base.keep b o (I.ok.bs b o e).1 (I.ok.bs b o e).2 (I.ok.nofr e) (I.ok.noex b o e),I.base.free b o (I.ok.bs b o e).1 (I.ok.bs b o e).2 (I.ok.noex b o e)⟩
theorem Inv.bk(I:Inv X pins σ H s):∀b o,X.base.get? b=some o->s.heap.get? b=some o:=λb o e=>(I.bs b o e).1
theorem Inv.mod(I:Inv X pins σ H s):Mod X.K X.mg X.base:=I.ok.mod
theorem Inv.kIn(I:Inv X pins σ H s):X.K.In s.heap:=I.ok.mod.kin.keeps I.bk
theorem Inv.nolimit(I:Inv X pins σ H s):s.heap.NoLimit:=I.ok.mod.nolimit.keeps I.bk
theorem Inv.lt(I:Inv X pins σ H s):X.env.locals<s.heap.objs.size:=let ⟨_,hn,_⟩:=I.loc;hn.lt
theorem Inv.sz(I:Inv X pins σ H s):X.s₀.heap.objs.size<=s.heap.objs.size:=Nc I.ok.above (Nf I.lt)
theorem Inv.nofs(I:Inv X pins σ H s){a:RG}(h:s.heap.objs.size<=a):a∉X.fs:=λhb=>by
 obtain⟨_,o,ho,_⟩:=I.ok.funs.mem hb;exact absurd (M8 (Rf ho) (Nc I.sz h)) (M9 _)
theorem Inv.cne(I:Inv X pins σ H s):∀x c,X.env.cells.lookup x=some c->c≠X.env.locals:=λx c e z=>by
 obtain⟨v,o,ho,hd⟩:=I.cell x c e;obtain⟨m,⟨o',es,ep,ho',hd',_⟩,_⟩:=I.loc;rw[z,ho']at ho;cases ho;rw[hd']at hd;cases hd
theorem Inv.funs(I:Inv X pins σ H s):s.heap.FunFrames X.base X.outer:=by
 have all:∀(l:List Env),(∀b∈frs l,b∈X.fs)->X.s₀.heap.FunFrames X.base l->s.heap.FunFrames X.base l:=by
  intro l
  induction l with
  |nil=>intro _ _;trivial
  |cons env r ih=>
   intro hs hl;obtain⟨hk,⟨L,o,hf,hn,ho,hd⟩,hr⟩:=hl;have hL:L∈X.fs:=hs L (by unfold frs;rw[Ng,hf];exact Nh);obtain⟨sl,e⟩:=I.base.slot L o ho (I.ok.frf L hL) hL λz=>I.ok.exfs L z hL;exact⟨hk,⟨L,_,hf,hn,e,hd⟩,ih (λb hb=>hs b (by unfold frs;rw[Ng,hf];exact Ni _ hb)) hr⟩
 exact all X.outer (λ_ hb=>hb) I.ok.funs
theorem Inv.stack(I:Inv X pins σ H s):s.heap.FunFrames X.base X.stack:=by
 rcases I.ok.stk with e|⟨e,hf⟩
 ·rw[e];exact I.funs
 ·rw[e];obtain⟨m,hn,_⟩:=I.loc;refine .cons (by rw[I.ok.kind];decide) hf hn ?_ I.funs;exact Rg (Nc I.ok.bsz I.ok.above)
theorem Inv.stkSub(I:Inv X pins σ H s):∀b∈frs X.stack,b∈X.env.locals::X.fs:=λb hb=>by
 rcases I.ok.stk with e|⟨e,hf⟩
 ·rw[e]at hb;exact Ni _ hb
 ·rw[e]at hb;unfold frs at hb;rw[Ng,hf]at hb;exact hb
theorem Inv.stkFree(I:Inv X pins σ H s):∀b∈frs X.stack,H b=none:=λb hb=>by
 rcases List.mem_cons.mp (I.stkSub b hb)with e|hb
 ·rw[e];exact I.free
 ·obtain⟨_,o,ho,_⟩:=I.ok.funs.mem hb;exact I.base.free b o ho (I.ok.frf b hb) λz=>I.ok.exfs b z hb
theorem Inv.step{g':Array GenState}{t':Nat}{d':Drawn}{ch:aF}(I:Inv X pins σ H s)
  (hch:∀b∈ch,(b∈X.ex\/X.s₀.heap.objs.size<=b)/\b≠X.env.locals/\(∀x c,X.env.cells.lookup x=some c->c≠b)/\∀p∈X.pn++pins,p.1≠b)
  (keep:∀b o,b≠X.env.locals->b∉X.fs->b∉ch->s.heap.get? b=some o->H b=none->h'.get? b=some o)
  (slot:∀b o,b≠X.env.locals->b∈X.fs->b∉ch->s.heap.get? b=some o->H b=none->∃sl,h'.get? b=some {o with slots:=sl}) (free:∀b o,b∉ch->s.heap.get? b=some o->H b=none->H' b=none)
  (there:∀b o,b∉ch->s.heap.get? b=some o->∃o',h'.get? b=some o')
  (tups:∀b xs,H b=some (.tup xs)->H' b=some (.tup xs)) (frzs:∀b o u,H b=some (.frz o u)->H' b=some (.frz o u)) (tbls:∀b ps,H b=some (.tbl ps)->∃more,H' b=some (.tbl (ps++more)))
  (ns:∀m,s.heap.Ns X.env.locals m->h'.Ns X.env.locals m) (hok:nH X.prog X.w H' h') (hg:AllBare g'):
  Inv X pins σ H' {s with heap:=h',gens:=g',drawn:=d',toks:=t'}:=by
 have neL:∀b o,X.s₀.heap.get? b=some o->b≠X.env.locals:=λb o e=>Nb (M8 (Rf e) I.ok.above);have neC:∀b o,X.s₀.heap.get? b=some o->b∉X.ex->b∉ch:=λb o e hx hb=>by
  rcases(hch b hb).1 with z|z
  ·exact hx z
  ·exact absurd (M8 (Rf e) z) (M9 _)
 have cellK:∀x c,X.env.cells.lookup x=some c->∀v,s.heap.IsCell c v->h'.IsCell c v:=λx c e v ⟨o,ho,hd⟩=>by
  have nch:c∉ch:=λz=>(hch c z).2.2.1 x c e rfl;by_cases hc:c∈X.fs
  ·obtain⟨sl,q⟩:=slot c o (I.cne x c e) hc nch ho (I.freeC x c e);exact⟨_,q,hd⟩
  ·exact⟨o,keep c o (I.cne x c e) hc nch ho (I.freeC x c e),hd⟩
 refine⟨I.ok,I.os,hg,⟨λb o e n hb hx=>?_,λb o e n hb hx=>?_,λb o e n hx=>?_,λb o e hx=>?_,λb xs e=>tups b xs (I.base.tups b xs e),λb o xs e=>frzs b o xs (I.base.frzs b o xs e),λb ps e=>?_⟩,?_,λx c e=>?_,?_,λx c e=>?_,λp hp=>?_,hok,I.len⟩
 ·exact keep b o (neL b o e) hb (neC b o e hx) (I.base.keep b o e n hb hx) (I.base.free b o e n hx)
 ·obtain⟨sl,e1⟩:=I.base.slot b o e n hb hx;obtain⟨sl',e2⟩:=slot b _ (neL b o e) hb (neC b o e hx) e1 (I.base.free b o e n hx);exact⟨sl',e2⟩
 ·obtain⟨o',e1⟩:=I.base.there b o e hx;exact free b o' (neC b o e hx) e1 (I.base.free b o e n hx)
 ·obtain⟨o',e1⟩:=I.base.there b o e hx;exact there b o' (neC b o e hx) e1
 ·obtain⟨m1,e1⟩:=I.base.tbls b ps e;obtain⟨m2,e2⟩:=tbls b _ e1;exact⟨m1++m2,by rw[e2,Array.append_assoc]⟩
 ·obtain⟨m,hn,hl⟩:=I.loc;refine⟨m,ns m hn,λi x v e1 e2 e3=>?_⟩;obtain⟨u,r,l⟩:=hl i x v e1 e2 e3;refine⟨u,r,?_⟩;rcases l with l|⟨k,c,e,z⟩
  ·exact .inl l
  ·exact .inr ⟨k,c,e,cellK x c e _ z⟩
 ·obtain⟨v,z⟩:=I.cell x c e;exact⟨v,cellK x c e v z⟩
 ·obtain⟨m,⟨o,_,_,ho,_⟩,_⟩:=I.loc;exact free _ o (λz=>(hch _ z).2.1 rfl) ho I.free
 ·obtain⟨v,o,ho,hd⟩:=I.cell x c e;exact free c o (λz=>(hch c z).2.2.1 x c e rfl) ho (I.freeC x c e)
 ·obtain⟨e,n,ne,nf,d⟩:=I.pin p hp;have nch:p.1∉ch:=λz=>(hch p.1 z).2.2.2 p hp rfl;exact⟨keep p.1 p.2 ne nf nch e n,free p.1 p.2 nch e n,ne,nf,d⟩
theorem Inv.un{t':Nat}(I:Inv X pins σ H s)(u:Un X.fs [] H H' s.heap h')(hok:nH X.prog X.w H' h'):Inv X pins σ H' {s with heap:=h',toks:=t'}:=by
 obtain⟨m,⟨o,es,ep,ho,r⟩,_⟩:=id I.loc;obtain⟨sl,hL⟩:=u.any ho I.free (by simp);exact I.step (g':=s.gens) (d':=s.drawn) (ch:=[]) (λ_ z=>nomatch z) (λb o _ hb _ e n=>u.keep b o e n hb (by simp)) (λb o _ hb _ e n=>u.slot b o e n hb (by simp)) (λb o _ e n=>u.free b o e n (by simp)) (λb o _ e=>u.there b o e (by simp)) u.tups u.frzs u.tbls (λm' hm=>by
  obtain⟨o',es',ep',ho',r'⟩:=hm;rw[ho]at ho';cases ho';exact⟨_,es',ep',hL,r'⟩) hok I.bare
theorem Inv.call{g':Array GenState}{t':Nat}{d':Drawn}{ch:aF}(I:Inv X pins σ H s)(u:Un (frs X.stack) ch H H' s.heap h')(hok:nH X.prog X.w H' h')(hg:AllBare g')
  (hch:∀b∈ch,(b∈X.ex\/X.s₀.heap.objs.size<=b)/\b≠X.env.locals/\(∀x c,X.env.cells.lookup x=some c->c≠b)/\∀p∈X.pn++pins,p.1≠b):
  Inv X pins σ H' {s with heap:=h',gens:=g',drawn:=d',toks:=t'}:=by
 obtain⟨m,⟨o,es,ep,ho,r⟩,_⟩:=id I.loc;obtain⟨sl,hL⟩:=u.any ho I.free λz=>(hch _ z).2.1 rfl;exact I.step (ch:=ch) hch (λb o hL hb hc e n=>u.keep b o e n (λz=>(List.mem_cons.mp (I.stkSub b z)).elim hL hb) hc) (λb o _ _ hc e n=>u.any e n hc) (λb o hc e n=>u.free b o e n hc) (λb o hc e=>u.there b o e hc) u.tups u.frzs u.tbls (λm' hm=>by
  obtain⟨o',es',ep',ho',r'⟩:=hm;rw[ho]at ho';cases ho';exact⟨_,es',ep',hL,r'⟩) hok hg
theorem Inv.turned{t':Nat}{it:RG}(I:Inv X pins σ H s)(k:∀b o,b≠it->s.heap.get? b=some o->h'.get? b=some o)(hn:H it=none)(hL:it≠X.env.locals)
  (h1:it∈X.ex\/X.s₀.heap.objs.size<=it) (h2:∀x c,X.env.cells.lookup x=some c->c≠it) (h3:∀p∈X.pn++pins,p.1≠it):Inv X pins σ H {s with heap:=h',toks:=t'}:=by
 have nit:∀b u,H b=some u->b≠it:=λb u e z=>by rw[z,hn]at e;cases e
 refine I.step (g':=s.gens) (d':=s.drawn) (ch:=[it]) (λb hb=>?_) (λb o _ _ hc e _=>k b o (λz=>hc (by simp[z])) e) (λb o _ _ hc e _=>⟨o.slots,k b o (λz=>hc (by simp[z])) e⟩) (λ_ _ _ _ n=>n)
  (λb o hc e=>⟨o,k b o (λz=>hc (by simp[z])) e⟩) (λ_ _ e=>e) (λ_ _ _ e=>e) (λb ps e=>⟨#[],by rw[e];simp⟩) (λm hm=>?_) (λb u e=>?_) I.bare
 ·have e:b=it:=by simpa using hb
  subst e;exact⟨h1,hL,h2,h3⟩
 ·obtain⟨o,es,ep,ho,r⟩:=hm;exact⟨o,es,ep,k _ o (Ne.symm hL) ho,r⟩
 ·refine(I.hok b u e).stay (λc v hc q=>k c v ?_ q) (λ_ q=>q) λ_ _ q=>q;rcases hc with z|z
  ·rw[z];exact nit b u e
  ·exact nit c _ z
theorem Inv.tok(I:Inv X pins σ H s)(t:Nat):Inv X pins σ H {s with toks:=t}:=I.un (h':=s.heap) (t':=t) Un.refl I.hok
theorem Inv.kept{t':Nat}(I:Inv X pins σ H s)(k:∀b u,s.heap.get? b=some u->h'.get? b=some u):Inv X pins σ H {s with heap:=h',toks:=t'}:=I.un (Un.kept k) (I.hok.kept k)
theorem Inv.laid{a:RG}{o:HO}{t':Nat}(I:Inv X pins σ H s)(k:∀b u,s.heap.get? b=some u->h'.get? b=some u)(hp:s.heap.objs.size<=a)(new:dE X.prog X.w (upd H a o) h' a o):
  Inv X pins σ (upd H a o) {s with heap:=h',toks:=t'}:=I.un (Un.laid k hp (I.hok.fresh hp)) (I.hok.laid k hp new)
theorem Inv.write{x e:RG}{o:HO}{t':Nat}(I:Inv X pins σ H s)(mu:JI (H x))(he:e=x\/H e=some (.own x))(k:∀b u,b≠e->s.heap.get? b=some u->h'.get? b=some u)(heo:∃u,h'.get? e=some u)
  (new:dE X.prog X.w (upd H x o) h' x o):Inv X pins σ (upd H x o) {s with heap:=h',toks:=t'}:=I.un (Un.write mu he k heo) (I.hok.write mu he k heo new)
theorem Inv.pins_of{pins':bn}(I:Inv X pins σ H s)(h:∀p∈pins',s.heap.get? p.1=some p.2/\H p.1=none/\p.1≠X.env.locals/\p.1∉X.fs/\∀v,p.2.data≠.cell v):Inv X pins' σ H s:=
 ⟨I.ok,I.os,I.bare,I.base,I.loc,I.cell,I.free,I.freeC,λp hp=>(List.mem_append.mp hp).elim (λz=>I.pin p (Nj _ z)) (h p),I.hok,I.len⟩
theorem tS{N:au}(hN:N.Nodup){i j:Nat}{x:Str}(a:N[i]?=some x)(b:N[j]?=some x):i=j:=by
 obtain⟨h1,e1⟩:=List.getElem?_eq_some_iff.mp a;obtain⟨h2,e2⟩:=List.getElem?_eq_some_iff.mp b;exact(List.getElem_inj hN).mp (e1.trans e2.symm)
theorem oZ{M:RX}{A:RV}{E:bD}{i:Nat}{x:Str}{v:V}{u:RE}{Q:Unit->dD}(I:Inv X pins σ H s)(hN:X.N.Nodup)(hi:X.N[i]?=some x)(hx:Loc X.env.scope x)(r:RelV v u)
  (h:∀s',Inv X pins (σ.set i (some v)) H s'->(∃a,Rh a s.heap s'.heap/\(a=X.env.locals\/X.env.cells.lookup x=some a))->Q () s') (hf:X.fn x=true\/X.env.scope.names.lookup x=some .local:=by first|exact .inl rfl|exact .inr rfl|assumption):RY M A (storeName X.env x u) Q E s:=by
 obtain⟨m,hn,hl⟩:=id I.loc;have hcls:(X.env.scope.kind==.class||(X.env.scope.kind==.module&&X.env.locals !=X.env.globals))=false:=by rw[I.ok.kind];rfl
 have hiσ:i<σ.length:=by rw[I.len];exact(List.getElem?_eq_some_iff.mp hi).1
 have cne:=I.cne;have tracked:∀{a:RG}{h':RN},(∃o,s.heap.get? a=some o/\H a=none)->Rh a s.heap h'->nH X.prog X.w H h':=λ{a h'} ha hs b ob e=>by
  obtain⟨_,_,hfree⟩:=ha;refine(I.hok b ob e).stay (λc w' hc q=>(hs.2 c ?_).trans q) (λ_ q=>q) λ_ _ q=>q;rintro rfl;rcases hc with rfl|hc
  ·rw[hfree]at e;cases e
  ·rw[hfree]at hc;cases hc
 rcases hx with hk|hk
 ·refine wpAny_storeName_local hk hn (λh' hn' hs=>?_) hcls;obtain⟨oL,_,_,hoL,_⟩:=id hn;refine h _ ⟨I.ok,I.os,I.bare,⟨λb o e n hb hx=>?_,λb o e n hb hx=>?_,I.base.free,λb o e hx=>?_,I.base.tups,I.base.frzs,I.base.tbls⟩,⟨_,hn',λj y v' e1 e2 e3=>?_⟩,λy c e=>?_,I.free,I.freeC,λp hp=>?_,tracked ⟨oL,hoL,I.free⟩ hs,by simpa using I.len⟩ ⟨_,hs,.inl rfl⟩
  ·exact(hs.2 b (Nb (M8 (Rf e) I.ok.above))).trans (I.base.keep b o e n hb hx)
  ·obtain⟨sl,e1⟩:=I.base.slot b o e n hb hx;exact⟨sl,(hs.2 b (Nb (M8 (Rf e) I.ok.above))).trans e1⟩
  ·obtain⟨o',e1⟩:=I.base.there b o e hx;exact⟨o',(hs.2 b (Nb (M8 (Rf e) I.ok.above))).trans e1⟩
  ·by_cases hj:j=i
   ·subst hj;rw[hi]at e1;cases e1;rw[Nk hiσ]at e2;cases e2;exact⟨u,r,.inl ⟨hk,by simp⟩⟩
   ·rw[Nm (Ne.symm hj)]at e2;obtain⟨u',r',q⟩:=hl j y v' e1 e2 e3;refine⟨u',r',?_⟩;rcases q with⟨k,e⟩|⟨k,c,e,z⟩
    ·refine .inl ⟨k,?_⟩
     have:y≠x:=λe=>hj (tS hN e1 (e ▸ hi))
     simp[this,e]
    ·exact .inr ⟨k,c,e,z.sameBut hs (cne y c e)⟩
  ·obtain⟨w',z⟩:=I.cell y c e;exact⟨w',z.sameBut hs (cne y c e)⟩
  ·obtain⟨e,n,ne,nf,d⟩:=I.pin p hp;exact⟨(hs.2 p.1 ne).trans e,n,ne,nf,d⟩
 ·have hfn:X.fn x=true:=by
   rcases hf with z|z
   ·exact z
   ·rw[z]at hk;cases hk
  obtain⟨c,hc⟩:=I.ok.has x (.inl hk);obtain⟨w',z⟩:=I.cell x c hc;refine wpAny_storeName_cell I.ok.kind hk hc z (λh' hc' hs=>?_);obtain⟨oc,hoc,hocd⟩:=id z;refine h {s with heap:=h'} ⟨I.ok,I.os,I.bare,⟨λb o e n hb hx=>?_,λb o e n hb hx=>?_,I.base.free,λb o e hx=>?_,I.base.tups,I.base.frzs,I.base.tbls⟩,⟨m,hn.sameBut hs (Ne.symm (cne x c hc)),λj y v' e1 e2 e3=>?_⟩,λy c' e=>?_,I.free,I.freeC,λp hp=>?_,tracked ⟨oc,hoc,I.freeC x c hc⟩ hs,by simpa using I.len⟩ ⟨c,hs,.inr hc⟩
  ·exact(hs.2 b (Nb (M8 (Rf e) (I.ok.cab x c hfn hc)))).trans (I.base.keep b o e n hb hx)
  ·obtain⟨sl,e1⟩:=I.base.slot b o e n hb hx;exact⟨sl,(hs.2 b (Nb (M8 (Rf e) (I.ok.cab x c hfn hc)))).trans e1⟩
  ·obtain⟨o',e1⟩:=I.base.there b o e hx;exact⟨o',(hs.2 b (Nb (M8 (Rf e) (I.ok.cab x c hfn hc)))).trans e1⟩
  ·by_cases hj:j=i
   ·subst hj;rw[hi]at e1;cases e1;rw[Nk hiσ]at e2;cases e2;exact⟨u,r,.inr ⟨.inl hk,c,hc,hc'⟩⟩
   ·rw[Nm (Ne.symm hj)]at e2;obtain⟨u',r',q⟩:=hl j y v' e1 e2 e3;refine⟨u',r',?_⟩;rcases q with q|⟨k,c',e,z'⟩
    ·exact .inl q
    ·refine .inr ⟨k,c',e,z'.sameBut hs ?_⟩;rintro rfl;exact hj (tS hN e1 (I.ok.inj _ _ _ e hc ▸ hi))
  ·by_cases hcc:c'=c
   ·subst hcc;exact⟨_,hc'⟩
   ·obtain⟨w2,z2⟩:=I.cell y c' e;exact⟨w2,z2.sameBut hs hcc⟩
  ·obtain⟨e,n,ne,nf,d⟩:=I.pin p hp;refine⟨(hs.2 p.1 ?_).trans e,n,ne,nf,d⟩;intro q;rw[q,hoc]at e;have q':oc=p.2:=Option.some.inj e;exact d w' (by rw[<-q'];exact hocd)
theorem sE{M:RX}{A:RV}{E:bD}{i:Nat}{x:Str}{v:V}{u:RE}{Q:Unit->dD}(I:Inv X pins σ H s)(hN:X.N.Nodup)(hi:X.N[i]?=some x)(hx:Loc X.env.scope x)(r:RelV v u)
  (h:∀s',Inv X pins (σ.set i (some v)) H s'->Q () s') (hf:X.fn x=true\/X.env.scope.names.lookup x=some .local:=by first|exact .inl rfl|exact .inr rfl|assumption):RY M A (storeName X.env x u) Q E s:=
 oZ I hN hi hx r (λs' I' _=>h s' I') hf
theorem Inv.call'{s':RK}{ch:aF}(I:Inv X pins σ H s)(ho:s'.os=s.os)(u:Un (frs X.stack) ch H H' s.heap s'.heap)(hok:nH X.prog X.w H' s'.heap)(hg:AllBare s'.gens)
  (hch:∀b∈ch,(b∈X.ex\/X.s₀.heap.objs.size<=b)/\b≠X.env.locals/\(∀x c,X.env.cells.lookup x=some c->c≠b)/\∀p∈X.pn++pins,p.1≠b):Inv X pins σ H' s':=by
 obtain⟨h',g',d',t',o'⟩:=s';have e:o'=s.os:=ho;subst e;exact I.call (g':=g') (t':=t') (d':=d') u hok hg hch
end
noncomputable abbrev XK:=RE->Option RG->Hp->Prop
noncomputable abbrev St:=List (Option V)
noncomputable abbrev VK:=V->Hp->Prop
noncomputable abbrev TE:=St->Hp->VK->Prop
noncomputable abbrev TT:=St->Hp->(Bool->Hp->Prop)->Prop
noncomputable abbrev TA:=St->Hp->(aH->Hp->Prop)->Prop
structure Ends where
 nx:St->Hp->Prop
 rt:VK
 bk:St->Hp->Prop:=λ_ _=>False
 ct:St->Hp->Prop:=λ_ _=>False
noncomputable abbrev TS:=Ends->St->Hp->Prop
noncomputable def EP(X:Cx)(pins:bn)(σ:St)(Q:VK)(u:RE)(s':RK):Prop:=∃v H',Inv X pins σ H' s'/\RelV v u/\Q v H'
noncomputable def TP(X:Cx)(pins:bn)(σ:St)(Q:Bool->Hp->Prop)(b:Bool)(s':RK):Prop:=∃H',Inv X pins σ H' s'/\Q b H'
noncomputable def AP(X:Cx)(pins:bn)(σ:St)(Q:aH->Hp->Prop)(us:aU)(s':RK):Prop:=∃vs H',Inv X pins σ H' s'/\Vals vs us/\Q vs H'
noncomputable def SP(X:Cx)(pins:bn)(D:Ends)(f:Flow)(s':RK):Prop:=
 match f with
 |.next=>∃σ' H',Inv X pins σ' H' s'/\D.nx σ' H'
 |.brk=>∃σ' H',Inv X pins σ' H' s'/\D.bk σ' H'
 |.cont=>∃σ' H',Inv X pins σ' H' s'/\D.ct σ' H'
 |.ret u=>∃v σ' H',Inv X pins σ' H' s'/\RelV v u/\D.rt v H'
noncomputable def PE(X:Cx)(e:RH)(t:TE):Prop:=
 ∀(pins:bn)(s:RK)(σ:St)(H:Hp)(Q:VK),Inv X pins σ H s->t σ H Q->RY (model X.prog X.w) X.A (eval e X.env) (EP X pins σ Q) X.xe s
noncomputable def PT(X:Cx)(e:RH)(t:TT):Prop:=
 ∀(pins:bn)(s:RK)(σ:St)(H:Hp)(Q:Bool->Hp->Prop),Inv X pins σ H s->t σ H Q->RY (model X.prog X.w) X.A (isTrue e X.env (eval e X.env)) (TP X pins σ Q) X.xe s
noncomputable def PW(X:Cx)(e:RH)(t:TT):Prop:=
 ∀(whole:Sem RE)(pins:bn)(s:RK)(σ:St)(H:Hp)(Q:Bool->Hp->Prop),Inv X pins σ H s->t σ H Q->RY (model X.prog X.w) X.A (isTrue e X.env whole) (TP X pins σ Q) X.xe s
theorem PW.pt{X:Cx}{e:RH}{t:TT}(h:PW X e t):PT X e t:=h _
noncomputable def PA(X:Cx)(es:bA)(t:TA):Prop:=
 ∀(pos:Pos)(pins:bn)(s:RK)(σ:St)(H:Hp)(Q:aH->Hp->Prop),Inv X pins σ H s->t σ H Q->RY (model X.prog X.w) X.A (spliced (backTo pos (RZ es X.env))) (AP X pins σ Q) X.xe s
noncomputable def PS(X:Cx)(st:RJ)(t:TS):Prop:=
 ∀(pins:bn)(s:RK)(σ:St)(H:Hp)(D:Ends),Inv X pins σ H s->t D σ H->RY (model X.prog X.w) X.A (exec st X.env) (SP X pins D) X.xe s
noncomputable def oV(X:Cx)(st:dM)(t:TS):Prop:=
 ∀(pins:bn)(s:RK)(σ:St)(H:Hp)(D:Ends),Inv X pins σ H s->t D σ H->RY (model X.prog X.w) X.A (execs st X.env) (SP X pins D) X.xe s
theorem cN{α:Type}{t:Sem α}{Q Q':α->dD}{M:RX}{A:RV}{E:bD}{s:RK}(h:RY M A t Q E s)(hQ:∀a s,Q a s->Q' a s):RY M A t Q' E s:=R0 h hQ λ_ _ x=>x
section
variable{X:Cx}
noncomputable def rG(i:Nat):TE:=λσ H Q=>∃v,σ[i]?=some (some v)/\Q v H
noncomputable def tC(v:V):TE:=λ_ H Q=>Q v H
theorem Gz{i:Nat}{x:Str}{pos:Pos}(hN:X.N[i]?=some x)(hv:FU X.env.scope x)(hd:(x==("__debug__":Str))=false:=by decide)(hcd:(x==("__classdict__":Str))=false:=by decide):PE X (.Name x pos) (rG i):=by
 intro pins s σ H Q I h;obtain⟨v,e,h⟩:=h;obtain⟨m,hn,hl⟩:=I.loc;obtain⟨u,r,l⟩:=hl i x v hN e hv;have fin:EP X pins σ Q u s:=⟨v,H,I,r,h⟩
 rcases l with⟨hk,hm⟩|⟨hk,c,hc,hcell⟩
 ·exact R1 (wpAny_loadName_local I.ok.kind hk hn hm fin) hd
 ·rcases hk with hk|hk
  ·exact R1 (wpAny_loadName_cell I.ok.kind hk hc hcell fin) hd
  ·exact R1 (wpAny_loadName_free I.ok.kind hk hc hcell fin hcd) hd
theorem Hv{i j pos}:PE X (.Constant (.int i) j pos) (tC (.int i)):=λ_ _ _ H _ I h=>wpAny_Constant_int ⟨.int i,H,I.tok _,⟨_,rfl⟩,h⟩
theorem HP{b j pos}:PE X (.Constant (.bool b) j pos) (tC (.bl b)):=λ_ _ _ H _ I h=>Constant_bool ⟨.bl b,H,I,rfl,h⟩
theorem GB{j pos}:PE X (.Constant .none j pos) (tC .non):=λ_ _ _ H _ I h=>R3 ⟨.non,H,I,rfl,h⟩
theorem Gq{x j pos}:PE X (.Constant (.str x) j pos) (tC (.str x)):=λ_ _ _ H _ I h=>Calls.Constant_str ⟨.str x,H,I.tok _,⟨_,rfl⟩,h⟩
noncomputable def Gl(X:Cx)(x:Str):Prop:=X.env.kindOf x=some .globalImplicit
theorem jt{E:bD}{pins:bn}{s:RK}{σ:St}{H:Hp}{x:Str}{u:RE}{pos:Pos}{Q:bD}(I:Inv X pins σ H s)(hg:Gl X x)(hm:X.mg x=some u)(h:Q u s)
  (hd:(x==("__debug__":Str))=false:=by decide):RY (model X.prog X.w) X.A (eval (.Name x pos) X.env) Q E s:=
 Calls.Name_function_global I.ok.kind hg (Calls.loadGlobal_global (by rw[I.ok.glob];exact I.mod.glob.keeps I.bk) hm h) hd
theorem gV{E:bD}{pins:bn}{s:RK}{σ:St}{H:Hp}{x:Str}{u:RE}{pos:Pos}{Q:bD}(I:Inv X pins σ H s)(hg:Gl X x)(hm:X.mg x=none)(hv:RU x=some u)(h:Q u s)
  (hn:x≠"__name__":=by decide) (hd:(x==("__debug__":Str))=false:=by decide):RY (model X.prog X.w) X.A (eval (.Name x pos) X.env) Q E s:=by
 obtain⟨mb,h1,h2⟩:=I.mod.blt;exact Calls.Name_function_global I.ok.kind hg (Calls.loadGlobal_builtin (by rw[I.ok.glob];exact I.mod.glob.keeps I.bk) hm (by rw[I.ok.blt];exact h1.keeps I.bk) ((h2 x hn).trans hv) h) hd
theorem Cq{x:Str}{v:V}{u:RE}{pos:Pos}(hg:Gl X x)(hm:X.mg x=some u)(r:RelV v u)(hd:(x==("__debug__":Str))=false:=by decide):PE X (.Name x pos) (tC v):=
 λ_ _ _ H _ I h=>jt I hg hm ⟨v,H,I,r,h⟩ hd
theorem C9{x:Str}{v:V}{u:RE}{pos:Pos}(hg:Gl X x)(hm:X.mg x=none)(hv:RU x=some u)(r:RelV v u)(hn:x≠"__name__":=by decide)(hd:(x==("__debug__":Str))=false:=by decide):PE X (.Name x pos) (tC v):=
 λ_ _ _ H _ I h=>gV I hg hm hv ⟨v,H,I,r,h⟩ hn hd
variable{a b:RH}{ta tb:TE}{pos:Pos}
noncomputable def PC(X:Cx)(op:R4)(a b:RH)(t:TE):Prop:=
 ∀(pins:bn)(s:RK)(σ:St)(H:Hp)(Q:VK),Inv X pins σ H s->t σ H Q->
  RY (model X.prog X.w) X.A (eval a X.env) (λv s₁=>RY (model X.prog X.w) X.A (eval b X.env) (λu s₂=>RY (model X.prog X.w) X.A (R5 op v u) (EP X pins σ Q) X.xe s₂) X.xe s₁) X.xe s
theorem sW(b:RH){op:R4}(h:op≠.In)(h2:op≠.NotIn):R6 op b=false:=by
 have e1:(op==CmpOp.In)=false:=by cases op<;>first|rfl|exact absurd rfl h
 have e2:(op==CmpOp.NotIn)=false:=by cases op<;>first|rfl|exact absurd rfl h2
 cases b<;>simp[R6,e1,e2]
noncomputable def J7(ta:TE):TE:=λσ H Q=>ta σ H λx H1=>Q (.bl (decide (x=.non))) H1
noncomputable def HM(ta:TE):TE:=λσ H Q=>ta σ H λx H1=>Q (.bl (!decide (x=.non))) H1
theorem RelV.none_iff{x:V}{v:RE}(r:RelV x v):(v==Value.none)=decide (x=.non):=by
 cases x with
 |non=>cases r;rfl
 |bl _=>cases r;rfl
 |int _=>obtain⟨t,rfl⟩:=r;rfl
 |str _=>obtain⟨t,rfl⟩:=r;rfl
 |byt _=>obtain⟨t,rfl⟩:=r;rfl
 |flt _=>obtain⟨t,rfl⟩:=r;rfl
 |ref _=>cases r;rfl
 |ty _=>cases r;rfl
theorem zI{j pos'}(ha:PE X a ta):PC X .Is a (.Constant .none j pos') (J7 ta):=by
 intro pins s σ H Q I h;refine cN (ha pins s σ H _ I h) λv s1 ⟨x,H1,I1,r1,q1⟩=>?_;exact R3 (is_none_gen ⟨.bl _,H1,I1,by rw[r1.none_iff];rfl,q1⟩)
theorem xc{j pos'}(ha:PE X a ta):PC X .IsNot a (.Constant .none j pos') (HM ta):=by
 intro pins s σ H Q I h;refine cN (ha pins s σ H _ I h) λv s1 ⟨x,H1,I1,r1,q1⟩=>?_;exact R3 (isnot_none_gen ⟨.bl _,H1,I1,by rw[r1.none_iff];rfl,q1⟩)
noncomputable def tB(t:TE):TT:=λσ H Q=>t σ H λx H1=>∃c,x=.bl c/\Q c H1
theorem Ak{op:R4}{t:TE}(h:PC X op a b t)(h1:R6 op b=false:=by first|exact sW _ (by decide) (by decide)|rfl):PE X (.Compare a [op] [b] pos) t:=λpins s σ H Q I hw=>wpAny_Compare1 (h pins s σ H Q I hw) h1
theorem yU{op:R4}{t:TE}(h:PC X op a b t)(h1:R6 op b=false:=by first|exact sW _ (by decide) (by decide)|rfl):PT X (.Compare a [op] [b] pos) (tB t):=by
 intro pins s σ H Q I hw;refine wpAny_isTrue_Compare1 (cN (h pins s σ H _ I hw) λv s1 h1=>cN h1 λu s2 h2=>cN h2 λc s3 ⟨x,H1,I1,r1,q1⟩=>?_) h1;obtain⟨d,rfl,q⟩:=q1;cases r1;exact R7 ⟨H1,I1,q⟩
variable{tA tB':TT}{rest:bA}
noncomputable def JU(t u:TT):TT:=λσ H Q=>t σ H λc H1=>if c=true then u σ H1 Q else Q false H1
noncomputable def L6(t u:TT):TT:=λσ H Q=>t σ H λc H1=>if c=true then Q true H1 else u σ H1 Q
noncomputable def LK(t:TT):TT:=λσ H Q=>t σ H λc H1=>Q (!c) H1
theorem Dv(ha:PT X a tA):PW X (.BoolOp .And [a] pos) tA:=by
 intro wh pins s σ H Q I h;refine isTrue_and (cN (ha pins s σ H Q I h) λc s1 e=>?_);cases c with
 |true=>exact isTrue_and_nil e
 |false=>exact e
theorem Hl(ha:PT X a tA):PW X (.BoolOp .Or [a] pos) tA:=by
 intro wh pins s σ H Q I h;refine isTrue_or (cN (ha pins s σ H Q I h) λc s1 e=>?_);cases c with
 |false=>exact isTrue_or_nil e
 |true=>exact e
theorem Gv(ha:PT X a tA)(hb:PW X (.BoolOp .And (b::rest) pos) tB'):PW X (.BoolOp .And (a::b::rest) pos) (JU tA tB'):=by
 intro wh pins s σ H Q I h;refine isTrue_and (cN (ha pins s σ H _ I h) λc s1 ⟨H1,I1,q1⟩=>?_);cases c with
 |true=>exact hb wh pins s1 σ H1 Q I1 q1
 |false=>exact⟨H1,I1,q1⟩
theorem Jd(ha:PT X a tA)(hb:PW X (.BoolOp .Or (b::rest) pos) tB'):PW X (.BoolOp .Or (a::b::rest) pos) (L6 tA tB'):=by
 intro wh pins s σ H Q I h;refine isTrue_or (cN (ha pins s σ H _ I h) λc s1 ⟨H1,I1,q1⟩=>?_);cases c with
 |true=>exact⟨H1,I1,q1⟩
 |false=>exact hb wh pins s1 σ H1 Q I1 q1
theorem GH(ha:PT X a tA):PT X (.UnaryOp .Not a pos) (LK tA):=by
 intro pins s σ H Q I h;exact isTrue_not (ha pins s σ H (λc H1=>Q (!c) H1) I h)
noncomputable def HS(ta tb:TE):TE:=λσ H Q=>ta σ H λx H1=>∃c,x=.bl c/\if c=true then tb σ H1 Q else Q (.bl false) H1
noncomputable def J5(ta tb:TE):TE:=λσ H Q=>ta σ H λx H1=>∃c,x=.bl c/\if c=true then Q (.bl true) H1 else tb σ H1 Q
noncomputable def IE(ta:TE):TE:=λσ H Q=>ta σ H λx H1=>∃c,x=.bl c/\Q (.bl (!c)) H1
theorem Gp{op}{t:TE}(h:PE X a t):PE X (.BoolOp op [a] pos) t:=λpins s σ H Q I hw=>BoolOp_one (h pins s σ H Q I hw)
theorem GO(ha:PE X a ta)(hb:PE X (.BoolOp .And (b::rest) pos) tb):PE X (.BoolOp .And (a::b::rest) pos) (HS ta tb):=by
 intro pins s σ H Q I h;refine BoolOp_and (cN (ha pins s σ H _ I h) λv s1 ⟨x,H1,I1,r1,q1⟩=>?_);obtain⟨c,rfl,q1⟩:=q1;cases r1;refine R7 ?_;cases c with
 |true=>exact hb pins s1 σ H1 Q I1 q1
 |false=>exact⟨.bl false,H1,I1,rfl,q1⟩
theorem Ie(ha:PE X a ta)(hb:PE X (.BoolOp .Or (b::rest) pos) tb):PE X (.BoolOp .Or (a::b::rest) pos) (J5 ta tb):=by
 intro pins s σ H Q I h;refine BoolOp_or (cN (ha pins s σ H _ I h) λv s1 ⟨x,H1,I1,r1,q1⟩=>?_);obtain⟨c,rfl,q1⟩:=q1;cases r1;refine R7 ?_;cases c with
 |false=>exact hb pins s1 σ H1 Q I1 q1
 |true=>exact⟨.bl true,H1,I1,rfl,q1⟩
theorem Hg(ha:PE X a ta):PE X (.UnaryOp .Not a pos) (IE ta):=by
 intro pins s σ H Q I h;refine UnaryOp_ (cN (ha pins s σ H _ I h) λv s1 ⟨x,H1,I1,r1,q1⟩=>?_);obtain⟨c,rfl,q1⟩:=q1;cases r1;exact not_of (R7 ⟨.bl (!c),H1,I1,rfl,q1⟩)
noncomputable def L4(t:TT)(ta tb:TE):TE:=λσ H Q=>t σ H λc H1=>if c=true then ta σ H1 Q else tb σ H1 Q
theorem Ac{c:RH}(hc:PT X c tA)(ha:PE X a ta)(hb:PE X b tb):PE X (.IfExp c a b pos) (L4 tA ta tb):=by
 intro pins s σ H Q I h;refine wpAny_IfExp (cN (hc pins s σ H _ I h) λd s1 ⟨H1,I1,q1⟩=>?_);cases d with
 |true=>exact ha pins s1 σ H1 Q I1 q1
 |false=>exact hb pins s1 σ H1 Q I1 q1
end
noncomputable def jR(K:Qw)(H:Hp)(a:RG)(xs:aH):Prop:=
 Rd H a (.lst xs) \/
  ∃(o:Obj)(its:fJ)(n:Nat),K.lookup a=some o/\o.cls=.type "list"/\o.dict=none/\o.data=.seq its n/\its.size<=RO/\Vals xs its.toList
noncomputable def lZ(K:Qw)(H:Hp)(a:RG)(xs:aH):Prop:=
 Rd H a (.tup xs) \/
  ∃(o:Obj)(its:fJ)(n:Nat),K.lookup a=some o/\o.cls=.type "tuple"/\o.data=.seq its n/\its.size<=RO/\Vals xs its.toList
noncomputable def KG:RE->Option V
 |.none=>some .non
 |.bool b=>some (.bl b)
 |.int i _=>some (.int i)
 |.str x _=>some (.str x)
 |.bytes b _=>some (.byt b)
 |.float b _=>some (.flt b)
 |.ref a=>some (.ref a)
 |.type n=>some (.ty n)
 |_=>none
theorem RelV.abs{x:V}{u:RE}(r:RelV x u):KG u=some x:=by
 cases x with
 |non=>cases r;rfl
 |bl _=>cases r;rfl
 |int _=>obtain⟨t,rfl⟩:=r;rfl
 |str _=>obtain⟨t,rfl⟩:=r;rfl
 |byt _=>obtain⟨t,rfl⟩:=r;rfl
 |flt _=>obtain⟨t,rfl⟩:=r;rfl
 |ref _=>cases r;rfl
 |ty _=>cases r;rfl
theorem RelV.inj{x y:V}{u:RE}(r:RelV x u)(q:RelV y u):x=y:=Option.some.inj (r.abs.symm.trans q.abs)
theorem Vals.inj:∀{xs ys:aH}{us:aU},Vals xs us->Vals ys us->xs=ys
 |_,_,_,.nil,.nil=>rfl
 |_,_,_,.cons r t,.cons r' t'=>by rw[r.inj r',Vals.inj t t']
section
variable{X:Cx}{pins:bn}{σ:St}{H:Hp}{s:RK}{a:RG}{xs ys:aH}
theorem jR.of{K:Qw}(h:H a=some (.lst xs)):jR K H a xs:=.inl (.inl h)
theorem lZ.of{K:Qw}(h:H a=some (.tup xs)):lZ K H a xs:=.inl (.inl h)
theorem Inv.list(I:Inv X pins σ H s)(h:jR X.K H a xs):∃its:aU,Vals xs its/\PlainL s.heap a its.toArray/\xs.length<=RO:=by
 rcases h with h|⟨o,its,n,hk,hc,hd,hs,hz,r⟩
 ·obtain⟨z,its,n,r,e⟩:=h.ok I.hok;exact⟨its,r,⟨_,n,e,rfl,rfl,rfl⟩,z⟩
 ·refine⟨its.toList,r,⟨o,n,I.kIn a o hk,hc,hd,by simpa using hs⟩,?_⟩;have e:=r.length;simp only[Array.length_toList]at e;omega
theorem Inv.tuple(I:Inv X pins σ H s)(h:lZ X.K H a xs):∃its:aU,Vals xs its/\RP s.heap a its.toArray/\xs.length<=RO:=by
 rcases h with h|⟨o,its,n,hk,hc,hs,hz,r⟩
 ·obtain⟨z,its,r,p⟩:=h.ok I.hok;exact⟨its,r,p,z⟩
 ·refine⟨its.toList,r,⟨o,I.kIn a o hk,hc,n,by simpa using hs⟩,?_⟩;have e:=r.length;simp only[Array.length_toList]at e;omega
theorem Inv.list_inj(I:Inv X pins σ H s)(h:jR X.K H a xs)(h':jR X.K H a ys):xs=ys:=by
 obtain⟨its,r,⟨o,n,e,_,_,d⟩,_⟩:=I.list h;obtain⟨its',r',⟨o',n',e',_,_,d'⟩,_⟩:=I.list h';rw[e]at e';cases e';rw[d]at d';injection d' with d1 _
 have:its=its':=by simpa using congrArg Array.toList d1
 subst this;exact r.inj r'
theorem Inv.tuple_inj(I:Inv X pins σ H s)(h:lZ X.K H a xs)(h':lZ X.K H a ys):xs=ys:=by
 obtain⟨its,r,⟨o,e,_,n,d⟩,_⟩:=I.tuple h;obtain⟨its',r',⟨o',e',_,n',d'⟩,_⟩:=I.tuple h';rw[e]at e';cases e';rw[d]at d';injection d' with d1 _
 have:its=its':=by simpa using congrArg Array.toList d1
 subst this;exact r.inj r'
end
noncomputable abbrev Cx.wish(X:Cx)(E:bD):Cx:={X with xe:=E}
noncomputable abbrev Cx.nox(X:Cx):Cx:=X.wish λ_ _=>False
theorem Cx.Ok.wish{X:Cx}(ok:X.Ok)(E:bD):(X.wish E).Ok:=
 ⟨ok.mod,ok.kind,ok.glob,ok.blt,ok.above,ok.inj,ok.has,ok.cab,ok.hd,ok.frames,ok.stk,ok.exf,ok.bs,ok.bsz,ok.noex,ok.exfs,ok.funs,ok.frf⟩
theorem Cx.Ok.unwish{X:Cx}{E:bD}(ok:(X.wish E).Ok):X.Ok:=
 ⟨ok.mod,ok.kind,ok.glob,ok.blt,ok.above,ok.inj,ok.has,ok.cab,ok.hd,ok.frames,ok.stk,ok.exf,ok.bs,ok.bsz,ok.noex,ok.exfs,ok.funs,ok.frf⟩
section
variable{X:Cx}{pins:bn}{σ:St}{H:Hp}{s:RK}{E:bD}
theorem Inv.wish(I:Inv X pins σ H s)(E:bD):Inv (X.wish E) pins σ H s:=⟨I.ok.wish E,I.os,I.bare,I.base,I.loc,I.cell,I.free,I.freeC,I.pin,I.hok,I.len⟩
theorem Inv.unwish(I:Inv (X.wish E) pins σ H s):Inv X pins σ H s:=⟨I.ok.unwish,I.os,I.bare,I.base,I.loc,I.cell,I.free,I.freeC,I.pin,I.hok,I.len⟩
theorem SP.unwish{D:Ends}{f:Flow}{s':RK}(h:SP (X.wish E) pins D f s'):SP X pins D f s':=by
 cases f with
 |next=>obtain⟨σ',H',I,q⟩:=h;exact⟨σ',H',I.unwish,q⟩
 |brk=>obtain⟨σ',H',I,q⟩:=h;exact⟨σ',H',I.unwish,q⟩
 |cont=>obtain⟨σ',H',I,q⟩:=h;exact⟨σ',H',I.unwish,q⟩
 |ret u=>obtain⟨v,σ',H',I,r,q⟩:=h;exact⟨v,σ',H',I.unwish,r,q⟩
theorem oV.nox{st:dM}{t:TS}(h:oV X.nox st t):oV X st t:=λpins s σ H D I hw=>
 R0 (h pins s σ H D (I.wish _) hw) (λ_ _ q=>q.unwish) λ_ _ z=>False.elim z
end
section
variable{X:Cx}{st:RJ}{rest:dM}{t u:TS}{e:RH}{te:TE}{pos:Pos}
noncomputable def zC:TS:=λD σ H=>D.nx σ H
noncomputable def KP(t u:TS):TS:=λD σ H=>t {D with nx:=u D} σ H
theorem wO:oV X [] zC:=λ_ _ σ H _ I h=>R8 ⟨σ,H,I,h⟩
theorem tH(h1:PS X st t)(h2:oV X rest u):oV X (st::rest) (KP t u):=by
 intro pins s σ H D I h;refine wpAny_execs_cons (cN (h1 pins s σ H {D with nx:=u D} I h) λf s1 q=>?_);cases f with
 |next=>
  obtain⟨σ',H',I',q⟩:=q;exact h2 pins s1 σ' H' D I' q
 |ret v=>exact q
 |brk=>exact q
 |cont=>exact q
theorem qx(h1:PS X st t):oV X [st] t:=by
 intro pins s σ H D I h;refine wpAny_execs_cons (cN (h1 pins s σ H D I h) λf s1 q=>?_);cases f with
 |next=>exact R8 q
 |ret v=>exact q
 |brk=>exact q
 |cont=>exact q
theorem Ec:PS X (.Pass pos) zC:=λ_ _ σ H _ I h=>wpAny_Pass ⟨σ,H,I,h⟩
theorem Inv.quiet{pins:bn}{σ:St}{H:Hp}{s:RK}(I:Inv X pins σ H s):interactive X.env=false:=by simp[interactive,I.ok.kind]
theorem Gr{x j pos pos'}:PS X (.Expr (.Constant (.str x) j pos) pos') zC:=λ_ s σ H _ I h=>wpAny_Expr (Calls.Constant_str (show SP X _ _ .next {s with toks:=s.toks+1}from⟨σ,H,I.tok _,h⟩)) I.quiet
noncomputable def IX(te:TE):TS:=λD σ H=>te σ H λ_ H1=>D.nx σ H1
theorem wa(he:PE X e te)(hs:swapsWith e none pos.line X.env=pure false:=by rfl):PS X (.Expr e pos) (IX te):=by
 intro pins s σ H D I h;exact wpAny_Expr_any (cN (he pins s σ H _ I h) λv s1 ⟨x,H1,I1,r1,q1⟩=>⟨σ,H1,I1,q1⟩) I.quiet hs
noncomputable def K8(te:TE):TS:=λD σ H=>te σ H D.rt
theorem Gs(he:PE X e te):PS X (.Return (some e) pos) (K8 te):=by
 intro pins s σ H D I h;exact wpAny_Return_some (cN (he pins s σ H _ I h) λv s1 ⟨x,H1,I1,r1,q1⟩=>⟨x,σ,H1,I1,r1,q1⟩)
noncomputable def JW(c:TT)(t u:TS):TS:=λD σ H=>c σ H λb H1=>if b=true then t D σ H1 else u D σ H1
theorem Ja{c:RH}{a b:dM}{tc:TT}(hc:PT X c tc)(ha:oV X a t)(hb:oV X b u):PS X (.If c a b pos) (JW tc t u):=by
 intro pins s σ H D I h;refine wpAny_If (cN (hc pins s σ H _ I h) λd s1 ⟨H1,I1,q1⟩=>?_);cases d with
 |true=>exact ha pins s1 σ H1 D I1 q1
 |false=>exact hb pins s1 σ H1 D I1 q1
end
noncomputable abbrev TG:=V->St->Hp->(St->Hp->Prop)->Prop
noncomputable abbrev EZ:=List V->St->Hp->(St->Hp->Prop)->Prop
noncomputable def PG(X:Cx)(target:RH)(t:TG):Prop:=
 ∀(pins:bn)(s:RK)(σ:St)(H:Hp)(v:V)(u:RE)(Q:St->Hp->Prop),Inv X pins σ H s->RelV v u->t v σ H Q->
  RY (model X.prog X.w) X.A (assign target X.env u) (λ_ s'=>∃σ' H',Inv X pins σ' H' s'/\Q σ' H') X.xe s
noncomputable def I0(X:Cx)(ts:bA)(t:EZ):Prop:=
 ∀(pins:bn)(s:RK)(σ:St)(H:Hp)(vs:aH)(us:aU)(Q:St->Hp->Prop),Inv X pins σ H s->Vals vs us->t vs σ H Q->
  RY (model X.prog X.w) X.A (assignInOrder ((assignEach ts X.env).map (·.2)) us) (λ_ s'=>∃σ' H',Inv X pins σ' H' s'/\Q σ' H') X.xe s
section
variable{X:Cx}{pos:Pos}
noncomputable def oW(i:Nat):TG:=λv σ H Q=>Q (σ.set i (some v)) H
theorem Dx{i:Nat}{x:Str}(hN:X.N.Nodup)(hi:X.N[i]?=some x)(hx:Loc X.env.scope x)(hf:X.fn x=true\/X.env.scope.names.lookup x=some .local:=by first|exact .inl rfl|exact .inr rfl|assumption):PG X (.Name x pos) (oW i):=by
 intro pins s σ H v u Q I r h;exact wpAny_assign_Name (sE I hN hi hx r (λs' I'=>⟨_,H,I',h⟩) hf)
noncomputable def Lr:EZ:=λvs σ H Q=>vs=[]/\Q σ H
noncomputable def IW(t:TG)(u:EZ):EZ:=λvs σ H Q=>∃v r,vs=v::r/\t v σ H λσ' H'=>u r σ' H' Q
theorem Cv:I0 X [] Lr:=by
 intro pins s σ H vs us Q I r h;obtain⟨e,h⟩:=h;subst e;cases r;exact assignInOrder_nil ⟨σ,H,I,h⟩
theorem Bx{e:RH}{es:bA}{t:TG}{u:EZ}(h1:PG X e t)(h2:I0 X es u)
  (hs:(assignEach (e::es) X.env).map (·.2)=assign e X.env::(assignEach es X.env).map (·.2):=by rfl):I0 X (e::es) (IW t u):=by
 intro pins s σ H vs us Q I r h;obtain⟨v,vr,e1,h⟩:=h;subst e1;cases r with
 |cons r rr=>
  rw[hs];refine assignInOrder_cons (cN (h1 pins s σ H _ _ _ I r h) λ_ s1 ⟨σ1,H1,I1,q1⟩=>?_);exact h2 pins s1 σ1 H1 _ _ Q I1 rr q1
noncomputable def Kg(K:Qw)(n:Nat)(t:EZ):TG:=λv σ H Q=>∃a xs,v=.ref a/\lZ K H a xs/\xs.length=n/\t xs σ H Q
theorem Fs{es:bA}{k:Nat}{t:EZ}{n:Nat}(hc:X.calm=true)(h:I0 X es t)
  (hn:(assignEach es X.env).length=n:=by rfl) (hst:(assignEach es X.env).findIdx? (·.1)=none:=by rfl):PG X (.Tuple es k pos) (Kg X.K n t):=by
 intro pins s σ H v u Q I r hw;obtain⟨a,xs,e1,hq,hl,hw⟩:=hw;subst e1;cases r;obtain⟨its,rv,ht,hz⟩:=I.tuple hq;refine assign_Tuple_tuple (I.ok.hd hc) ht (by simp[hn,<-hl,rv.length]) hst λh' hx=>?_;have I1:Inv X pins σ H {s with heap:=h'}:=I.kept (t':=s.toks) λb o e=>hx b o (Nb (Rf e)) e;exact h pins _ σ H xs _ Q I1 (by simpa using rv) hw
noncomputable def CH(te:TE)(g:TG):TS:=λD σ H=>te σ H λx H1=>g x σ H1 D.nx
theorem z7{i:Nat}{x:Str}{e:RH}{te:TE}{pos':Pos}(hN:X.N.Nodup)(hi:X.N[i]?=some x)(hx:Loc X.env.scope x)(he:PE X e te)(hs:swapsWith e (some (.Name x pos')) pos.line X.env=pure false:=by rfl)(hf:X.fn x=true\/X.env.scope.names.lookup x=some .local:=by first|exact .inl rfl|exact .inr rfl|assumption):
  PS X (.Assign [.Name x pos'] e pos) (CH te (oW i)):=by
 intro pins s σ H D I h;refine wpAny_Assign_Name (cN (he pins s σ H _ I h) λv s1 ⟨y,H1,I1,r1,q1⟩=>?_) hs;exact sE I1 hN hi hx r1 (λs2 I2=>⟨_,H1,I2,q1⟩) hf
end
section
variable{X:Cx}{pos:Pos}
noncomputable def Gn(c:TT)(tb:TS):TS:=λD σ H=>∃W:Nat->St->Hp->Prop,(∃m,W m σ H)/\∀m σ H,W m σ H->
 c σ H λb H1=>if b=true then∃N:St->Hp->Prop,(∀σ' H',N σ' H'->∃m',m'<m/\W m' σ' H')/\tb {D with nx:=N,ct:=N,bk:=D.nx} σ H1 else D.nx σ H1
theorem yZ{c:RH}{body:dM}{tc:TT}{tb:TS}(hp:R9 (model X.prog X.w) X.A X.env X.xe)(hc:PT X c tc)(hb:oV X body tb):PS X (.While c body [] pos) (Gn tc tb):=by
 intro pins s σ H D I h;obtain⟨W,⟨m0,w0⟩,turn⟩:=h;refine wpAny_While (codeAny_whileLoop (λn s'=>∃σ' H',Inv X pins σ' H' s'/\W n σ' H') ?_ m0 ⟨σ,H,I,w0⟩);rintro n s1 ⟨σ1,H1,I1,w1⟩;refine Sa hp (cN (hc pins s1 σ1 H1 _ I1 (turn n σ1 H1 w1)) λb s2 ⟨H2,I2,q2⟩=>?_);cases b with
 |true=>
  obtain⟨N,hN,q2⟩:=q2;rw[if_pos rfl];refine Sa hp (cN (hb pins s2 σ1 H2 _ I2 q2) λf s3 q3=>?_);cases f with
  |next=>
   obtain⟨σ3,H3,I3,n3⟩:=q3;obtain⟨m',hm,w3⟩:=hN σ3 H3 n3;exact⟨m',hm,σ3,H3,I3,w3⟩
  |cont=>
   obtain⟨σ3,H3,I3,n3⟩:=q3;obtain⟨m',hm,w3⟩:=hN σ3 H3 n3;exact⟨m',hm,σ3,H3,I3,w3⟩
  |brk=>exact q3
  |ret v=>exact q3
 |false=>
  rw[if_neg Nn];exact R8 ⟨σ1,H2,I2,q2⟩
end
structure It where
 go:Nat->Hp->Prop
 yld:Nat->Hp->V->Hp->Prop
 stop:Nat->Hp->Prop
noncomputable def oJ(X:Cx)(pins:bn)(H:Hp)(b:RG):Prop:=
 H b=none/\b≠X.env.locals/\b∉X.fs/\(b∈X.ex\/X.s₀.heap.objs.size<=b)/\(∀x c,X.env.cells.lookup x=some c->c≠b)/\∀p∈X.pn++pins,p.1≠b
theorem Inv.fpOk{X:Cx}{pins:bn}{σ:St}{H H':Hp}{s:RK}{b:RG}(I:Inv X pins σ H s)(hb:s.heap.objs.size<=b)(hn:H' b=none):oJ X pins H' b:=by
 refine⟨hn,Np (M8 I.lt hb),I.nofs hb,.inr (Nc I.sz hb),λx c e z=>?_,λp hp z=>?_⟩
 ·obtain⟨v,q⟩:=I.cell x c e;exact absurd (M8 q.lt (by rw[z];exact hb)) (M9 _)
 ·exact absurd (M8 (Rf (I.pin p hp).1) (by rw[z];exact hb)) (M9 _)
structure Turn(P:RM)(w:RL)(K:Qw)(tg:RH)(J:It)(fp:aF)(it:RG)(tn:Nat->RN->Prop):Prop where
 mem:it∈fp
 obj:∀i h,tn i h->∀b∈fp,∃o,h.get? b=some o/\∀v,o.data≠.cell v
 keep:∀i h h',tn i h->(∀b∈fp,∀o,h.get? b=some o->h'.get? b=some o)->tn i h'
 item:∀(X:Cx),X.prog=P->X.w=w->X.K=K->X.calm=true->∀(i:Nat)(pins:bn)(s:RK)(σ:St)(H:Hp)(E:bD),Inv X pins σ H s->(∀b∈fp,oJ X pins H b)->tn i s.heap->J.go i H->
  RY (model P w) X.A (pyNext (.ref it)) (λr s1=>∃u,r=some u/\
   RY (model P w) X.A (letOwnedTupleGo tg (.ref it) u) (λ_ s2=>∃x H',Inv X pins σ H' s2/\RelV x u/\J.yld i H x H'/\tn (i+1) s2.heap/\∀b∈fp,H' b=none) E s1) E s
 done:∀(X:Cx),X.prog=P->X.w=w->X.K=K->X.calm=true->∀(i:Nat)(pins:bn)(s:RK)(σ:St)(H:Hp)(E:bD),Inv X pins σ H s->(∀b∈fp,oJ X pins H b)->tn i s.heap->J.stop i H->
  RY (model P w) X.A (pyNext (.ref it)) (λr s1=>r=none/\Inv X pins σ H s1) E s
 self:∀(A:RV)(i:Nat)(s:RK)(Q:bD)(E:bD),tn i s.heap->Q (.ref it) s->RY (model P w) A (pyIter (.ref it)) Q E s
noncomputable abbrev TI:=St->Hp->(It->Hp->Prop)->Prop
noncomputable def PIE(X:Cx)(pins:bn)(σ:St)(tg:RH)(R:It->Hp->Prop)(itv:RE)(s2:RK):Prop:=
 ∃(it:RG)(fp:aF)(tn:Nat->RN->Prop)(J:It)(H':Hp),itv=.ref it/\Inv X pins σ H' s2/\Turn X.prog X.w X.K tg J fp it tn/\tn 0 s2.heap/\(∀b∈fp,oJ X pins H' b)/\R J H'
noncomputable def PI(X:Cx)(tg iter:RH)(wi:TI):Prop:=
 ∀(pins:bn)(s:RK)(σ:St)(H:Hp)(R:It->Hp->Prop),Inv X pins σ H s->wi σ H R->
  RY (model X.prog X.w) X.A (eval iter X.env) (λv s1=>RY (model X.prog X.w) X.A (pyIter v) (PIE X pins σ tg R) X.xe s1) X.xe s
theorem vN{M:RX}{A:RV}{E:bD}{s:RK}{tg:RH}{it:RG}{u:RE}{o:Obj}{n:String}{vs:fJ}{Q:Unit->dD}(ho:s.heap.get? it=some o)(hc:o.cls=.type n)(hd:o.data=.fields vs)
    (hn:["enumerate","zip","dict_itemiterator","dict_reverseitemiterator","odict_iterator","itertools.zip_longest","itertools.pairwise"].contains n=false) (hQ:Q () s):RY M A (letOwnedTupleGo tg (.ref it) u) Q E s:=by
  unfold letOwnedTupleGo;cases tg<;>first
    |exact Sb hQ
    | (cases u <;> first
        |exact Sb hQ
        | (refine Sd (wpAny_load ho ?_)
           rw[hc,hd];show RY M A (if(["enumerate","zip","dict_itemiterator","dict_reverseitemiterator","odict_iterator","itertools.zip_longest","itertools.pairwise"].contains n&&vs[0]?==some (rawInt _))=true then _ else _) Q E s;rw[if_neg (by intro h;rw[hn,Bool.false_and]at h;cases h)];exact Sb hQ))
noncomputable def LI(K:Qw)(a:RG):It:=
 ⟨λi H=>∃xs x,jR K H a xs/\xs[i]?=some x,λi H x H'=>H'=H/\∀xs,jR K H a xs->xs[i]?=some x,λi H=>∃xs,jR K H a xs/\xs.length<=i⟩
noncomputable def Lv(K:Qw)(a:RG):It:=
 ⟨λi H=>∃xs x,lZ K H a xs/\xs[i]?=some x,λi H x H'=>H'=H/\∀xs,lZ K H a xs->xs[i]?=some x,λi H=>∃xs,lZ K H a xs/\xs.length<=i⟩
noncomputable def Js(lo:Int)(n:Nat):It:=⟨λi _=>i<n,λi H x H'=>H'=H/\x=.int (lo+i),λi _=>n<=i⟩
theorem yx{P:RM}{w:RL}{K:Qw}{tg:RH}(a it:RG):Turn P w K tg (LI K a) [it] it (λi h=>h.IsListIter it a i)where
 mem:=by simp
 obj:=λi h st b hb=>by
  have e:b=it:=by simpa using hb
  subst e;obtain⟨o,e,c,d⟩:=st;exact⟨o,e,λv z=>by rw[d]at z;cases z⟩
 keep:=λi h h' st k=>st.at λo e=>k it (by simp) o e
 item:=by
  intro X hP hw hK hc i pins s σ H E I hf st hg;subst hP hw hK;obtain⟨xs,x,hq,hx⟩:=hg;obtain⟨its,rv,p,hz⟩:=I.list hq;obtain⟨u,hu,ru⟩:=rv.get hx;obtain⟨f0,f1,f2,f3,f4,f5⟩:=hf it (by simp);refine wpAny_pyNext_list_item st p.isList (x:=u) (by simpa using hu) λh' st' sb=>?_;have I1:Inv X pins σ H {s with heap:=h'}:=I.turned (t':=s.toks) (λb o hb e=>(sb.2 b hb).trans e) f0 f1 f3 f4 f5;obtain⟨o,e,c,d⟩:=id st';exact⟨u,rfl,vN (s:={s with heap:=h'}) e c d (by decide) ⟨x,H,I1,ru,⟨rfl,λys hy=>by rw[I.list_inj hy hq];exact hx⟩,st',λb hb=>(hf b hb).1⟩⟩
 done:=by
  intro X hP hw hK hc i pins s σ H E I hf st hg;subst hP hw hK;obtain⟨xs,hq,hx⟩:=hg;obtain⟨its,rv,p,hz⟩:=I.list hq;obtain⟨f0,f1,f2,f3,f4,f5⟩:=hf it (by simp);have hl:=rv.length;exact wpAny_pyNext_list_end (I.ok.hd hc) st p.isList (by simp;omega) λh' eb=>⟨rfl,I.turned (t':=s.toks) (λb o hb e=>eb b o hb e) f0 f1 f3 f4 f5⟩
 self:=λ_ _ _ _ _ st h=>wpAny_pyIter_listiter st h
theorem vn{P:RM}{w:RL}{K:Qw}{tg:RH}(a it:RG):Turn P w K tg (Lv K a) [it] it (λi h=>h.IsTupleIter it a i)where
 mem:=by simp
 obj:=λi h st b hb=>by
  have e:b=it:=by simpa using hb
  subst e;obtain⟨o,e,c,d⟩:=st;exact⟨o,e,λv z=>by rw[d]at z;cases z⟩
 keep:=λi h h' st k=>st.at λo e=>k it (by simp) o e
 item:=by
  intro X hP hw hK hc i pins s σ H E I hf st hg;subst hP hw hK;obtain⟨xs,x,hq,hx⟩:=hg;obtain⟨its,rv,p,hz⟩:=I.tuple hq;obtain⟨u,hu,ru⟩:=rv.get hx;obtain⟨f0,f1,f2,f3,f4,f5⟩:=hf it (by simp);refine wpAny_pyNext_tuple_item st (show s.heap.IsTuple a its.toArray from p) (x:=u) (by simpa using hu) λh' st' sb=>?_;have I1:Inv X pins σ H {s with heap:=h'}:=I.turned (t':=s.toks) (λb o hb e=>(sb.2 b hb).trans e) f0 f1 f3 f4 f5;obtain⟨o,e,c,d⟩:=id st';exact⟨u,rfl,vN (s:={s with heap:=h'}) e c d (by decide) ⟨x,H,I1,ru,⟨rfl,λys hy=>by rw[I.tuple_inj hy hq];exact hx⟩,st',λb hb=>(hf b hb).1⟩⟩
 done:=by
  intro X hP hw hK hc i pins s σ H E I hf st hg;subst hP hw hK;obtain⟨xs,hq,hx⟩:=hg;obtain⟨its,rv,p,hz⟩:=I.tuple hq;obtain⟨f0,f1,f2,f3,f4,f5⟩:=hf it (by simp);have hl:=rv.length;exact wpAny_pyNext_tuple_end (I.ok.hd hc) st (show s.heap.IsTuple a its.toArray from p) (by simp;omega) λh' eb=>⟨rfl,I.turned (t':=s.toks) (λb o hb e=>eb b o hb e) f0 f1 f3 f4 f5⟩
 self:=λ_ _ _ _ _ st h=>wpAny_pyIter_tupleiter st h
theorem uE{P:RM}{w:RL}{K:Qw}{tg:RH}(it:RG)(lo:Int)(n:Nat):Turn P w K tg (Js lo n) [it] it (λi h=>Se h it (lo+(i:Nat)*1) ((n:Int)-(i:Nat)) 1)where
 mem:=by simp
 obj:=λi h st b hb=>by
  have e:b=it:=by simpa using hb
  subst e;exact⟨_,st,λv z=>by
   have z':Data.fields _=Data.cell v:=z;cases z'⟩
 keep:=λi h h' st k=>k it (by simp) _ st
 item:=by
  intro X hP hw hK hc i pins s σ H E I hf st hg;subst hP hw hK;obtain⟨f0,f1,f2,f3,f4,f5⟩:=hf it (by simp);have W:=Walks.range (prog:=X.prog) (w:=X.w) (I.ok.hd hc) it lo 1 n;refine W.item i s _ _ hg st λv h' tk hv st' kk=>?_;obtain⟨t,rfl⟩:=hv;have I1:Inv X pins σ H {s with heap:=h',toks:=tk}:=I.turned (λb o hb e=>kk b o (by simpa using hb) e) f0 f1 f3 f4 f5;refine⟨_,rfl,vN (s:={s with heap:=h',toks:=tk}) (n:="range_iterator") st' rfl rfl (by decide) ⟨.int (lo+i),H,I1,⟨t,?_⟩,⟨rfl,rfl⟩,st',λb hb=>(hf b hb).1⟩⟩;rw[Int.mul_one]
 done:=by
  intro X hP hw hK hc i pins s σ H E I hf st hg;subst hP hw hK;obtain⟨f0,f1,f2,f3,f4,f5⟩:=hf it (by simp);exact wpAny_pyNext_range_end (I.ok.hd hc) st (by have:n<=i:=hg;omega) λh' eb=>⟨rfl,I.turned (t':=s.toks) (λb o hb e=>eb b o hb e) f0 f1 f3 f4 f5⟩
 self:=λ_ _ _ _ _ st h=>Sf st h
section
variable{X:Cx}{tg:RH}
noncomputable def IM(K:Qw)(tl:TE):TI:=λσ H R=>tl σ H λx H1=>∃a,x=.ref a/\(∃xs,jR K H1 a xs)/\R (LI K a) H1
noncomputable def Ke(K:Qw)(tl:TE):TI:=λσ H R=>tl σ H λx H1=>∃a,x=.ref a/\(∃xs,lZ K H1 a xs)/\R (Lv K a) H1
theorem vL{l:RH}{tl:TE}(hl:PE X l tl):PI X tg l (IM X.K tl):=by
 intro pins s σ H R I h;refine cN (hl pins s σ H _ I h) λv s1 ⟨x,H1,I1,r1,q1⟩=>?_;obtain⟨a,e,⟨xs,hq⟩,q⟩:=q1;subst e;cases r1;obtain⟨its,rv,p,hz⟩:=I1.list hq;refine Sg p.isList ?_;refine⟨s1.heap.objs.size,[s1.heap.objs.size],_,_,H1,rfl,I1.kept (t':=s1.toks) λb o e=>Ri _ e,yx a _,⟨_,Rj _ rfl,rfl,rfl⟩,λb hb=>?_,q⟩;have e:b=s1.heap.objs.size:=by simpa using hb
 subst e;exact I1.fpOk (Nq _) (I1.hok.fresh (Nq _))
theorem Ge{l:RH}{tl:TE}(hl:PE X l tl):PI X tg l (Ke X.K tl):=by
 intro pins s σ H R I h;refine cN (hl pins s σ H _ I h) λv s1 ⟨x,H1,I1,r1,q1⟩=>?_;obtain⟨a,e,⟨xs,hq⟩,q⟩:=q1;subst e;cases r1;obtain⟨its,rv,p,hz⟩:=I1.tuple hq;refine wpAny_pyIter_tuple (show s1.heap.IsTuple a its.toArray from p) ?_;refine⟨s1.heap.objs.size,[s1.heap.objs.size],_,_,H1,rfl,I1.kept (t':=s1.toks) λb o e=>Ri _ e,vn a _,⟨_,Rj _ rfl,rfl,rfl⟩,λb hb=>?_,q⟩;have e:b=s1.heap.objs.size:=by simpa using hb
 subst e;exact I1.fpOk (Nq _) (I1.hok.fresh (Nq _))
theorem zv{pins:bn}{σ:St}{H:Hp}{s:RK}{R:It->Hp->Prop}{E:bD}{lo hi:Int}{t u v:Tok}{tk:Nat}(I:Inv X pins σ H s)(h1:-(2^62)<=lo)(h2:lo<2^62)(h3:-(2^62)<=hi)(h4:hi<2^62)
  (q:R (Js lo (hi-lo).toNat) H):RY (model X.prog X.w) X.A (pyIter (.ref s.heap.objs.size)) (PIE X pins σ tg R) E {s with heap:=s.heap.push {cls:=.type "range",data:=.fields #[.int lo t,.int hi u,.int 1 v]},toks:=tk}:=by
 refine wpAny_pyIter_range (IsRange.new ..) (small_one h1 h2 h3 h4) ?_;have I1:Inv X pins σ H {s with heap:=s.heap.push {cls:=.type "range",data:=.fields #[.int lo t,.int hi u,.int 1 v]},toks:=tk}:=I.kept λb o e=>Ri _ e;refine⟨(s.heap.push {cls:=.type "range",data:=.fields #[.int lo t,.int hi u,.int 1 v]}).objs.size,[(s.heap.push {cls:=.type "range",data:=.fields #[.int lo t,.int hi u,.int 1 v]}).objs.size],_,_,H,rfl,
  I1.kept (t':=tk) λb o e=>Ri _ e,uE _ lo (hi-lo).toNat,?_,λb hb=>?_,q⟩
 ·have e1:lo+((0:Nat):Int)*1=lo:=by simp
  have e2:(((hi-lo).toNat:Nat):Int)-((0:Nat):Int)=Builtin.Range.rangeSize lo hi 1:=by rw[rangeSize_one];split<;>omega
  show Se _ _ (lo+((0:Nat):Int)*1) ((((hi-lo).toNat:Nat):Int)-((0:Nat):Int)) 1;rw[e1,e2];exact Rj _ rfl
 ·have e:b=(s.heap.push {cls:=.type "range",data:=.fields #[.int lo t,.int hi u,.int 1 v]}).objs.size:=by simpa using hb
  subst e;exact I1.fpOk (Nq _) (I1.hok.fresh (Nq _))
noncomputable def Iu(ta:TA):TI:=λσ H R=>ta σ H λvs H1=>∃j:Int,vs=[.int j]/\-(2^62)<=j/\j<2^62/\R (Js 0 j.toNat) H1
theorem ym{a:RH}{ta:TA}{p pos:Pos}(hg:Gl X "range")(hm:X.mg "range"=none)(ha:PA X [a] ta)(hs:RZ [a] X.env=[(false,eval a X.env)]:=by rfl):PI X tg (.Call (.Name "range" p) [a] [] pos) (Iu ta):=by
 intro pins s σ H R I h;refine Call_ (gV I hg hm boot_range (Rr (cN (ha pos pins s σ H _ I h) λus s1 ⟨vs,H1,I1,r1,q1⟩=>?_) hs rfl));obtain⟨j,e,q1,q2,q⟩:=q1;subst e;cases r1 with
 |cons r rr=>
  cases rr;obtain⟨t,rfl⟩:=r;exact call_range_1 (zv I1 ‹0› ‹0› q1 q2 (by simpa using q))
noncomputable def Lj(wi:TI)(g:TG)(tb:TS):TS:=λD σ H=>wi σ H λJ H1=>∃W:Nat->Nat->St->Hp->Prop,(∃m,W 0 m σ H1)/\∀i m σ H,W i m σ H->
 (J.stop i H/\D.nx σ H)\/(J.go i H/\∃N:St->Hp->Prop,(∀σ' H',N σ' H'->∃m',m'<m/\W (i+1) m' σ' H')/\∀x H',J.yld i H x H'->g x σ H' λσ2 H2=>tb {D with nx:=N,ct:=N,bk:=D.nx} σ2 H2)
noncomputable def nB(fp:aF)(h:RN):bn:=fp.filterMap λb=>(h.get? b).map λo=>(b,o)
theorem h7{fp:aF}{h:RN}{b:RG}{o:Obj}(hb:b∈fp)(e:h.get? b=some o):(b,o)∈nB fp h:=List.mem_filterMap.mpr ⟨b,hb,by rw[e];rfl⟩
theorem yu{fp:aF}{h:RN}{p:RG×Obj}(hp:p∈nB fp h):p.1∈fp/\h.get? p.1=some p.2:=by
 obtain⟨b,hb,e⟩:=List.mem_filterMap.mp hp;cases q:h.get? b with
 |none=>rw[q]at e;cases e
 |some o=>
  rw[q]at e;have e':(b,o)=p:=Option.some.inj e;subst e';exact⟨hb,q⟩
theorem Inv.pinned{pins:bn}{σ:St}{H:Hp}{s:RK}{fp:aF}(I:Inv X pins σ H s)(hf:∀b∈fp,oJ X pins H b)(ho:∀b∈fp,∃o,s.heap.get? b=some o/\∀v,o.data≠.cell v):Inv X (pins++nB fp s.heap) σ H s:=
 I.pins_of λp hp=>(List.mem_append.mp hp).elim (λz=>I.pin p (Nr _ z)) λz=>by
  obtain⟨hb,e⟩:=yu z;obtain⟨f0,f1,f2,_⟩:=hf p.1 hb;obtain⟨o,e',d⟩:=ho p.1 hb;rw[e]at e';cases e';exact⟨e,f0,f1,f2,d⟩
theorem Inv.unpinned{pins pl:bn}{σ:St}{H:Hp}{s:RK}(I:Inv X (pins++pl) σ H s):Inv X pins σ H s:=I.pins_of λp hp=>I.pin p (Nr _ (Nj _ hp))
theorem GR{iter:RH}{body:dM}{wi:TI}{g:TG}{tb:TS}{pos:Pos}(hp:R9 (model X.prog X.w) X.A X.env X.xe)(hc:X.calm=true)(hi:PI X tg iter wi)(hg:PG X tg g)(hb:oV X body tb)
  (hs:∀x,Si iter X.env x=pure x:=by intro _;rfl):PS X (.For tg iter body [] pos) (Lj wi g tb):=by
 intro pins s σ H D I h;refine wpAny_For (cN (hi pins s σ H _ I h) λv s1 h1=>cN h1 λitv s2 h2=>?_) hs;obtain⟨it,fp,tn,J,H2,e,I2,T,st2,f2,W,⟨m0,w0⟩,turn⟩:=h2;subst e;have stat:∀{H':Hp},(∀b∈fp,H' b=none)->∀b∈fp,oJ X pins H' b:=λhn b hb=>⟨hn b hb,(f2 b hb).2⟩
 refine codeAny_forLoop_any (λn s'=>∃i σ' H',Inv X pins σ' H' s'/\tn i s'.heap/\(∀b∈fp,H' b=none)/\W i n σ' H') ?_ m0 ⟨0,σ,H2,I2,st2,λb hb=>(f2 b hb).1,w0⟩;rintro n s3 ⟨i,σ3,H3,I3,st3,fr3,w3⟩;rcases turn i n σ3 H3 w3 with⟨stop,qn⟩|⟨go,N,hN,step⟩
 ·refine Sa hp (cN (T.done X rfl rfl rfl hc i pins s3 σ3 H3 X.xe I3 (stat fr3) st3 stop) λr s4 ⟨hr,I4⟩=>?_);subst hr;exact R8 ⟨σ3,H3,I4,qn⟩
 ·refine Sa hp (cN (T.item X rfl rfl rfl hc i pins s3 σ3 H3 X.xe I3 (stat fr3) st3 go) λr s4 ⟨u,hr,h4⟩=>?_);subst hr;refine Sa hp (cN h4 λ_ s5 ⟨x,H5,I5,r5,y5,st5,fr5⟩=>?_);have I5':=I5.pinned (stat fr5) (T.obj _ _ st5);refine Sa hp (cN (hg _ s5 σ3 H5 x u _ I5' r5 (step x H5 y5)) λ_ s6 ⟨σ6,H6,I6,q6⟩=>?_);refine Sa hp (cN (hb _ s6 σ6 H6 _ I6 q6) λf s7 q7=>?_);have again:∀{σ7:St}{H7:Hp},Inv X (pins++nB fp s5.heap) σ7 H7 s7->N σ7 H7->∃m,m<n/\∃i σ' H',Inv X pins σ' H' s7/\tn i s7.heap/\(∀b∈fp,H' b=none)/\W i m σ' H':=λ{σ7 H7} I7 n7=>by
   obtain⟨m',hm,w7⟩:=hN σ7 H7 n7;refine⟨m',hm,i+1,σ7,H7,I7.unpinned,T.keep _ _ _ st5 λb hb o e=>(I7.pin (b,o) (Nr _ (Nr _ (h7 hb e)))).1,λb hb=>?_,w7⟩;obtain⟨o,e,d⟩:=T.obj _ _ st5 b hb;exact(I7.pin (b,o) (Nr _ (Nr _ (h7 hb e)))).2.1
  cases f with
  |next=>obtain⟨σ7,H7,I7,n7⟩:=q7;exact again I7 n7
  |cont=>obtain⟨σ7,H7,I7,n7⟩:=q7;exact again I7 n7
  |brk=>obtain⟨σ7,H7,I7,q7⟩:=q7;exact⟨σ7,H7,I7.unpinned,q7⟩
  |ret v=>obtain⟨x7,σ7,H7,I7,r7,q7⟩:=q7;exact⟨x7,σ7,H7,I7.unpinned,r7,q7⟩
end
noncomputable abbrev R2:=V->V->Hp->VK->Prop
noncomputable def ic(X:Cx)(f:RE->RE->Sem RE)(r:R2):Prop:=
 ∀(pins:bn)(s:RK)(σ:St)(H:Hp)(x y:V)(v u:RE)(Q:VK),Inv X pins σ H s->RelV x v->RelV y u->r x y H Q->
  RY (model X.prog X.w) X.A (f v u) (EP X pins σ Q) X.xe s
noncomputable def KS(X:Cx)(f:RE->Sem RE)(r:V->Hp->VK->Prop):Prop:=
 ∀(pins:bn)(s:RK)(σ:St)(H:Hp)(x:V)(v:RE)(Q:VK),Inv X pins σ H s->RelV x v->r x H Q->
  RY (model X.prog X.w) X.A (f v) (EP X pins σ Q) X.xe s
noncomputable def gA(X:Cx)(f:RE)(r:aH->Hp->VK->Prop):Prop:=
 ∀(pins:bn)(s:RK)(σ:St)(H:Hp)(xs:aH)(us:aU)(Q:VK),Inv X pins σ H s->Vals xs us->r xs H Q->
  RY (model X.prog X.w) X.A (call f us) (EP X pins σ Q) X.xe s
noncomputable def Kl(X:Cx)(r:V->Hp->(Bool->Hp->Prop)->Prop):Prop:=
 ∀(pins:bn)(s:RK)(σ:St)(H:Hp)(x:V)(v:RE)(Q:Bool->Hp->Prop),Inv X pins σ H s->RelV x v->r x H Q->
  RY (model X.prog X.w) X.A (truthy v) (TP X pins σ Q) X.xe s
noncomputable def IY(r:R2)(ta tb:TE):TE:=λσ H Q=>ta σ H λx H1=>tb σ H1 λy H2=>r x y H2 Q
noncomputable def LV(r:V->Hp->VK->Prop)(ta:TE):TE:=λσ H Q=>ta σ H λx H1=>r x H1 Q
noncomputable def rI(C:Int->Int->Prop)(g:Int->Int->V):R2:=λx y H Q=>∃i j,x=.int i/\y=.int j/\C i j/\Q (g i j) H
noncomputable def BX(g:Int->Int->V):R2:=λx y H Q=>∃i j,x=.int i/\y=.int j/\Q (g i j) H
noncomputable def rU(g:Int->V):V->Hp->VK->Prop:=λx H Q=>∃i,x=.int i/\Q (g i) H
section
variable{X:Cx}{a b c:RH}{ta tb tc:TE}{pos:Pos}
theorem Fu(ha:PE X a ta)(hb:PE X b tb){pins:bn}{s:RK}{σ:St}{H:Hp}{R:V->V->Hp->Prop}(I:Inv X pins σ H s)
  (h:ta σ H λx H1=>tb σ H1 λy H2=>R x y H2) {Q:bD} {f:RE->RE->Sem RE}
  (hf:∀v u s2 x y H2,Inv X pins σ H2 s2->RelV x v->RelV y u->R x y H2->RY (model X.prog X.w) X.A (f v u) Q X.xe s2):
  RY (model X.prog X.w) X.A (eval a X.env) (λv s₁=>RY (model X.prog X.w) X.A (eval b X.env) (λu s₂=>RY (model X.prog X.w) X.A (f v u) Q X.xe s₂) X.xe s₁) X.xe s:=by
 refine cN (ha pins s σ H _ I h) λv s1 ⟨x,H1,I1,r1,q1⟩=>?_;refine cN (hb pins s1 σ H1 _ I1 q1) λu s2 ⟨y,H2,I2,r2,q2⟩=>?_;exact hf v u s2 x y H2 I2 r1 r2 q2
theorem IV{op:Operator}{r:R2}(ho:ic X (Sj op) r)(ha:PE X a ta)(hb:PE X b tb):PE X (.BinOp a op b pos) (IY r ta tb):=by
 intro pins s σ H Q I h;exact wpAny_BinOp (Fu ha hb I h λv u s2 x y H2 I2 rx ry q=>ho pins s2 σ H2 x y v u Q I2 rx ry q)
theorem Ii{op:UnaryOp}{r:V->Hp->VK->Prop}(ho:KS X (unaryOp op) r)(ha:PE X a ta):PE X (.UnaryOp op a pos) (LV r ta):=by
 intro pins s σ H Q I h;exact UnaryOp_ (cN (ha pins s σ H _ I h) λv s1 ⟨x,H1,I1,r1,q1⟩=>ho pins s1 σ H1 x v Q I1 r1 q1)
theorem Jt{f:RE->RE->Sem RE}{C:Int->Int->Prop}{g:Int->Int->Int}
  (rule:∀(i j:Int)(t u:Tok)(s:RK)(Q:bD)(E:bD),C i j->Q (.int (g i j) s.toks) {s with toks:=s.toks+1}->RY (model X.prog X.w) X.A (f (.int i t) (.int j u)) Q E s):
  ic X f (rI C λi j=>.int (g i j)):=by
 intro pins s σ H x y v u Q I rx ry h;obtain⟨i,j,rfl,rfl,hc,q⟩:=h;obtain⟨t,rfl⟩:=rx;obtain⟨t',rfl⟩:=ry;exact rule i j t t' s _ _ hc ⟨.int (g i j),H,I.tok _,⟨_,rfl⟩,q⟩
theorem HW{f:RE->RE->Sem RE}{g:Int->Int->Int}
  (rule:∀(i j:Int)(t u:Tok)(s:RK)(Q:bD)(E:bD),Q (.int (g i j) s.toks) {s with toks:=s.toks+1}->RY (model X.prog X.w) X.A (f (.int i t) (.int j u)) Q E s):
  ic X f (BX λi j=>.int (g i j)):=by
 intro pins s σ H x y v u Q I rx ry h;obtain⟨i,j,rfl,rfl,q⟩:=h;obtain⟨t,rfl⟩:=rx;obtain⟨t',rfl⟩:=ry;exact rule i j t t' s _ _ ⟨.int (g i j),H,I.tok _,⟨_,rfl⟩,q⟩
theorem Ha{f:RE->RE->Sem RE}{g:Int->Int->Bool}
  (rule:∀(i j:Int)(t u:Tok)(s:RK)(Q:bD)(E:bD),Q (.bool (g i j)) s->RY (model X.prog X.w) X.A (f (.int i t) (.int j u)) Q E s):
  ic X f (BX λi j=>.bl (g i j)):=by
 intro pins s σ H x y v u Q I rx ry h;obtain⟨i,j,rfl,rfl,q⟩:=h;obtain⟨t,rfl⟩:=rx;obtain⟨t',rfl⟩:=ry;exact rule i j t t' s _ _ ⟨.bl (g i j),H,I,rfl,q⟩
noncomputable def Jj(i j:Int):Prop:=0<=j/\j<=1000000/\i.natAbs<2^64
noncomputable def Hj(i j:Int):Prop:=(-(2^64)<i/\i<2^64)\/(-(2^64)<j/\j<2^64)
theorem Hj.ok{i j:Int}(h:Hj i j):IntMulOk i j:=by
 rcases h with⟨h1,h2⟩|⟨h1,h2⟩
 ·exact .of_left (intBits_le_64 h1 h2)
 ·exact .of_right (intBits_le_64 h1 h2)
theorem HE:ic X (Sj .Add) (BX λi j=>.int (i+j)):=HW λ_ _ _ _ _ _ _ q=>add_int q
theorem G2:ic X (Sj .Sub) (BX λi j=>.int (i-j)):=HW λ_ _ _ _ _ _ _ q=>sub_int q
theorem Ft:ic X (Sj .Mult) (rI Hj λi j=>.int (i*j)):=Jt λ_ _ _ _ _ _ _ hc q=>mul_int q hc.ok
theorem Hc:ic X (Sj .Mod) (rI (λ_ j=>0<j) λi j=>.int (i%j)):=Jt λi j _ _ _ _ _ hc q=>by
 have h1:(0:Int)<j:=hc;exact mod_int' ‹0› (by rw[Int.fmod_eq_emod_of_nonneg i ‹0›];exact q)
theorem HI:ic X (Sj .Pow) (rI Jj λi j=>.int (i^j.toNat)):=Jt λ_ _ _ _ _ _ _ hc q=>pow_int_small hc.1 hc.2.1 hc.2.2 q
theorem L5{f:RE->Sem RE}{g:Int->Int}
  (rule:∀(i:Int)(t:Tok)(s:RK)(Q:bD)(E:bD),Q (.int (g i) s.toks) {s with toks:=s.toks+1}->RY (model X.prog X.w) X.A (f (.int i t)) Q E s):
  KS X f (rU λi=>.int (g i)):=by
 intro pins s σ H x v Q I rx h;obtain⟨i,rfl,q⟩:=h;obtain⟨t,rfl⟩:=rx;exact rule i t s _ _ ⟨.int (g i),H,I.tok _,⟨_,rfl⟩,q⟩
theorem GX:KS X (unaryOp .USub) (rU λi=>.int (-i)):=L5 λ_ _ _ _ _ q=>neg_int q
end
section
variable{X:Cx}{a b c:RH}{ta tb tc:TE}{pos:Pos}
theorem Ba{pins:bn}{σ:St}{H:Hp}{s:RK}{Q:VK}{k k':Bool}(I:Inv X pins σ H s)(q:Q (.bl k) H)(e:k=k'):EP X pins σ Q (.bool k') s:=by
 subst e;exact⟨.bl k,H,I,rfl,q⟩
theorem HV:ic X (R5 .Lt) (BX λi j=>.bl (decide (i<j))):=Ha λ_ _ _ _ _ _ _ q=>lt_int q
theorem pz:ic X (R5 .LtE) (BX λi j=>.bl (decide (i<=j))):=Ha λ_ _ _ _ _ _ _ q=>le_int q
theorem ER:ic X (R5 .GtE) (BX λi j=>.bl (decide (j<=i))):=Ha λ_ _ _ _ _ _ _ q=>ge_int q
theorem yK:ic X (R5 .Lt) (λx y H Q=>∃i j,x=.str i/\y=.str j/\Q (.bl (decide (i.cps.toList<j.cps.toList))) H):=by
 intro pins s σ H x y v u Q I rx ry h;obtain⟨i,j,rfl,rfl,q⟩:=h;obtain⟨t,rfl⟩:=rx;obtain⟨t',rfl⟩:=ry;exact lt_str (Ba I q rfl)
theorem gE(b:RH){op:R4}(h:op≠.In:=by decide)(h2:op≠.NotIn:=by decide):R6 op b=false:=by
 have e1:(op==CmpOp.In)=false:=by cases op<;>first|rfl|exact absurd rfl h
 have e2:(op==CmpOp.NotIn)=false:=by cases op<;>first|rfl|exact absurd rfl h2
 cases b<;>simp[R6,e1,e2]
theorem C3{op:R4}{r:R2}(ho:ic X (R5 op) r)(ha:PE X a ta)(hb:PE X b tb)(hm:R6 op b=false):PE X (.Compare a [op] [b] pos) (IY r ta tb):=by
 intro pins s σ H Q I h;exact wpAny_Compare1 (Fu ha hb I h λv u s2 x y H2 I2 rx ry q=>ho pins s2 σ H2 x y v u Q I2 rx ry q) hm
noncomputable def BL(t:TE):TT:=λσ H Q=>t σ H λx H'=>∃k,x=.bl k/\Q k H'
theorem DN{op:R4}{r:R2}(ho:ic X (R5 op) r)(ha:PE X a ta)(hb:PE X b tb)(hm:R6 op b=false):PT X (.Compare a [op] [b] pos) (BL (IY r ta tb)):=by
 intro pins s σ H Q I h;refine wpAny_isTrue_Compare1 (cN (ha pins s σ H _ I h) λv s1 ⟨x,H1,I1,r1,q1⟩=>cN (hb pins s1 σ H1 _ I1 q1) λu s2 ⟨y,H2,I2,r2,q2⟩=>
  cN (ho pins s2 σ H2 x y v u _ I2 r1 r2 q2) λc s3 ⟨z,H3,I3,r3,k,e,q3⟩=>?_) hm
 subst e;cases r3;exact R7 ⟨H3,I3,q3⟩
noncomputable def vt(r r':R2)(ta tb tc:TE):TE:=λσ H Q=>ta σ H λx H1=>tb σ H1 λy H2=>r x y H2 λz H3=>∃k,z=.bl k/\
 (if k=true then tc σ H3 λw' H4=>r' y w' H4 Q else Q (.bl false) H3)
theorem A7{op op':R4}{r r':R2}(ho:ic X (R5 op) r)(ho':ic X (R5 op') r')(ha:PE X a ta)(hb:PE X b tb)(hc:PE X c tc)
  (hm:lastMarks [op,op'] [b,c]=false:=by with_unfolding_all rfl):PE X (.Compare a [op,op'] [b,c] pos) (vt r r' ta tb tc):=by
 intro pins s σ H Q I h;refine Compare_chain (cN (ha pins s σ H _ I h) λv s1 ⟨x,H1,I1,r1,q1⟩=>chain_link (cN (hb pins s1 σ H1 _ I1 q1) λu s2 ⟨y,H2,I2,r2,q2⟩=>
  cN (ho pins s2 σ H2 x y v u _ I2 r1 r2 q2) λd s3 ⟨z,H3,I3,r3,k,e,q3⟩=>?_)) hm
 subst e;cases r3;refine R7 ?_;cases k with
 |false=>exact ite_ff ⟨.bl false,H3,I3,rfl,q3⟩
 |true=>exact ite_tt (chain_last (cN (hc pins s3 σ H3 _ I3 q3) λw' s4 ⟨z',H4,I4,r4,q4⟩=>ho' pins s4 σ H4 y z' u w' Q I4 r2 r4 q4))
theorem BM{op op':R4}{r r':R2}(ho:ic X (R5 op) r)(ho':ic X (R5 op') r')(ha:PE X a ta)(hb:PE X b tb)(hc:PE X c tc)
  (hm:lastMarks [op,op'] [b,c]=false:=by with_unfolding_all rfl):PT X (.Compare a [op,op'] [b,c] pos) (BL (vt r r' ta tb tc)):=by
 intro pins s σ H Q I h;refine isTrue_chain (cN (ha pins s σ H _ I h) λv s1 ⟨x,H1,I1,r1,q1⟩=>test_link (cN (hb pins s1 σ H1 _ I1 q1) λu s2 ⟨y,H2,I2,r2,q2⟩=>
  cN (ho pins s2 σ H2 x y v u _ I2 r1 r2 q2) λd s3 ⟨z,H3,I3,r3,k,e,q3⟩=>?_)) hm
 subst e;cases r3;refine R7 ?_;cases k with
 |false=>
  obtain⟨k',e',q'⟩:=q3;cases e';exact ite_ff ⟨H3,I3,q'⟩
 |true=>
  refine ite_tt (test_last (cN (hc pins s3 σ H3 _ I3 q3) λw' s4 ⟨z',H4,I4,r4,q4⟩=>cN (ho' pins s4 σ H4 y z' u w' _ I4 r2 r4 q4) λd' s5 ⟨z2,H5,I5,r5,k2,e2,q5⟩=>?_));subst e2;cases r5;exact R7 ⟨H5,I5,q5⟩
noncomputable def HZ(K:Qw)(x:V)(H:Hp)(k:Bool):Prop:=
 match x with
 |.non=>k=false
 |.bl b=>k=b
 |.int i=>k=(i !=0)
 |.str y=>y.length<=RO/\k=((y.length:Int) !=0)
 |.byt y=>y.size<=RO/\k=((y.size:Int) !=0)
 |.ref p=>(∃xs,jR K H p xs/\k=!xs.isEmpty)\/(∃xs,lZ K H p xs/\k=!xs.isEmpty)\/∃kvs,H p=some (.dK kvs)/\k=!kvs.isEmpty
 |_=>False
theorem vj{κ:Type}{kvs:List (κ×V)}{vs:List (κ×RE)}(r:KV kvs vs):(!vs.isEmpty)=!kvs.isEmpty:=by
 cases r<;>rfl
theorem oj{xs:aH}{its:aU}(r:Vals xs its):(!its.toArray.isEmpty)=!xs.isEmpty:=by
 cases r<;>simp
theorem lB:(RO:Nat)<2^63:=by rw[Sl];decide
theorem Gc:Kl X (λx H Q=>∃k,HZ X.K x H k/\Q k H):=by
 intro pins s σ H x v Q I rx h;obtain⟨k,e,q⟩:=h;have hl:=lB;have hs:RO=16777216:=Sl;cases x with
 |non=>
  cases rx;have e':k=false:=e;subst e';exact truthy_none ⟨H,I,q⟩
 |bl b=>
  cases rx;have e':k=b:=e;subst e';exact R7 ⟨H,I,q⟩
 |int i=>
  obtain⟨t,rfl⟩:=rx;have e':k=(i !=0):=e;subst e';exact PySem.P.truthy_int ⟨H,I,q⟩
 |str y=>
  obtain⟨t,rfl⟩:=rx;obtain⟨hy,e'⟩:y.length<=RO/\k=((y.length:Int) !=0):=e;subst e';exact PySem.P.truthy_str ‹0› ⟨H,I.tok _,q⟩
 |byt y=>
  obtain⟨t,rfl⟩:=rx;obtain⟨hy,e'⟩:y.size<=RO/\k=((y.size:Int) !=0):=e;subst e';exact PySem.W.truthy_bytes ‹0› ⟨H,I.tok _,q⟩
 |ref p=>
  cases rx;have e':(∃xs,jR X.K H p xs/\k=!xs.isEmpty)\/(∃xs,lZ X.K H p xs/\k=!xs.isEmpty)\/∃kvs,H p=some (.dK kvs)/\k=!kvs.isEmpty:=e;rcases e' with⟨xs,hx,e'⟩|⟨xs,hx,e'⟩|⟨kvs,hx,e'⟩
  ·subst e';obtain⟨its,r,pl,hz⟩:=I.list hx;have hlen:=r.length;exact wpAny_truthy_list pl.isList (by simp only[Nt];omega) ⟨H,I.tok _,by rw[oj r];exact q⟩
  ·subst e';obtain⟨its,r,pl,hz⟩:=I.tuple hx;have hlen:=r.length;exact truthy_tuple pl (by simp only[Nt];omega) ⟨H,I.tok _,by rw[oj r];exact q⟩
  ·subst e';obtain⟨hz,hS,vs,r,m⟩:kvs.length<=RO/\(p==sysModules)=false/\∃vs,KV kvs vs/\s.heap.DictOf (qy X.prog X.w) p vs:=I.hok p _ hx;have hlen:kvs.length=vs.length:=Paired.length r;exact wpAny_truthy_dict hS m ‹0› ⟨H,I.tok _,by rw[vj r];exact q⟩
 |_=>exact(show False from e).elim
theorem Al(ha:PE X a ta)(he:∀whole,isTrue a X.env whole=(do let v<-whole;standAt a.pos;holding [v] (truthy v))):
  PT X a (λσ H Q=>ta σ H λx H'=>∃k,HZ X.K x H' k/\Q k H'):=by
 intro pins s σ H Q I h;exact isTrue_plain (cN (ha pins s σ H _ I h) λv s1 ⟨x,H1,I1,r1,q1⟩=>Gc pins s1 σ H1 x v Q I1 r1 q1) (he _)
theorem uk:ic X (Sj .Add) (λx y H Q=>∃i j,x=.str i/\y=.str j/\i.length+j.length<=RO/\Q (.str (i++j)) H):=by
 intro pins s σ H x y v u Q I rx ry h;obtain⟨i,j,rfl,rfl,hz,q⟩:=h;obtain⟨t,rfl⟩:=rx;obtain⟨t',rfl⟩:=ry;exact add_str (λt' tk=>⟨.str (i++j),H,I.tok _,⟨_,rfl⟩,q⟩) hz
theorem vals1{x:V}{us:aU}(r:Vals [x] us):∃u,us=[u]/\RelV x u:=by
 cases r with
 |cons r1 r2=>cases r2;exact⟨_,rfl,r1⟩
theorem vals2{x y:V}{us:aU}(r:Vals [x,y] us):∃u w',us=[u,w']/\RelV x u/\RelV y w':=by
 cases r with
 |cons r1 r2=>
  cases r2 with
  |cons r3 r4=>cases r4;exact⟨_,_,rfl,r1,r3⟩
theorem pW:gA X (.type "int") (λxs H Q=>(∃i,xs=[.int i]/\Q (.int i) H)\/∃k,xs=[.bl k]/\Q (.int (if k then 1 else 0)) H):=by
 intro pins s σ H xs us Q I r h;rcases h with⟨i,rfl,q⟩|⟨k,rfl,q⟩
 ·obtain⟨u,rfl,t,rfl⟩:=vals1 r;exact call_int_int ⟨.int i,H,I,⟨_,rfl⟩,q⟩
 ·obtain⟨u,rfl,r1⟩:=vals1 r;cases r1;exact call_int_bool ⟨.int (if k then 1 else 0),H,I.tok _,⟨_,rfl⟩,q⟩
end
structure xW(h:RN)(x dx C:RG)(mA:bP):Prop where
 obj:h.get? x=some (Qu C dx)
 ns:h.Ns1 dx mA
 ne:dx≠x
theorem xq{h:RN}{dx:RG}{mA:bP}(n:h.Ns1 dx mA):∃od,h.get? dx=some od/\∀name,Qx name od=some (mA name):=by
 obtain⟨o,es,ep,ho,hd,hk,_,hm⟩:=n;refine⟨o,ho,λname=>?_⟩;have e:=hm name;unfold nsFind findBy at e;rw[<-Array.find?_toList]at e;unfold Qx;rw[hd];dsimp only;split
 ·rename_i y q;rw[q]at e;exact congrArg some e
 ·rename_i q;rw[q]at e;have a:es.toList.any (·.refKey)=false:=by
   rw[Nu];intro y hy;obtain⟨z,t,hkey⟩:=hk y (Array.mem_toList_iff.mp hy);simp[DictEntry.refKey,hkey]
  have a':¬es.toList.any (·.refKey)=true:=by rw[a];exact Nn
  rw[if_neg a'];exact congrArg some e
theorem xW.look{h:RN}{x dx C:RG}{mA:bP}(I:xW h x dx C mA):∃od,PySem.W.InstAt h x (Qu C dx) C (some od)/\∀name,Qx name od=some (mA name):=
 let ⟨od,ho,hl⟩:=xq I.ns
 ⟨od,⟨I.obj,rfl,rfl,ho⟩,hl⟩
section
variable{prog:RM}{w:RL}{A:RV}{E:bD}{s:RK}{K:Qw}{x dx C f:RG}{mA:bP}{name:Str}{v:RE}
theorem CB{expr:Bool}{Q:bD}(X:K.In s.heap)(I:xW s.heap x dx C mA)(hg:Qy K C name=true)(hh:Qz K C=true)
  (ha:QA K (.ref C) name=some none) (hv:mA name=some v) (hv':QB v=true) (h:Q v {s with toks:=s.toks+1}):
  RY (model prog w) A (getAttr (.ref x) name expr) Q E s:=by
 obtain⟨od,J,hl⟩:=I.look;exact PySem.W.get_value X J (QC hg).1 (PySem.W.findObj_own hh ha rfl (by rw[hl,hv])) hv' h
theorem zr{pl:Sem Bool}{Q:RE×List RE->dD}(X:K.In s.heap)(I:xW s.heap x dx C mA)(hg:Qy K C name=true)
  (hf:QA K (.ref C) name=some (some (.ref f))) (ht:QD K (.ref f)=true) (hv:mA name=none) (h:Q (.ref f,[.ref x]) s):
  RY (model prog w) A (getMethod (.ref x) name pl) Q E s:=by
 obtain⟨od,J,hl⟩:=I.look;exact PySem.W.method_fn X J (QC hg).1 (QC hg).2 hf (beq_iff_eq.mp ht) (by show(Qx name od).map (·.isSome)=some false;rw[hl,hv];rfl) h
theorem CW{ns:au}{Q:Unit->dD}(X:K.In s.heap)(I:xW s.heap x dx C mA)
  (hs:QA K (.ref C) "__setattr__"=some (some (.builtin "object.__setattr__"))) (hp:QE K C=true) (ht:QF K C name=some none) (hh:Qz K C=true)
  (hw:PySem.Within mA ns) (hsz:ns.length<=RO)
  (h:∀h',xW h' x dx C (λy=>if y=name then some v else mA y)->Rh dx s.heap h'->Q () {s with heap:=h',toks:=s.toks+2}):
  RY (model prog w) A (setAttr (.ref x) name v) Q E s:=by
 obtain⟨od,J,hl⟩:=I.look;refine PySem.W.set_plain X J hs (PySem.W.osa_open (s:={s with toks:=s.toks+1}) (r:=none) X J hp ht λb=>?_);obtain⟨cd,hc,hd'⟩:=PySem.W.any_some hh;have hx:s.heap.get? x=some ⟨.ref C,some dx,.plain,#[]⟩:=I.obj;refine Sd (Sb (Sd (Sd (Sn hx (Sd (PySem.W.Looks.here (s:={s with toks:=s.toks+1}) (PySem.W.looks_clsIn X hc) ?_))))));rw[hd'];refine Sb (a:=some dx) (Sd (Sb (Sd ?_)));refine wpAny_nsSet1 (s:={s with toks:=s.toks+1}) I.ns λh' hn2 hs2=>?_;obtain⟨oD,esD,epD,hoD,hdD,hcD⟩:=hn2.count (PySem.Within.cons name v hw);refine Sd (Sq hoD (by rw[hdD];exact Sr (Nc hcD (by rw[Nv];omega))) ?_);exact Sb (h _ ⟨(hs2.2 _ (Ne.symm I.ne)).trans I.obj,hn2,I.ne⟩ hs2)
theorem yS{R:Ss->dD}{vs:aU}{kw:List (Str×RE)}(X:K.In s.heap)(hm:QG K C=true)
  (hi:QA K (.ref C) "__init__"=some (some (.ref f))) (hf:QH K (.ref f)=some (.type "function"))
  (h:Su (model prog w) (A.under (.builtin "type.__call__" ⟨.ref C::vs,kw⟩)) (.call (.ref f) ⟨.ref (s.heap.objs.size+1)::vs,kw⟩) (PySem.W.InitBack (s.heap.objs.size+1) R)
   {s with heap:=(s.heap.push QI).push (Qu C s.heap.objs.size)}):
  Su (model prog w) A (.call (.ref C) ⟨vs,kw⟩) R s:=by
 obtain⟨hh,g,d,t,os⟩:=s;exact PySem.W.make_core (PySem.W.makes_of X hm) (PySem.W.looks_findIn X hi) (λself=>PySem.W.bind_fn X self hf) (.inl rfl) h
end
noncomputable def iG(f:Str)(v:V):List (Str×V)->List (Str×V)
 |[]=>[(f,v)]
 |(g,x)::r=>if g=f then(g,v)::r else(g,x)::iG f v r
theorem lX(f g:Str)(v:V):∀fs:List (Str×V),(iG f v fs).lookup g=if g=f then some v else fs.lookup g
 |[]=>by
  show List.lookup g [(f,v)]=_;by_cases h:g=f
  ·have hb:(g==f)=true:=beq_iff_eq.mpr h;simp only[List.lookup,hb,if_pos h]
  ·have hb:(g==f)=false:=beq_eq_false_iff_ne.mpr h;simp only[List.lookup,hb,if_neg h]
 |(k,x)::r=>by
  have ih:=lX f g v r;rw[show iG f v ((k,x)::r)=(if k=f then(k,v)::r else(k,x)::iG f v r)from rfl];by_cases hk:k=f
  ·rw[if_pos hk];by_cases h:g=k
   ·have hb:(g==k)=true:=beq_iff_eq.mpr h;simp only[List.lookup,hb,if_pos (h.trans hk)]
   ·have hb:(g==k)=false:=beq_eq_false_iff_ne.mpr h;simp only[List.lookup,hb,if_neg (λe:g=f=>h (e.trans hk.symm))]
  ·rw[if_neg hk];by_cases h:g=k
   ·have hb:(g==k)=true:=beq_iff_eq.mpr h;simp only[List.lookup,hb,if_neg (λe:g=f=>hk (h.symm.trans e))]
   ·have hb:(g==k)=false:=beq_eq_false_iff_ne.mpr h;simp only[List.lookup,hb];exact ih
theorem lM(f:Str)(v:V):∀fs:List (Str×V),f∈(iG f v fs).map (·.1)/\∀g,g∈fs.map (·.1)->g∈(iG f v fs).map (·.1)
 |[]=>⟨by simp[iG],λg h=>by simp at h⟩
 |(k,x)::r=>by
  obtain⟨i1,i2⟩:=lM f v r;rw[show iG f v ((k,x)::r)=(if k=f then(k,v)::r else(k,x)::iG f v r)from rfl];by_cases hk:k=f
  ·rw[if_pos hk];subst hk;exact⟨by simp,λg h=>by simpa using h⟩
  ·rw[if_neg hk];refine⟨?_,λg h=>?_⟩
   ·rw[Nw];exact Ni _ i1
   ·rw[Nw]at h ⊢;rcases List.mem_cons.mp h with e|e
    ·exact List.mem_cons.mpr (.inl e)
    ·exact Ni _ (i2 g e)
theorem mj(f:Str)(v:V):∀fs:List (Str×V),(iG f v fs).length<=fs.length+1
 |[]=>by simp[iG]
 |(k,x)::r=>by
  have ih:=mj f v r;rw[show iG f v ((k,x)::r)=(if k=f then(k,v)::r else(k,x)::iG f v r)from rfl];by_cases hk:k=f
  ·rw[if_pos hk,Nv,Nv];omega
  ·rw[if_neg hk,Nv,Nv];omega
theorem sX.some_of{v:V}{o:Option RE}(r:sX (some v) o):∃u,o=some u/\RelV v u:=by
 cases o with
 |none=>exact(show False from r).elim
 |some u=>exact⟨u,rfl,r⟩
theorem sX.none_of{o:Option RE}(r:sX none o):o=none:=by
 cases o with
 |none=>rfl
 |some u=>exact(show False from r).elim
theorem xm{v:V}{u:RE}(r:RelV v u):QB u=true:=by
 cases v with
 |non=>cases(show u=Value.none from r);rfl
 |bl b=>cases(show u=Value.bool b from r);rfl
 |int i=>obtain⟨t,e⟩:=(show∃t,u=Value.int i t from r);cases e;rfl
 |str x=>obtain⟨t,e⟩:=(show∃t,u=Value.str x t from r);cases e;rfl
 |byt b=>obtain⟨t,e⟩:=(show∃t,u=Value.bytes b t from r);cases e;rfl
 |flt b=>obtain⟨t,e⟩:=(show∃t,u=Value.float b t from r);cases e;rfl
 |ref a=>cases(show u=Value.ref a from r);rfl
 |ty n=>cases(show u=Value.type n from r);rfl
section
variable{P:RM}{w:RL}{H H':Hp}{h h':RN}{a C dx:RG}{fs fs':List (Str×V)}
theorem qY(hok:nH P w H h)(e:H a=some (.ins C dx fs)):∃mA,xW h a dx C mA/\(∀f,sX (fs.lookup f) (mA f))/\PySem.Within mA (fs.map (·.1))/\fs.length<=1000/\H dx=some (.own a):=by
 obtain⟨d,z,ne,ob,mA,n,r,q⟩:=(show dE P w H h a (.ins C dx fs)from hok a _ e)
 exact⟨mA,⟨ob,n,ne⟩,r,q,z,d⟩
end
structure pH(K:Qw)(C:RG):Prop where
 pg:Qy K C Str.empty=true
 hd:Qz K C=true
 po:QE K C=true
 sa:QA K (.ref C) "__setattr__"=some (some (.builtin "object.__setattr__"))
theorem pH.get{K:Qw}{C:RG}(c:pH K C)(f:Str):Qy K C f=true:=c.pg
noncomputable def dF(K:Qw)(C:RG)(f:Str):Prop:=QA K (.ref C) f=some none
theorem dF.taker{K:Qw}{C:RG}{f:Str}(n:dF K C f):QF K C f=some none:=by
 unfold QF;rw[show QA K (.ref C) f=some none from n];rfl
structure Meth(K:Qw)(C:RG)(m:Str)(f:RG):Prop where
 at_:QA K (.ref C) m=some (some (.ref f))
 fn:QD K (.ref f)=true
 kp:QJ K (.ref f)=true
section
variable{X:Cx}{pins:bn}{σ:St}{H:Hp}{s:RK}{a C dx:RG}{fs:List (Str×V)}{f:Str}{v:V}{A:RV}{E:bD}
theorem uf{b:Bool}{Q:bD}(I:Inv X pins σ H s)(e:H a=some (.ins C dx fs))(c:pH X.K C)(n:dF X.K C f)(l:fs.lookup f=some v)
  (h:∀u s',Inv X pins σ H s'->RelV v u->Q u s'):RY (model X.prog X.w) A (getAttr (.ref a) f b) Q E s:=by
 obtain⟨mA,O,r,_,_,_⟩:=qY I.hok e;obtain⟨u,hu,ru⟩:=sX.some_of (v:=v) (o:=mA f) (by rw[<-l];exact r f);exact CB I.kIn O (c.get f) c.hd n hu (xm ru) (h u _ (I.tok _) ru)
theorem u6{m:Str}{g:RG}{pl:Sem Bool}{Q:RE×List RE->dD}(I:Inv X pins σ H s)(e:H a=some (.ins C dx fs))(c:pH X.K C)(k:Meth X.K C m g)(l:fs.lookup m=none)
  (h:Q (.ref g,[.ref a]) s):RY (model X.prog X.w) A (getMethod (.ref a) m pl) Q E s:=by
 obtain⟨mA,O,r,_,_,_⟩:=qY I.hok e;have hn:mA m=none:=sX.none_of (by rw[<-l];exact r m);exact zr I.kIn O (c.get m) k.at_ k.fn hn h
theorem vc{y:V}{u:RE}{Q:Unit->dD}(I:Inv X pins σ H s)(e:H a=some (.ins C dx fs))(c:pH X.K C)(n:dF X.K C f)(hl:fs.length<1000)(ry:RelV y u)
  (h:∀s',Inv X pins σ (upd H a (.ins C dx (iG f y fs))) s'->Q () s'):RY (model X.prog X.w) A (setAttr (.ref a) f u) Q E s:=by
 obtain⟨mA,O,r,wi,_,ho⟩:=qY I.hok e;have hz:(fs.map (·.1)).length<=RO:=by rw[Nx,Sl];omega
 refine CW I.kIn O c.sa c.po n.taker c.hd wi hz λh' O' sb=>h _ ?_;have hd:∃o,h'.get? dx=some o:=let ⟨o,_,_,e',_⟩:=O'.ns;⟨o,e'⟩
 refine I.write (x:=a) (e:=dx) (by rw[e];exact True.intro) (.inr ho) (λb q hb z=>(sb.2 b hb).trans z) hd ?_;refine⟨by rw[ay O.ne];exact ho,?_,O.ne,O'.obj,_,O'.ns,λg=>?_,λg hg=>?_⟩
 ·have:=mj f y fs;omega
 ·show sX ((iG f y fs).lookup g) (if g=f then some u else mA g);rw[lX];by_cases q:g=f
  ·rw[if_pos q,if_pos q];exact ry
  ·rw[if_neg q,if_neg q];exact r g
 ·by_cases q:g=f
  ·rw[q];exact(lM f y fs).1
  ·refine(lM f y fs).2 g (wi g λz=>hg ?_);show(if g=f then some u else mA g)=none;rw[if_neg q];exact z
theorem Inv.made(I:Inv X pins σ H s):Inv X pins σ (upd (upd H s.heap.objs.size (.own (s.heap.objs.size+1))) (s.heap.objs.size+1) (.ins C s.heap.objs.size []))
  {s with heap:=(s.heap.push QI).push (Qu C s.heap.objs.size)}:=by
 have e1:(s.heap.push QI).get? s.heap.objs.size=some QI:=Rj s.heap rfl;have e2:((s.heap.push QI).push (Qu C s.heap.objs.size)).get? (s.heap.objs.size+1)=some (Qu C s.heap.objs.size):=by
  have:=Rj (s.heap.push QI) (o:=Qu C s.heap.objs.size) rfl
  rwa [Rl]at this
 have e3:(s.heap.push QI).Ns s.heap.objs.size (λ_=>none):=⟨QI,#[],_,e1,rfl,(λe he=>absurd he (by simp)),λ_=>rfl⟩
 have I1:=I.laid (a:=s.heap.objs.size) (o:=.own (s.heap.objs.size+1)) (h':=s.heap.push QI) (t':=s.toks) (λb u q=>Ri _ q) (Nq _) ⟨_,e1⟩;refine I1.laid (a:=s.heap.objs.size+1) (o:=.ins C s.heap.objs.size []) (t':=s.toks) (λb u q=>Ri _ q) (Ny (Rl _ _)) ?_;have ne:s.heap.objs.size≠s.heap.objs.size+1:=Nb (Nz _);refine⟨by rw[ay ne,aK],NA _,ne,e2,λ_=>none,(Heap.Ns1.of_empty e3).at λo q=>Ri _ q,λ_=>True.intro,λy hy=>absurd rfl hy⟩
theorem D4{prog:RM}{w:RL}{env:Env}{e:RH}{f:Str}{pos:Pos}{s:RK}{Q:bD}(hb:Sv e f env (eval e env)=eval e env)
  (h:RY (model prog w) A (eval e env) (λo s₁=>RY (model prog w) A (getAttr o f true) Q E s₁) E s):RY (model prog w) A (eval (.Attribute e f pos) env) Q E s:=
 Attribute_any_ h (by rw[arm_eval_Attribute,hb])
end
noncomputable def K4(K:Qw)(ta:TE)(f:Str):TE:=λσ H Q=>ta σ H λx H1=>∃a C dx fs v,x=.ref a/\H1 a=some (.ins C dx fs)/\pH K C/\dF K C f/\fs.lookup f=some v/\Q v H1
noncomputable def Kr(K:Qw)(ta tv:TE)(f:Str):TS:=λD σ H=>tv σ H λy H1=>ta σ H1 λx H2=>∃a C dx fs,x=.ref a/\H2 a=some (.ins C dx fs)/\pH K C/\dF K C f/\fs.length<1000/\
 D.nx σ (upd H2 a (.ins C dx (iG f y fs)))
section
variable{X:Cx}{o e value:RH}{f:Str}{pos pos' tpos:Pos}{ta tv:TE}
theorem FP(he:PE X e ta)(hb:Sv e f X.env (eval e X.env)=eval e X.env):PE X (.Attribute e f pos) (K4 X.K ta f):=by
 intro pins s σ H Q I h;refine D4 hb (cN (he pins s σ H _ I h) λu s1 ⟨x,H1,I1,rx,a,C,dx,fs,v,ex,ea,c,n,l,q⟩=>?_);subst ex;obtain rfl:u=Value.ref a:=rx;exact uf I1 ea c n l λu' s2 I2 ru=>⟨v,H1,I2,ru,q⟩
theorem zS(ha:PE X o ta)(hv:PE X value tv)(hs:swapsWith value (some (.Attribute o f pos')) pos.line X.env=pure false):PS X (.Assign [.Attribute o f pos'] value pos) (Kr X.K ta tv f):=by
 intro pins s σ H D I h;refine Sw (cN (hv pins s σ H _ I h) λu s1 ⟨y,H1,I1,ry,q⟩=>cN (ha pins s1 σ H1 _ I1 q) λov s2 h2=>?_) hs;obtain⟨x,H2,I2,rx,a,C,dx,fs,ex,ea,c,n,l,q2⟩:=h2;subst ex;obtain rfl:ov=Value.ref a:=rx;exact vc I2 ea c n l ry λs3 I3=>⟨σ,_,I3,q2⟩
theorem tY{pl:Sem Bool}{m:Str}{apos:Pos}{args:bA}{pins:bn}{s:RK}{σ:St}{H:Hp}{Q:bD}{te:TE}(he:PE X e te)(I:Inv X pins σ H s)
  (h:te σ H fun x H1=>∃ a C dx fs g,x=.ref a/\H1 a=some (.ins C dx fs)/\pH X.K C/\Meth X.K C m g/\fs.lookup m=none /\
   ∀s1,Inv X pins σ H1 s1->RY (model X.prog X.w) X.A (Sx pos (.ref g) [.ref a] (backTo pos (RZ args X.env)) (backToKw pos (Sy [] X.env))) Q X.xe s1)
  (ht:eval (.Call (.Attribute e m apos) args [] pos) X.env=(do
   let ov<-eval e X.env
   standAt apos.atName
   let (f,first)<-holding [ov] (getMethod ov m pl)
   Sx pos f first (backTo pos (RZ args X.env)) (backToKw pos (Sy [] X.env)))):
  RY (model X.prog X.w) X.A (eval (.Call (.Attribute e m apos) args [] pos) X.env) Q X.xe s:=by
 refine PySem.W.methodCall_KW (pl:=pl) (cN (he pins s σ H _ I h) λu s1 ⟨x,H1,I1,rx,a,C,dx,fs,g,ex,ea,c,k,l,q⟩=>?_) ht;subst ex;obtain rfl:u=Value.ref a:=rx;exact u6 I1 ea c k l (q s1 I1)
end
structure eI(k:Nat)(A:RV):Prop where
 hd:A.handled=none
 dp:A.depth+3*k+5<Sz
 un:A.units+16*k+200<SA
theorem eI.mono{j k:Nat}{A:RV}(r:eI k A)(h:j<=k):eI j A:=⟨r.hd,by have:=r.dp;omega,by have:=r.un;omega⟩
theorem eI.deeper{k:Nat}{A:RV}(r:eI (k+1) A)(env:Env):eI k (A.deeper env):=
 ⟨r.hd,by have:=r.dp;show A.depth+1+3*k+5<_;omega,by have:=r.un;show A.units+3+16*k+200<_;omega⟩
theorem uQ{A:RV}{C:RG}{us:aU}{kw:List (Str×RE)}:(A.under (.builtin "type.__call__" ⟨.ref C::us,kw⟩)).depth=A.depth+1:=by
 first|rfl|simp[Around.under,Code.weight,Code.isCreation,Code.isGuard,Code.isCaller,Code.frames,Code.isFrame,guardIds]
theorem vi{A:RV}{C:RG}{us:aU}{kw:List (Str×RE)}:(A.under (.builtin "type.__call__" ⟨.ref C::us,kw⟩)).units=A.units+1:=by
 first|rfl|simp[Around.under,Code.cUnits,Code.frames,Code.isFrame]
theorem eI.make{k:Nat}{A:RV}(r:eI (k+1) A)(C:RG)(us:aU)(kw:List (Str×RE)):eI k (A.under (.builtin "type.__call__" ⟨.ref C::us,kw⟩)):=
 ⟨r.hd,by have:=r.dp;rw[uQ];omega,by have:=r.un;rw[vi];omega⟩
theorem eI.depth{k:Nat}{A:RV}(r:eI k A):A.depth<Sz:=by have:=r.dp;omega
theorem eI.units{k:Nat}{A:RV}(r:eI k A):A.units+64<SA:=by have:=r.un;omega
noncomputable def JS:TA:=λ_ H Q=>Q [] H
noncomputable def Jc(ta:TE)(tr:TA):TA:=λσ H Q=>ta σ H λx H1=>tr σ H1 λxs H2=>Q (x::xs) H2
section
variable{X:Cx}{e:RH}{es:bA}{te:TE}{t:TA}{pos:Pos}
theorem uR:PA X [] JS:=λ_ _ _ _ H Q I h=>Calls.spliced_nil ⟨[],H,I,.nil,h⟩
theorem mO(ha:PE X e te)(hr:PA X es t)(hs:RZ (e::es) X.env=(false,eval e X.env)::RZ es X.env:=by rfl):PA X (e::es) (Jc te t):=by
 intro pos pins s σ H Q I h;rw[hs];show RY _ _ (spliced ((false,eval e X.env)::backTo pos (RZ es X.env))) _ _ s;refine Calls.spliced_cons (cN (ha pins s σ H _ I h) λu s1 ⟨x,H1,I1,r1,q1⟩=>?_);exact cN (hr pos pins s1 σ H1 _ I1 q1) λus s2 ⟨xs,H2,I2,r2,q2⟩=>⟨x::xs,H2,I2,.cons r1 r2,q2⟩
noncomputable def JV(t:TA):TE:=λσ H Q=>t σ H λxs H1=>xs.length<=RO/\∀p,H1 p=none->Q (.ref p) (upd H1 p (.tup xs))
noncomputable def Lz(t:TA):TE:=λσ H Q=>t σ H λxs H1=>xs.length<=RO/\∀p,H1 p=none->Q (.ref p) (upd H1 p (.lst xs))
theorem Gh{x1}(h:PA X es t):PE X (.Tuple es x1 pos) (JV t):=by
 intro pins s σ H Q I hq;refine wpAny_Tuple_spliced (cN (h pos pins s σ H _ I hq) λus s1 ⟨xs,H1,I1,r,z,q⟩=>⟨by rw[<-r.length];exact z,?_⟩);have hf:H1 s1.heap.objs.size=none:=I1.hok.fresh (Nq _);refine⟨.ref s1.heap.objs.size,upd H1 s1.heap.objs.size (.tup xs),I1.laid (t':=s1.toks) (λb u e=>Ri _ e) (Nq _) ?_,rfl,q _ hf⟩;exact⟨z,us,r,⟨_,Rj _ rfl,rfl,_,rfl⟩⟩
theorem yX(h:PA X es t):PE X (.List es pos) (Lz t):=by
 intro pins s σ H Q I hq;refine wpAny_List_spliced (cN (h pos pins s σ H _ I hq) λus s1 ⟨xs,H1,I1,r,z,q⟩=>⟨by rw[<-r.length];exact z,?_⟩);have hf:H1 s1.heap.objs.size=none:=I1.hok.fresh (Nq _);refine⟨.ref s1.heap.objs.size,upd H1 s1.heap.objs.size (.lst xs),I1.laid (t':=s1.toks) (λb u e=>Ri _ e) (Nq _) ?_,rfl,q _ hf⟩;exact⟨z,us,0,r,Rj _ rfl⟩
end
noncomputable abbrev Sp:=List V->Hp->VK->XK->Prop
noncomputable abbrev vd:=List Env->Hp->RK->XK->bD
structure xC(P:RM)(w:RL)(K:Qw)(mg:bP)(base:RN)(A:RV)(outer:List Env)(s:RK)(H:Hp):Prop where
 frames:A.frames=some outer
 mod:Mod K mg base
 bs:∀b o,base.get? b=some o->s.heap.get? b=some o/\H b=none
 bsz:base.objs.size<=s.heap.objs.size
 funs:s.heap.FunFrames base outer
 frf:∀b∈frs outer,H b=none
 hok:nH P w H s.heap
 bare:AllBare s.gens
noncomputable def CE(outer:List Env)(P:RM)(w:RL)(H:Hp)(s:RK)(Q:VK)(u:RE)(s':RK):Prop:=
 ∃v H',s'.os=s.os/\AllBare s'.gens/\Un (frs outer) [] H H' s.heap s'.heap/\nH P w H' s'.heap/\RelV v u/\Q v H'
noncomputable def CR(CX:vd)(outer:List Env)(P:RM)(w:RL)(H:Hp)(s:RK)(Q:VK)(E:XK)(r:Ss)(s':RK):Prop:=
 match r with
 |.ok (.ret u)=>CE outer P w H s Q u s'
 |.ok _=>False
 |.error e=>CX outer H s E e s'
structure fP(P:RM)(w:RL)(K:Qw)(mg:bP)(base:RN)(CX:vd)(k:Nat)(f:RG)(fd:SD)(ps:au)(sp:Sp):Prop where
 len:∀vs H Q E,sp vs H Q E->vs.length=ps.length
 run:∀(A:RV)(outer:List Env)(s:RK)(H:Hp)(args:Args)(us:aU)(vs:aH)(Q:VK)(E:XK),eI k A->xC P w K mg base A outer s H->SE s fd args (ps.zip us)->Vals vs us->sp vs H Q E->
  Su (model P w) A (.call (.ref f) args) (CR CX outer P w H s Q E) s
theorem fP.mono{P:RM}{w:RL}{K:Qw}{mg:bP}{base:RN}{CX:vd}{j k:Nat}{f:RG}{fd:SD}{ps:au}{sp:Sp}(F:fP P w K mg base CX j f fd ps sp)(h:j<=k):
  fP P w K mg base CX k f fd ps sp:=⟨F.len,λA outer s H args us vs Q E hr=>F.run A outer s H args us vs Q E (hr.mono h)⟩
theorem xC.make{P:RM}{w:RL}{K:Qw}{mg:bP}{base:RN}{A:RV}{outer:List Env}{s:RK}{H:Hp}(e:xC P w K mg base A outer s H)(C:RG)(us:aU)(kw:List (Str×RE)):
  xC P w K mg base (A.under (.builtin "type.__call__" ⟨.ref C::us,kw⟩)) outer s H:=⟨by first|exact e.frames|(simpa [Around.under,Code.envs,Code.isFrame,pushEnvs]using e.frames),e.mod,e.bs,e.bsz,e.funs,e.frf,e.hok,e.bare⟩
section
variable{X:Cx}{pins:bn}{σ:St}{H:Hp}{s s':RK}
theorem Inv.env0(I:Inv X pins σ H s):xC X.prog X.w X.K X.mg X.base X.A X.stack s H:=
 ⟨I.ok.frames,I.ok.mod,I.bs,Nc I.ok.bsz I.sz,I.stack,I.stkFree,I.hok,I.bare⟩
theorem Inv.after{Q:VK}{u:RE}(I:Inv X pins σ H s)(h:CE X.stack X.prog X.w H s Q u s'):EP X pins σ Q u s':=by
 obtain⟨v,H',os,bare,un,hok,r,q⟩:=h;obtain⟨hh,g,d,t,os'⟩:=s';obtain rfl:os'=s.os:=os;exact⟨v,H',I.call (h':=hh) (g':=g) (d':=d) (t':=t) (ch:=[]) un hok bare (λb z=>absurd z (by simp)),r,q⟩
end
noncomputable def Jm(C:RG)(sp:Sp)(dvs:aH)(E:XK)(t:TA):TE:=λσ H Q=>t σ H λvs H1=>∀x dx,H1 x=none->H1 dx=none->dx≠x->
 sp (.ref x::(vs++dvs)) (upd (upd H1 dx (.own x)) x (.ins C dx [])) (λv H2=>v=.non/\Q (.ref x) H2) E
noncomputable def Binds(K:Qw)(fd:SD)(ps:au)(ds:aU):Prop:=
 ∀(s:RK)(us:aU),K.In s.heap->(us++ds).length=ps.length->SE s fd ⟨us,[]⟩ (ps.zip (us++ds))
theorem Binds.all{K:Qw}{fd:SD}{ps:au}(h:∀us:aU,us.length=ps.length->bindArgs fd ⟨us,[]⟩=pure (ps.zip us)):Binds K fd ps []:=λs us _ hl=>by
 rw[NB]at hl ⊢;exact .of_eq (h us hl)
noncomputable def ut(CX:vd)(X:Cx)(E:XK):Prop:=∀(pins:bn)(σ:St)(H:Hp)(s:RK)(e:RE)(s':RK),Inv X pins σ H s->CX X.stack H s E e s'->X.xe e s'
section
variable{X:Cx}{CX:vd}{k:Nat}{f C:RG}{fd:SD}{ps:au}{sp:Sp}{dvs:aH}{ds:aU}{E:XK}{x m:Str}{p pos apos:Pos}{e o:RH}{es:bA}{ta:TE}{t:TA}
structure Mk(K:Qw)(C f:RG):Prop where
 makes:QG K C=true
 init:QA K (.ref C) "__init__"=some (some (.ref f))
 fn:QD K (.ref f)=true
 kp:QJ K (.ref C)=true
theorem zh{pins:bn}{σ:St}{H:Hp}{s:RK}{Q:VK}{us:aU}{vs:aH}(M:Mk X.K C f)(F:fP X.prog X.w X.K X.mg X.base CX k f fd ps sp)(hr:eI (k+1) X.A)(hb:Binds X.K fd ps ds)(hd:Vals dvs ds)
  (hx:ut CX X E) (I:Inv X pins σ H s) (r:Vals vs us)
  (h:∀x dx,H x=none->H dx=none->dx≠x->sp (.ref x::(vs++dvs)) (upd (upd H dx (.own x)) x (.ins C dx [])) (λv H2=>v=.non/\Q (.ref x) H2) E):
  RY (model X.prog X.w) X.A (call (.ref C) us) (EP X pins σ Q) X.xe s:=by
 have hq:=h (s.heap.objs.size+1) s.heap.objs.size (I.hok.fresh (NC _)) (I.hok.fresh (Nq _)) (Nb (Nz _));have I2:=Inv.made (C:=C) I;have r2:Vals (V.ref (s.heap.objs.size+1)::(vs++dvs)) (Value.ref (s.heap.objs.size+1)::(us++ds)):=.cons rfl (r.append hd);have hl:(Value.ref (s.heap.objs.size+1)::us++ds).length=ps.length:=by
  have e:=r2.length;rw[F.len _ _ _ _ hq]at e;exact e.symm
 refine SG (yS (f:=f) I.kIn M.makes M.init (beq_iff_eq.mp M.fn) (SH (F.run _ X.stack _ _ ⟨Value.ref (s.heap.objs.size+1)::us,[]⟩ (Value.ref (s.heap.objs.size+1)::(us++ds)) _ _ E (hr.make C us [])
  (I2.env0.make C us []) (hb _ (Value.ref (s.heap.objs.size+1)::us) I2.kIn hl) r2 hq) λr s' hq'=>?_))
 cases r with
 |error e=>exact hx pins σ _ _ e s' I2 hq'
 |ok fl=>
  cases fl with
  |ret u=>
   obtain⟨v,H',I3,rv,ev,q3⟩:=I2.after hq';subst ev;exact⟨rv,⟨V.ref (s.heap.objs.size+1),H',I3,rfl,q3⟩⟩
  |next=>exact False.elim hq'
  |brk=>exact False.elim hq'
  |cont=>exact False.elim hq'
theorem DX(M:Mk X.K C f)(F:fP X.prog X.w X.K X.mg X.base CX k f fd ps sp)(hr:eI (k+1) X.A)(hg:Gl X x)(hm:X.mg x=some (.ref C))(hb:Binds X.K fd ps ds)(hd:Vals dvs ds)(hx:ut CX X E)
  (ha:PA X (e::es) t) (hdb:(x==("__debug__":Str))=false:=by decide) (he:RZ (e::es) X.env=(false,eval e X.env)::RZ es X.env:=by rfl) (hpl:(backTo pos (RZ es X.env)).any (·.1)=false:=by rfl):
  PE X (.Call (.Name x p) (e::es) [] pos) (Jm C sp dvs E t):=by
 intro pins s σ H Q I h;refine SJ (jt I hg hm ?_ hdb);refine QK (h₀:=X.base) I.ok.mod.kin M.kp (cN (ha pos pins s σ H _ I h) λus s1 ⟨vs,H1,I1,r,q⟩=>⟨I1.kIn,?_⟩) he hpl;exact zh M F hr hb hd hx I1 r q
end
structure cx(N P:au)(sc:RW):Prop where
 kind:sc.kind=.function
 co:sc.isCoroutine=false
 gen:sc.isGenerator=false
 nd:N.Nodup
 pre:N.take P.length=P
 par:∀x∈P,sc.names.lookup x=some .local\/sc.names.lookup x=some .cell
 nofree:∀y∈sc.names,y.2≠.free
theorem o4{kindOf:Str->Option RF}{x:Str}:∀{binds:List (Str×RE)}{m:bP},(∀v,(x,v)∉binds)->bindL kindOf binds m x=m x
 |[],_,_=>rfl
 |(n,v)::r,m,h=>by
  unfold bindL;rw[o4 λw hw=>h w (Ni _ hw)];split
  ·have:x≠n:=(by rintro rfl;exact h v Nh);simp[this]
  ·rfl
theorem pf{kindOf:Str->Option RF}{x:Str}:∀{binds:List (Str×RE)}{m:bP},(∀v,(x,v)∉binds)->bindC kindOf binds m x=m x
 |[],_,_=>rfl
 |(n,v)::r,m,h=>by
  unfold bindC;rw[pf λw hw=>h w (Ni _ hw)];split
  ·rfl
  ·have:x≠n:=(by rintro rfl;exact h v Nh);simp[this]
theorem o5{kindOf:Str->Option RF}{x:Str}{v:RE}:∀{P:au}{vs:aU}{i:Nat}{m:bP},P.Nodup->P[i]?=some x->vs[i]?=some v->kindOf x=some .local->
  bindL kindOf (P.zip vs) m x=some v
 |[],_,_,_,_,h,_,_=>by simp at h
 |_::_,[],_,_,_,_,h,_=>by simp at h
 |p::P,w::vs,0,m,nd,h1,h2,hk=>by
  simp at h1 h2;subst h1;subst h2;show bindL kindOf ((p,w)::P.zip vs) m p=_;unfold bindL;rw[o4 λv hv=>(List.nodup_cons.mp nd).1 (ND hv).1,if_pos hk];simp
 |p::P,w::vs,i+1,m,nd,h1,h2,hk=>by
  show bindL kindOf ((p,w)::P.zip vs) m x=_;unfold bindL;exact o5 (i:=i) (List.nodup_cons.mp nd).2 (by simpa using h1) (by simpa using h2) hk
theorem oU{kindOf:Str->Option RF}{x:Str}{v:RE}:∀{P:au}{vs:aU}{i:Nat}{m:bP},P.Nodup->P[i]?=some x->vs[i]?=some v->kindOf x≠some .local->
  bindC kindOf (P.zip vs) m x=some v
 |[],_,_,_,_,h,_,_=>by simp at h
 |_::_,[],_,_,_,_,h,_=>by simp at h
 |p::P,w::vs,0,m,nd,h1,h2,hk=>by
  simp at h1 h2;subst h1;subst h2;show bindC kindOf ((p,w)::P.zip vs) m p=_;unfold bindC;rw[pf λv hv=>(List.nodup_cons.mp nd).1 (ND hv).1,if_neg hk];simp
 |p::P,w::vs,i+1,m,nd,h1,h2,hk=>by
  show bindC kindOf ((p,w)::P.zip vs) m x=_;unfold bindC;exact oU (i:=i) (List.nodup_cons.mp nd).2 (by simpa using h1) (by simpa using h2) hk
noncomputable def start(N:au)(vs:aH):St:=vs.map some++List.replicate (N.length-vs.length) none
noncomputable def fO(CX:vd)(P:RM)(w:RL)(K:Qw)(mg:bP)(base:RN)(N:au)(qual:Str)(scope:RW)(f:RG)(cd:RE)(A:RV)(outer:List Env)(s:RK)(H:Hp)(E:XK):Cx where
 prog:=P
 w:=w
 K:=K
 mg:=mg
 base:=base
 A:=A.deeper (envOfC qual scope s.heap.objs.size f cd)
 N:=N
 s₀:=s
 H₀:=H
 env:=envOfC qual scope s.heap.objs.size f cd
 outer:=outer
 stack:=envOfC qual scope s.heap.objs.size f cd::outer
 ex:=[]
 calm:=true
 fn:=λ_=>true
 pn:=[]
 xe:=λe s'=>RY (model P w) (A.deeper (envOfC qual scope s.heap.objs.size f cd)) (leaving (envOfC qual scope s.heap.objs.size f cd) e) (λ_ s''=>CX outer H s E e s'') (λe' s''=>CX outer H s E e' s'') s'
theorem sf{sc:RW}{n:Nat}{x:Str}(h:sc.names.lookup x=some .cell):∃c,(cellsFrom n sc.names []).lookup x=some c:=by
 have q:=QL sc.names n [] (.inl h);exact Option.isSome_iff_exists.mp q
theorem xF{CX:vd}{P:RM}{w:RL}{K:Qw}{mg:bP}{base:RN}{N ps:au}{qual:Str}{scope:RW}{f:RG}{cd:RE}{A:RV}{outer:List Env}{s s1:RK}{H:Hp}{E:XK}{us:aU}{vs:aH}
  (S:cx N ps scope) (hd:A.handled=none) (e0:xC P w K mg base A outer s H) (hl:vs.length=ps.length) (r:Vals vs us)
  (x:InCallC s s.heap.objs.size (bindL (envOfC qual scope s.heap.objs.size f cd).kindOf (ps.zip us) λ_=>none) (cellsFrom (s.heap.objs.size+1) scope.names []) (bindC (envOfC qual scope s.heap.objs.size f cd).kindOf (ps.zip us) λ_=>none) s1):
  Inv (fO CX P w K mg base N qual scope f cd A outer s H E) [] (start N vs) H s1:=by
 have hpl:ps.length<=N.length:=by have:=congrArg List.length S.pre;rw[NE]at this;omega
 obtain⟨h1,tk,rfl,hk⟩:=x.done;have noA:∀b:RG,b∉(fO CX P w K mg base N qual scope f cd A outer s H E).ex:=λb z=>absurd (show b∈([]:aF)from z) (by simp);refine⟨⟨e0.mod,S.kind,rfl,rfl,Nq _,λy z c h1 h2=>?_,λy hy=>?_,λy c _ h=>?_,λ_=>hd,Around.frames_deeper e0.frames,.inr ⟨rfl,rfl⟩,λb z=>absurd z (noA b),e0.bs,e0.bsz,λb _ _=>noA b,λb z=>absurd z (noA b),e0.funs,e0.frf⟩,
  rfl,e0.bare,Un.kept hk,⟨_,x.toInCall.ns,λi y v h1 h2 h3=>?_⟩,λy c h=>⟨_,x.cell y c h⟩,e0.hok.fresh (Nq _),λy c h=>?_,λp hp=>absurd (show p∈([]:bn)from hp) (by simp),e0.hok.kept hk,?_⟩
 ·exact name_of_addr x.apart (PySem.mem_of_lookup h1) (PySem.mem_of_lookup h2)
 ·have hy:scope.names.lookup y=some .cell\/scope.names.lookup y=some .free:=hy;rcases hy with hy|hy
  ·exact sf hy
  ·exact absurd rfl (S.nofree _ (PySem.mem_of_lookup hy))
 ·exact Nf (x.above y c (PySem.mem_of_lookup h))
 ·have hi:i<vs.length:=by
   unfold start at h2;by_cases hi:i<vs.length
   ·exact hi
   ·rw[NF (by simpa using hi)]at h2;rw[NI]at h2;split at h2<;>cases h2
  have ha:vs[i]?=some v:=by
   unfold start at h2;rw[NK (by simpa using hi),NM]at h2;cases e:vs[i]? with
   |none=>rw[e]at h2;cases h2
   |some a=>rw[e]at h2;cases h2;rfl
  obtain⟨u,hu,rv⟩:=r.get ha;have hp:ps[i]?=some y:=by
   rw[<-S.pre,NN ‹0›];exact h1
  have ndP:ps.Nodup:=by rw[<-S.pre];exact S.nd.sublist (NP _ _)
  refine⟨u,rv,?_⟩;rcases S.par y (NQ hp)with k|k
  ·exact .inl ⟨k,o5 ndP hp hu k⟩
  ·obtain⟨c,e⟩:=sf (n:=s.heap.objs.size+1) k;refine .inr ⟨.inl k,c,e,?_⟩;have q:=x.cell y c e;rw[oU ndP hp hu (by show scope.names.lookup y≠_;rw[k];decide)]at q;exact q
 ·exact e0.hok.fresh (Nf (x.above y c (PySem.mem_of_lookup h)))
 ·unfold start;show _=N.length;rw[NR,Nx,List.length_replicate];omega
theorem A2{CX:vd}{P:RM}{w:RL}{K:Qw}{mg:bP}{base:RN}{k:Nat}{f:RG}{name qual:Str}{params:SK}{body:dM}{scope:RW}{dV kV doc pm cdv ct oc:RE}{an od:Option RG}
  {osl:Array (Option RE)} {N ps:au} {sp:Sp} (lk:K.lookup f=some ⟨oc,od,.func (QM name qual params body scope dV kV doc pm an cdv ct),osl⟩) (hcd:QN K cdv qual=true) (S:cx N ps scope)
  (len:∀vs H Q E,sp vs H Q E->vs.length=ps.length)
  (hbody:∀ (A:RV) (outer:List Env) (s:RK) (H:Hp) (vs:aH) (Q:VK) (E:XK),eI k (A.deeper (envOfC qual scope s.heap.objs.size f cdv))->sp vs H Q E ->
   ∃t,oV (fO CX P w K mg base N qual scope f cdv A outer s H E) body t/\t {nx:=λ_ H'=>Q .non H',rt:=Q} (start N vs) H):
  fP P w K mg base CX (k+1) f (QM name qual params body scope dV kV doc pm an cdv ct) ps sp:=by
 refine⟨len,λA outer s H args us vs Q E hr e0 hb r hsp=>?_⟩;have hl:=len _ _ _ _ hsp;have KX:K.In s.heap:=e0.mod.kin.keeps λb o e=>(e0.bs b o e).1;have lim:s.heap.NoLimit:=e0.mod.nolimit.keeps λb o e=>(e0.bs b o e).1;have hkind:∀y∈ps.zip us,scope.names.lookup y.1=some .local\/(scope.names.lookup y.1=some .cell/\((cellsFrom (s.heap.objs.size+1) scope.names []).lookup y.1).isSome=true):=λ⟨n,v⟩ hy=>by
  rcases S.par n (ND hy).1 with q|q
  ·exact .inl q
  ·exact .inr ⟨q,QL _ _ _ (.inl q)⟩
 refine codeAny_call_function hr.depth (KX _ _ lk) rfl S.co S.gen rfl (PySem.W.codeRec_of KX hcd) (hb _ _ _ _ ?_);refine wpAny_newFunctionEnv_cells S.kind hkind λenv he s1 x=>?_;subst he;refine⟨lim.keeps x.toInCall.keep,codeAny_func ?_⟩;obtain⟨t,ht,hq⟩:=hbody A outer s H vs Q E (hr.deeper _) hsp;have I:Inv (fO CX P w K mg base N qual scope f cdv A outer s H E) [] (start N vs) H s1:=xF S hr.hd e0 hl r x;refine R0 (ht [] s1 (start N vs) H _ I hq) (λfl s' hs=>?_) λe s' hs=>hs;have fin:∀{σ':St}{H':Hp}{v:V}{u:RE},Inv (fO CX P w K mg base N qual scope f cdv A outer s H E) [] σ' H' s'->RelV v u->Q v H'->CE outer P w H s Q u s':=
  λ{σ' H' v u} J rv q=>⟨v,H',J.os,J.bare,J.base,J.hok,rv,q⟩
 cases fl with
 |ret u=>
  obtain⟨v,σ',H',J,rv,q⟩:=hs;exact fin J rv q
 |next=>
  obtain⟨σ',H',J,q⟩:=hs;exact fin (v:=V.non) (u:=Value.none) J rfl q
 |brk=>
  obtain⟨_,_,_,q⟩:=hs;exact False.elim q
 |cont=>
  obtain⟨_,_,_,q⟩:=hs;exact False.elim q
section
variable{X:Cx}{x:Str}{p pos:Pos}{e:RH}{es:bA}{t:TA}{id T:String}{r:aH->Hp->VK->Prop}
noncomputable def K1(r:aH->Hp->VK->Prop)(t:TA):TE:=λσ H Q=>t σ H λvs H1=>r vs H1 Q
theorem tU(hc:gA X (.builtin id) r)(hg:Gl X x)(hm:X.mg x=none)(hv:RU x=some (.builtin id))(ha:PA X (e::es) t)(hn:x≠"__name__":=by decide)(hdb:(x==("__debug__":Str))=false:=by decide)
  (he:RZ (e::es) X.env=(false,eval e X.env)::RZ es X.env:=by rfl) (hpl:(backTo pos (RZ es X.env)).any (·.1)=false:=by rfl):PE X (.Call (.Name x p) (e::es) [] pos) (K1 r t):=by
 intro pins s σ H Q I h;refine SJ (gV I hg hm hv ?_ hn hdb);exact PyProof.Rows.callWith_builtin1 (cN (ha pos pins s σ H _ I h) λus s1 ⟨vs,H1,I1,r1,q1⟩=>hc pins s1 σ H1 vs us Q I1 r1 q1) he hpl
theorem xS(hc:gA X (.type T) r)(hg:Gl X x)(hm:X.mg x=none)(hv:RU x=some (.type T))(ha:PA X (e::es) t)(hn:x≠"__name__":=by decide)(hdb:(x==("__debug__":Str))=false:=by decide)
  (he:RZ (e::es) X.env=(false,eval e X.env)::RZ es X.env:=by rfl) (hpl:(backTo pos (RZ es X.env)).any (·.1)=false:=by rfl):PE X (.Call (.Name x p) (e::es) [] pos) (K1 r t):=by
 intro pins s σ H Q I h;refine SJ (gV I hg hm hv ?_ hn hdb);exact Rr (cN (ha pos pins s σ H _ I h) λus s1 ⟨vs,H1,I1,r1,q1⟩=>hc pins s1 σ H1 vs us Q I1 r1 q1) he hpl
end
end L2
namespace HT
open PySem PyProof.Rows
theorem IT(A:RV)(s:RK)(a:Int)(t:Tok)(c:Int)(u:Tok)(prog:RM)(w:RL)(E:RE->RK->Prop)(Q:RE->RK->Prop)(h:Q (.bool (decide (a<c))) s):
  RY (model prog w) A (richCompare .Lt (.int a t) (.int c u)) Q E s:=
 (PyProof.Rows.lt_int h:RY (model prog w) A (R5 .Lt (.int a t) (.int c u)) Q E s)
section
open PySem.SeqAt
open PySem.AutoSeq1 (wpAny_loadPart')
open PySem.MeetsSeq PySem.MeetsSeq2 PySem.MeetsSeq3
end
section
variable{prog:RM}{w:RL}{A:RV}{E:RE->RK->Prop}{s:RK}
theorem JA{t b:RG}{vs ws:List RE}{Q:RE->RK->Prop}(ht:RP s.heap t vs.toArray)(hb:RP s.heap b ws.toArray)(hv:vs≠[])
  (h1:ws=[]->Q (.ref t) s) (h2:ws≠[]->Q (.ref s.heap.objs.size) {s with heap:=s.heap.push {cls:=.type "tuple",data:=.seq (vs++ws).toArray}})
  (hsz:vs.length+ws.length<=RO):RY (model prog w) A (Sj .Add (.ref t) (.ref b)) Q E s:=by
 obtain⟨⟨cls,dd,data,sl⟩,ho,hc,n,hd⟩:=id ht;obtain⟨⟨cls2,dd2,data2,sl2⟩,ho2,hc2,n2,hd2⟩:=id hb;simp only at hc hd hc2 hd2;subst hc hd hc2 hd2;have e:vs.toArray++ws.toArray=(vs++ws).toArray:=by simp
 by_cases hw:ws=[]
 ·exact SM ⟨_,ho,rfl⟩ ⟨_,ho2,rfl⟩ SN SR Rz RB (RC _ _)
   (tuple_addW1 t b vs.toArray ws.toArray n n2 dd dd2 sl sl2 (by simpa using hv) (by simp[hw])) ⟨ho,ho2,h1 hw⟩
 ·refine SM ⟨_,ho,rfl⟩ ⟨_,ho2,rfl⟩ SN SR Rz RB (RC _ _)
   (tuple_addW2 t b vs.toArray ws.toArray n n2 dd dd2 sl sl2 (by simpa using hv) (by simpa using hw) (by rw[Nt,Nt];exact hsz)) ⟨ho,ho2,?_⟩
  rw[e];exact h2 hw
noncomputable def sIx(n d:Nat):Option Int->Nat
 |none=>d
 |some v=>if v<0 then(v+(n:Int)).toNat else min v.toNat n
theorem HY(n d:Nat):sIx n d none=d:=rfl
theorem JM(n d k:Nat):sIx n d (some (k:Int))=min k n:=by
 show(if(k:Int)<0 then((k:Int)+(n:Int)).toNat else min (k:Int).toNat n)=min k n;rw[if_neg ‹0›,NS]
theorem Hi(n d:Nat)(hd:d<=n)(o:Option Int):sIx n d o<=n:=by
 cases o with
 |none=>exact hd
 |some v=>
  show(if v<0 then(v+(n:Int)).toNat else min v.toNat n)<=n;by_cases hv:v<0
  ·rw[if_pos hv];omega
  ·rw[if_neg hv];exact Nat.min_le_right _ _
theorem v6(v:Int)(n d:Nat):(if v<0 then max (v+(n:Int)) 0 else min v (n:Int))=((sIx n d (some v):Nat):Int):=by
 show(if v<0 then max (v+(n:Int)) 0 else min v (n:Int))=(((if v<0 then(v+(n:Int)).toNat else min v.toNat n):Nat):Int)
 by_cases hv:v<0
 ·simp only[if_pos hv];omega
 ·simp only[if_neg hv];omega
theorem uY(lo hi:Option Int)(n:Nat):Builtin.Slice.sliceAdjust lo hi 1 (n:Int)=(((sIx n 0 lo:Nat):Int),((sIx n n hi:Nat):Int)):=by
 have h1:¬((1:Int)<0):=by omega
 unfold Builtin.Slice.sliceAdjust;simp only[h1,if_false];refine Prod.ext ?_ ?_
 ·cases lo with
  |none=>rfl
  |some v=>exact v6 v n 0
 ·cases hi with
  |none=>rfl
  |some v=>exact v6 v n n
theorem ud(i j:Nat):Builtin.Slice.slicePlaces (i:Int) (j:Int) 1=j-i:=by
 unfold Builtin.Slice.slicePlaces;have h1:(1:Int)>0:=by omega
 simp only[h1,if_true,Int.ediv_one];split<;>omega
theorem nw{v:RE}{o:Option Int}{Q:Option Int->RK->Prop}(p:SU v o)(h:Q o s):RY (model prog w) A (Builtin.Slice.slicePartIndex v) Q E s:=by
 cases p with
 |none=>exact slicePart_none h
 |int i t=>exact slicePart_int h
theorem lF{sl:RG}{vl vu:RE}{lo hi:Option Int}{n:Nat}{Q:Int×Int×Nat->RK->Prop}(hs:s.heap.IsSliceOf sl vl vu .none)(pl:SU vl lo)(pu:SU vu hi)
  (h:Q (((sIx n 0 lo:Nat):Int),1,sIx n n hi-sIx n 0 lo) s):RY (model prog w) A (Builtin.Slice.sliceApplied (.ref sl) (pure (n:Int))) Q E s:=by
 obtain⟨os,hos,hcs,hds⟩:=id hs;unfold Builtin.Slice.sliceApplied Builtin.Slice.sliceFields;refine Sd (Sd (SV hos hds (x:=vl) rfl (Sd (SV hos hds (x:=vu) rfl (Sd (SV hos hds (x:=.none) rfl (Sb ?_)))))));refine Sd (slicePart_none ?_);show RY _ _ (if((1:Int)==0)=true then _ else _) _ _ s;rw[if_neg (by decide)];refine Sd (nw pl (Sd (nw pu (Sd (Sb ?_)))));show RY _ _ (match Builtin.Slice.sliceAdjust lo hi 1 (n:Int)with|(lo,hi)=>pure (lo,(1:Int),Builtin.Slice.slicePlaces lo hi 1)) _ _ s;rw[uY lo hi n];show RY _ _ (pure (((sIx n 0 lo:Nat):Int),(1:Int),Builtin.Slice.slicePlaces ((sIx n 0 lo:Nat):Int) ((sIx n n hi:Nat):Int) 1)) _ _ s;rw[ud];exact Sb h
theorem zl(xs:Array RE)(i k:Nat):((List.range k).filterMap λ(m:Nat)=>xs[((i:Int)+(m:Int)*1).toNat]?).toArray=((xs.toList.drop i).take k).toArray:=by
 have e:(λ(m:Nat)=>xs[((i:Int)+(m:Int)*1).toNat]?)=λm=>xs[i+m]?:=by
  funext m
  have:((i:Int)+(m:Int)*1).toNat=i+m:=by omega
  rw[this]
 rw[e]
 have:=pick_run xs i k
 rw[List.filterMap_map]at this;have e2:((λx=>xs[x]?)∘λx=>i+x)=λm=>xs[i+m]?:=rfl;rw[e2]at this;rw[this]
theorem vP{t sl:RG}{items:Array RE}{vl vu:RE}{lo hi:Option Int}{Q:RE->RK->Prop}(ht:RP s.heap t items)(hs:s.heap.IsSliceOf sl vl vu .none)(pl:SU vl lo)(pu:SU vu hi)
  (hw:¬(sIx items.size 0 lo=0/\sIx items.size items.size hi=items.size))
  (h:Q (.ref s.heap.objs.size) {s with heap:=s.heap.push {cls:=.type "tuple",data:=.seq ((items.toList.drop (sIx items.size 0 lo)).take (sIx items.size items.size hi-sIx items.size 0 lo)).toArray}})
  (hsz:items.size<=RO):RY (model prog w) A (getItem (.ref t) (.ref sl)) Q E s:=by
 have htake:sizeOk (.seq ((items.toList.drop (sIx items.size 0 lo)).take (sIx items.size items.size hi-sIx items.size 0 lo)).toArray):=by
  show((items.toList.drop (sIx items.size 0 lo)).take (sIx items.size items.size hi-sIx items.size 0 lo)).toArray.size<=RO;rw[Nt,NE,NT,Array.length_toList];omega
 have hj:sIx items.size items.size hi<=items.size:=Hi _ _ (Nq _) hi;obtain⟨os,hos,hcs,hds⟩:=id hs;have hTs:s.TypeIs (.ref sl) "slice":=⟨os,hos,hcs⟩
 unfold getItem
 try with_reducible refine SW ?_
 first|refine Sd (Sb ?_)|skip
 refine Sd (wpAny_sequenceKey ht.typeIs (by decide) ?_);refine Sd (SY (name:=Str.ofString "__getitem__") ht.typeIs Rt
  (SZ Rt ht.typeIs entry_tuple_getitem ?_ (args_tuple_getitem _ _)))
 show RY _ _ (Builtin.Tuple.tupleItemsOf (.ref t) >>= _) _ _ s;refine Sd (tupleItemsOf_ ht ?_);refine Sd (S0 hTs ?_);rw[if_pos (by decide)];refine Sd (lF hs pl pu ?_);have hno:¬((((sIx items.size 0 lo:Nat):Int)==0&&(1:Int)==1&&(sIx items.size items.size hi-sIx items.size 0 lo)==items.size)=true):=by
  intro q;rw[NU,NU]at q;have q1:((sIx items.size 0 lo:Nat):Int)=0:=eq_of_beq q.1.1;have q2:sIx items.size items.size hi-sIx items.size 0 lo=items.size:=eq_of_beq q.2;exact hw ⟨by omega,by omega⟩
 show RY _ _ (if(((sIx items.size 0 lo:Nat):Int)==0&&(1:Int)==1&&(sIx items.size items.size hi-sIx items.size 0 lo)==items.size)=true then _ else _) _ _ s;rw[if_neg hno,zl]
 first
  |exact Sd (m:=Builtin.Tuple.tupleExact _) (S3 (Sb ⟨_,rfl,Sb h⟩) htake)
  |exact Sd (m:=Builtin.Tuple.tupleExact _) (S3 (Sd (Sb (Sb ⟨_,rfl,Sb h⟩))) htake)
  |exact Sd (Sd (m:=Builtin.Tuple.tupleExact _) (S3 (Sb (Sb ⟨_,rfl,Sb h⟩)) htake))
  |exact Sd (Sd (m:=Builtin.Tuple.tupleExact _) (S3 (Sb ⟨_,rfl,Sb h⟩) htake))
end
end HT
namespace L2
open PySem PySem.Spec PyProof.Rows
noncomputable abbrev TO:=St->Hp->(cR->Hp->Prop)->Prop
noncomputable def PO(X:Cx)(e:Option RH)(t:TO):Prop:=
 ∀(pins:bn)(s:RK)(σ:St)(H:Hp)(Q:cR->Hp->Prop),Inv X pins σ H s->t σ H Q->
  RY (model X.prog X.w) X.A (evalPart e X.env) (λu s'=>∃o H',Inv X pins σ H' s'/\SU u o/\Q o H') X.xe s
noncomputable def DJ:TO:=λ_ H Q=>Q none H
noncomputable def Ig(t:TE):TO:=λσ H Q=>t σ H λx H1=>∃i,x=.int i/\Q (some i) H1
section
variable{X:Cx}{e:RH}{te:TE}{lo hi:Option RH}{tl th:TO}{pos p2:Pos}
theorem B8:PO X none DJ:=by
 intro pins s σ H Q I h;rw[S4];exact Sb ⟨none,H,I,.none,h⟩
theorem DR(h:PE X e te):PO X (some e) (Ig te):=by
 intro pins s σ H Q I hw;rw[evalPart_some];refine cN (h pins s σ H _ I hw) λu s1 ⟨x,H1,I1,r1,q1⟩=>?_;obtain⟨i,rfl,q⟩:=q1;obtain⟨t,rfl⟩:=r1;exact⟨some i,H1,I1,.int i t,q⟩
noncomputable def JO(X:Cx)(r:V->cR->cR->Hp->VK->Prop):Prop:=
 ∀(pins:bn)(s:RK)(σ:St)(H:Hp)(x:V)(v vl vu:RE)(lo hi:cR)(sl:RG)(Q:VK),Inv X pins σ H s->RelV x v->s.heap.IsSliceOf sl vl vu .none->SU vl lo->SU vu hi->r x lo hi H Q->
  ∃T id,typeLookup (.type T) "__getitem__"=pure (some (.builtin id))/\s.TypeIs v T/\RY (model X.prog X.w) X.A (getItem v (.ref sl)) (EP X pins σ Q) X.xe s
noncomputable def MM(r:V->cR->cR->Hp->VK->Prop)(te:TE)(tl th:TO):TE:=λσ H Q=>te σ H λx H1=>tl σ H1 λl H2=>th σ H2 λu H3=>r x l u H3 Q
theorem Br{r:V->cR->cR->Hp->VK->Prop}(hr:JO X r)(he:PE X e te)(hl:PO X lo tl)(hu:PO X hi th):PE X (.Subscript e (.Slice lo hi none p2) pos) (MM r te tl th):=by
 intro pins s σ H Q I h;refine Subscript_ (cN (he pins s σ H _ I h) λv s1 ⟨x,H1,I1,r1,q1⟩=>?_);refine wpAny_Slice (cN (hl pins s1 σ H1 _ I1 q1) λvl s2 ⟨l,H2,I2,pl,q2⟩=>cN (hu pins s2 σ H2 _ I2 q2) λvu s3 ⟨u,H3,I3,pu,q3⟩=>?_);rw[S4];refine Sb ?_;have I4:Inv X pins σ H3 {s3 with heap:=s3.heap.push {cls:=.type "slice",data:=.fields #[vl,vu,.none]}}:=I3.kept (t':=s3.toks) λb ob q=>Ri _ q;obtain⟨T,id,hT,ht,hg⟩:=hr pins {s3 with heap:=s3.heap.push {cls:=.type "slice",data:=.fields #[vl,vu,.none]}} σ H3 x v vl vu l u s3.heap.objs.size Q I4 r1 (Heap.IsSliceOf.new ..) pl pu q3;show RY (model X.prog X.w) X.A (subscriptTail e (.Slice lo hi none p2) v (.ref s3.heap.objs.size)) (EP X pins σ Q) X.xe {s3 with heap:=s3.heap.push {cls:=.type "slice",data:=.fields #[vl,vu,.none]}};exact tail_any (ops:=[.ref s3.heap.objs.size,v]) ht hT hg (by with_unfolding_all rfl)
noncomputable def t9(xs:aH)(lo hi:cR):aH:=(xs.drop (HT.sIx xs.length 0 lo)).take (HT.sIx xs.length xs.length hi-HT.sIx xs.length 0 lo)
theorem me(xs:aH)(lo hi:cR):(t9 xs lo hi).length<=xs.length:=by
 unfold t9;rw[NE,NT];omega
noncomputable def JX(K:Qw):V->cR->cR->Hp->VK->Prop:=λx lo hi H Q=>∃a xs,x=.ref a/\lZ K H a xs/\
 ¬(HT.sIx xs.length 0 lo=0/\HT.sIx xs.length xs.length hi=xs.length)/\∀p,H p=none->Q (.ref p) (upd H p (.tup (t9 xs lo hi)))
theorem Hw:JO X (JX X.K):=by
 intro pins s σ H x v vl vu lo hi sl Q I rx hs pl pu h;obtain⟨a,xs,rfl,hx,hw,q⟩:=h;cases rx;obtain⟨its,r,ht,hz⟩:=I.tuple hx;have hlen:its.toArray.size=xs.length:=by rw[Nt];exact r.length.symm
 refine⟨"tuple",_,PyProof.Rows.slot_tuple_getitem.lookup,ht.typeIs,?_⟩;refine HT.vP ht hs pl pu (by rw[hlen];exact hw) ?_ (by rw[hlen];exact hz);rw[hlen];refine⟨.ref s.heap.objs.size,_,I.laid (t':=s.toks) (o:=.tup (t9 xs lo hi)) (λb ob q=>Ri _ q) (Nq _) ?_,rfl,q _ (I.hok.fresh (Nq _))⟩;exact⟨Nc (me xs lo hi) hz,_,(r.drop (HT.sIx xs.length 0 lo)).take (HT.sIx xs.length xs.length hi-HT.sIx xs.length 0 lo),IsTup.new _ _⟩
noncomputable def HU(K:Qw):R2:=λx y H Q=>∃a b xs ys,x=.ref a/\y=.ref b/\lZ K H a xs/\lZ K H b ys/\xs≠[]/\xs.length+ys.length<=RO/\
 (ys=[]->Q (.ref a) H)/\(ys≠[]->∀p,H p=none->Q (.ref p) (upd H p (.tup (xs++ys))))
theorem Vals.nil_iff{xs:aH}{us:aU}(r:Vals xs us):us=[]↔xs=[]:=by
 cases r with
 |nil=>simp
 |cons _ _=>simp
theorem Dd:ic X (Sj .Add) (HU X.K):=by
 intro pins s σ H x y v u Q I rx ry h;obtain⟨a,b,xs,ys,rfl,rfl,ha,hb,hx,hz,q1,q2⟩:=h;cases rx;cases ry;obtain⟨its,r1,p1,_⟩:=I.tuple ha;obtain⟨its2,r2,p2,_⟩:=I.tuple hb;refine HT.JA p1 p2 (λz=>hx (r1.nil_iff.mp z)) (λz=>⟨.ref a,H,I,rfl,q1 (r2.nil_iff.mp z)⟩) (λz=>?_) (by rw[<-r1.length,<-r2.length];exact hz);refine⟨.ref s.heap.objs.size,_,I.laid (t':=s.toks) (o:=.tup (xs++ys)) (λb ob q=>Ri _ q) (Nq _) ?_,rfl,q2 (λw=>z (r2.nil_iff.mpr w)) _ (I.hok.fresh (Nq _))⟩;exact⟨by rw[NR];exact hz,_,r1.append r2,IsTup.new _ _⟩
end
noncomputable def Fc(n:Nat)(i:Int):Option Nat:=if 0<=i then(if i<n then some i.toNat else none)else if -(n:Int)<=i then some (i+n).toNat else none
noncomputable def jQ{α:Type}(xs:List α)(i:Int):Option α:=(Fc xs.length i).bind λj=>xs[j]?
theorem En{n:Nat}{i:Int}{j:Nat}(h:Fc n i=some j):seqIndex? i n=some j/\j<n/\-(n:Int)<=i/\i<n:=by
 unfold Fc at h;by_cases h0:0<=i
 ·rw[if_pos h0]at h;by_cases h1:i<n
  ·rw[if_pos h1]at h;have e:i.toNat=j:=Option.some.inj h;exact⟨by rw[seqIndex_of h0 h1,e],by omega,by omega,h1⟩
  ·rw[if_neg h1]at h;cases h
 ·rw[if_neg h0]at h;by_cases h1:-(n:Int)<=i
  ·rw[if_pos h1]at h;have e:(i+n).toNat=j:=Option.some.inj h;exact⟨by rw[seqIndex_neg ‹0› h1,e],by omega,h1,by omega⟩
  ·rw[if_neg h1]at h;cases h
theorem rL{α:Type}{xs:List α}{i:Int}{v:α}(h:jQ xs i=some v):∃j,seqIndex? i xs.length=some j/\xs[j]?=some v/\j<xs.length/\-(xs.length:Int)<=i/\i<xs.length:=by
 unfold jQ at h;cases e:Fc xs.length i with
 |none=>rw[e]at h;cases h
 |some j=>
  rw[e]at h;obtain⟨h1,h2,h3,h4⟩:=En e;exact⟨j,h1,h,h2,h3,h4⟩
noncomputable def qi(b:RH):Prop:=∀o i,subscripted b false o i=operate [o,i] (getItem o i)
noncomputable def H0(X:Cx)(r:R2):Prop:=
 ∀(value slice:RH)(pins:bn)(s:RK)(σ:St)(H:Hp)(x y:V)(v u:RE)(Q:VK),Inv X pins σ H s->RelV x v->RelV y u->r x y H Q->
  subscripted slice false v u=operate [v,u] (getItem v u)->RY (model X.prog X.w) X.A (subscriptTail value slice v u) (EP X pins σ Q) X.xe s
noncomputable def LO(X:Cx)(id:String)(r:V->aH->Hp->VK->Prop):Prop:=
 ∀(pins:bn)(s:RK)(σ:St)(H:Hp)(x:V)(xs:aH)(v:RE)(us:aU)(Q:VK),Inv X pins σ H s->RelV x v->Vals xs us->r x xs H Q->
  RY (model X.prog X.w) X.A (call (.builtin id) (v::us)) (EP X pins σ Q) X.xe s
section
variable{X:Cx}{a b:RH}{ta tb:TE}{pos:Pos}
theorem Jb{r:R2}(hr:H0 X r)(ha:PE X a ta)(hb:PE X b tb)(hs:qi b):PE X (.Subscript a b pos) (IY r ta tb):=by
 intro pins s σ H Q I h;exact Subscript_ (Fu ha hb I h λv u s2 x y H2 I2 rx ry q=>hr a b pins s2 σ H2 x y v u Q I2 rx ry q (hs _ _))
noncomputable def Kk(K:Qw):R2:=λx y H Q=>∃p xs i v,x=.ref p/\y=.int i/\jR K H p xs/\jQ xs i=some v/\Q v H
noncomputable def JY(K:Qw):R2:=λx y H Q=>∃p xs i v,x=.ref p/\y=.int i/\lZ K H p xs/\jQ xs i=some v/\Q v H
noncomputable def Kd:R2:=λx y H Q=>∃z i c,x=.str z/\y=.int i/\z.length<=RO/\jQ z.cps.toList i=some c/\Q (.str ⟨#[c]⟩) H
theorem DK:H0 X (Kk X.K):=by
 intro value slice pins s σ H x y v u Q I rx ry h hs;obtain⟨p,xs,i,z,rfl,rfl,hq,he,q⟩:=h;cases rx;obtain⟨t,rfl⟩:=ry;obtain⟨its,r,pl,hz⟩:=I.list hq;obtain⟨j,h1,h2,h3,h4,h5⟩:=rL he;obtain⟨w,ew,rw'⟩:=r.get h2;have hl:=r.length;have hn:=lB;have fin:EP X pins σ Q w s:=⟨z,H,I,rw',q⟩
 by_cases h0:0<=i
 ·have hj:i.toNat=j:=by
   rw[seqIndex_of h0 h5]at h1;exact Option.some.inj h1
  exact item_listR pl.isList h0 ‹0› (by rw[hj];simpa using ew) fin hs
 ·have hj:(i+(its.toArray.size:Int)).toNat=j:=by
   rw[seqIndex_neg ‹0› h4]at h1;rw[Nt,<-hl];exact Option.some.inj h1
  exact subscriptTail_builtinR (x:=w) pl.isList.typeIs slot_list_getitem.lookup
   (wpAny_getItem_list_neg (Q:=λr s'=>r=w/\EP X pins σ Q r s') pl.isList ‹0› (by rw[Nt]<;>omega) ‹0› (by rw[hj];simpa using ew) ⟨rfl,fin⟩) hs
theorem Hx:H0 X (JY X.K):=by
 intro value slice pins s σ H x y v u Q I rx ry h hs;obtain⟨p,xs,i,z,rfl,rfl,hq,he,q⟩:=h;cases rx;obtain⟨t,rfl⟩:=ry;obtain⟨its,r,pl,hz⟩:=I.tuple hq;obtain⟨j,h1,h2,h3,h4,h5⟩:=rL he;obtain⟨w,ew,rw'⟩:=r.get h2;have hl:=r.length;have hn:=lB;have fin:EP X pins σ Q w s:=⟨z,H,I,rw',q⟩
 exact subscriptTail_builtinR (x:=w) pl.typeIs slot_tuple_getitem.lookup
  (getItem_tuple (j:=j) (Q:=λr s'=>r=w/\EP X pins σ Q r s') pl ‹0› ‹0› (by rw[Nt,<-hl];exact h1) (by simpa using ew) ⟨rfl,fin⟩) hs
theorem Hr:H0 X Kd:=by
 intro value slice pins s σ H x y v u Q I rx ry h hs;obtain⟨z,i,c,rfl,rfl,hz,he,q⟩:=h;obtain⟨t,rfl⟩:=rx;obtain⟨t',rfl⟩:=ry;obtain⟨j,h1,h2,h3,h4,h5⟩:=rL he;have hl:z.cps.toList.length=z.length:=by simp[Str.length]
 rw[hl]at h1 h4 h5;have hn:=lB;exact tail_any (typeIs_str s z t) slot_str_getitem.lookup (getItem_str (c:=c) (by
  have e1:decide (i < -(2^63:Int))=false:=decide_eq_false ‹0›;have e2:decide (i>=2^63)=false:=decide_eq_false ‹0›;rw[e1,e2,NV]) (by rw[h1];simpa using h2) ⟨.str ⟨#[c]⟩,H,I.tok _,⟨_,rfl⟩,q⟩) hs
theorem rd(lo hi:cR)(n:Nat):(sliceBounds lo hi none n).1=((HT.sIx n 0 lo:Nat):Int)/\(sliceBounds lo hi none n).2.1=((HT.sIx n n hi:Nat):Int)/\(sliceBounds lo hi none n).2.2=1:=by
 refine⟨?_,?_,rfl⟩
 ·cases lo with
  |none=>simp[sliceBounds,HT.sIx]
  |some i=>
   simp only[sliceBounds,HT.sIx,NW,show(1:Int)>0 by decide,if_true];by_cases h:i<0
   ·simp only[h,if_true]<;>omega
   ·simp only[h,if_false]<;>omega
 ·cases hi with
  |none=>simp[sliceBounds,HT.sIx]
  |some i=>
   simp only[sliceBounds,HT.sIx,NW,show(1:Int)>0 by decide,if_true];by_cases h:i<0
   ·simp only[h,if_true]<;>omega
   ·simp only[h,if_false]<;>omega
theorem oC(its:aU)(lo hi:cR):slicePick its.toArray lo hi none=((its.drop (HT.sIx its.length 0 lo)).take (HT.sIx its.length its.length hi-HT.sIx its.length 0 lo)).toArray:=by
 obtain⟨h1,h2,h3⟩:=rd lo hi its.toArray.size;unfold slicePick;rw[h1,h2,h3];simp only[sliceRange_one,pick_run,Nt]<;>rfl
noncomputable def Lb(K:Qw):V->cR->cR->Hp->VK->Prop:=λx lo hi H Q=>∃a xs,x=.ref a/\jR K H a xs/\∀p,H p=none->Q (.ref p) (upd H p (.lst (t9 xs lo hi)))
theorem Es:JO X (Lb X.K):=by
 intro pins s σ H x v vl vu lo hi sl Q I rx hs pl pu h;obtain⟨a,xs,rfl,hx,q⟩:=h;cases rx;obtain⟨its,r,ht,hz⟩:=I.list hx;have hlen:=r.length;refine⟨"list",_,slot_list_getitem.lookup,ht.isList.typeIs,?_⟩;refine wpAny_getItem_list_slice ht.isList hs pl pu .none (by simp) ?_ (by rw[Nt]<;>omega);rw[oC,<-hlen];refine⟨.ref s.heap.objs.size,_,I.laid (t':=s.toks) (o:=.lst (t9 xs lo hi)) (λb ob q=>Ri _ q) (Nq _) ?_,rfl,q _ (I.hok.fresh (Nq _))⟩;exact⟨Nc (me xs lo hi) hz,_,0,(r.drop (HT.sIx xs.length 0 lo)).take (HT.sIx xs.length xs.length hi-HT.sIx xs.length 0 lo),Rj _ rfl⟩
noncomputable def zF:V->Bool
 |.non=>true
 |.bl _=>true
 |.int _=>true
 |.str _=>true
 |_=>false
noncomputable def J6:V->V->Bool
 |.non,.non=>true
 |.bl a,.bl b=>a==b
 |.bl a,.int b=>(if a then 1 else 0)==b
 |.int a,.bl b=>a==(if b then 1 else 0)
 |.int a,.int b=>a==b
 |.str a,.str b=>a==b
 |_,_=>false
theorem GV{A:RV}{s:RK}{y x:V}{u v:RE}(ry:RelV y u)(rx:RelV x v)(fy:zF y=true)(fx:zF x=true):SeqAt.EqAt A s u v (J6 y x):=by
 cases y with
 |non=>
  cases ry;cases x with
  |non=>cases rx;exact SeqAt.EqAt.same _
  |bl b=>cases rx;exact SeqAt.EqAt.none_bool b
  |int b=>obtain⟨t,rfl⟩:=rx;exact SeqAt.EqAt.none_int b t
  |str b=>obtain⟨t,rfl⟩:=rx;exact SeqAt.EqAt.none_str b t
  |_=>exact absurd (show false=true from fx) Nn
 |bl a=>
  cases ry;cases x with
  |non=>cases rx;exact SeqAt.EqAt.bool_none a
  |bl b=>cases rx;exact SeqAt.EqAt.bool_bool a b
  |int b=>obtain⟨t,rfl⟩:=rx;exact SeqAt.EqAt.bool_int a b t
  |str b=>obtain⟨t,rfl⟩:=rx;exact SeqAt.EqAt.bool_str a b t
  |_=>exact absurd (show false=true from fx) Nn
 |int a=>
  obtain⟨t',rfl⟩:=ry;cases x with
  |non=>cases rx;exact SeqAt.EqAt.int_none a t'
  |bl b=>cases rx;exact SeqAt.EqAt.int_bool a t' b
  |int b=>obtain⟨t,rfl⟩:=rx;exact SeqAt.EqAt.int_int a t' b t
  |str b=>obtain⟨t,rfl⟩:=rx;exact SeqAt.EqAt.int_str a t' b t
  |_=>exact absurd (show false=true from fx) Nn
 |str a=>
  obtain⟨t',rfl⟩:=ry;cases x with
  |non=>cases rx;exact SeqAt.EqAt.str_none a t'
  |bl b=>cases rx;exact SeqAt.EqAt.str_bool a t' b
  |int b=>obtain⟨t,rfl⟩:=rx;exact SeqAt.EqAt.str_int a t' b t
  |str b=>obtain⟨t,rfl⟩:=rx;exact SeqAt.EqAt.str_str a t' b t
  |_=>exact absurd (show false=true from fx) Nn
 |_=>exact absurd (show false=true from fy) Nn
theorem ku:gA X (.builtin "len") (λxs H Q=>∃p ys,xs=[.ref p]/\(jR X.K H p ys\/lZ X.K H p ys)/\Q (.int ys.length) H):=by
 intro pins s σ H xs us Q I r h;obtain⟨p,ys,rfl,hq,q⟩:=h;obtain⟨u,rfl,rx⟩:=vals1 r;cases rx;have hn:=lB;rcases hq with hq|hq
 ·obtain⟨its,r',pl,hz⟩:=I.list hq;have hlen:=r'.length;exact Calls.call_len_list pl.isList (by simp only[Nt]<;>omega) ⟨.int ys.length,H,I.tok _,⟨s.toks+1,by rw[Nt,hlen]⟩,q⟩
 ·obtain⟨its,r',pl,hz⟩:=I.tuple hq;have hlen:=r'.length;exact len_tuple pl (by simp only[Nt]<;>omega) ⟨.int ys.length,H,I.tok _,⟨s.toks+1,by rw[Nt,hlen]⟩,q⟩
theorem qS:gA X (.builtin "len") (λxs H Q=>∃z,xs=[.str z]/\z.length<=RO/\Q (.int z.length) H):=by
 intro pins s σ H xs us Q I r h;obtain⟨z,rfl,hz,q⟩:=h;obtain⟨u,rfl,t,rfl⟩:=vals1 r;have hn:=lB;exact len_str ‹0› ⟨.int z.length,H,I.tok _,⟨_,rfl⟩,q⟩
theorem jD:gA X (.type "tuple") (λxs H Q=>∃p ys,xs=[.ref p]/\((jR X.K H p ys/\∀l,H l=none->Q (.ref l) (upd H l (.tup ys)))\/(lZ X.K H p ys/\Q (.ref p) H))):=by
 intro pins s σ H xs us Q I r h;obtain⟨p,ys,rfl,h⟩:=h;obtain⟨u,rfl,rx⟩:=vals1 r;cases rx;rcases h with⟨hq,q⟩|⟨hq,q⟩
 ·obtain⟨its,r',pl,hz⟩:=I.list hq;have hlen:=r'.length;refine call_tuple_list pl.isList (λh' kp=>?_) (by simp only[Nt]<;>omega);have I1:Inv X pins σ H {s with heap:=h'}:=I.kept (t':=s.toks) kp;have I2:Inv X pins σ (upd H h'.objs.size (.tup ys)) {s with heap:=h'.push {cls:=.type "tuple",data:=.seq its.toArray}}:=
   I1.laid (t':=s.toks) (λb o e=>Ri _ e) (Nq _) (show dE X.prog X.w _ _ _ (.tup ys)from⟨hz,its,r',IsTup.new _ _⟩)
  exact⟨.ref h'.objs.size,_,I2,rfl,q _ (I1.hok.fresh (Nq _))⟩
 ·obtain⟨its,r',pl,hz⟩:=I.tuple hq;exact call_tuple_same pl ⟨.ref p,H,I,rfl,q⟩
noncomputable def L1(K:Qw)(T:String)(x:V)(H:Hp):Prop:=match x with
 |.str _=>T="str"
 |.int _=>T="int"
 |.ref p=>(T="list"/\∃xs,jR K H p xs)\/(T="tuple"/\∃o,K.lookup p=some o/\o.cls=.type "tuple"/\o.dict=none) \/
   (T="dict"/\((∃kvs,H p=some (.dK kvs))\/∃kvs,H p=some (.dT kvs)))\/(T="set"/\∃S n,H p=some (.set S n))
 |_=>False
theorem Gj{pins:bn}{σ:St}{H:Hp}{s:RK}{T:String}{x:V}{v:RE}(I:Inv X pins σ H s)(r:RelV x v)(ty:L1 X.K T x H):
  s.TypeIs v T/\∀a,v=.ref a->∃ob,s.heap.get? a=some ob/\ob.dict=none:=by
 cases x with
 |str z=>
  obtain⟨t,rfl⟩:=r;cases(show T="str"from ty);exact⟨typeIs_str s z t,λ_ e=>nomatch e⟩
 |int i=>
  obtain⟨t,rfl⟩:=r;cases(show T="int"from ty);exact⟨typeIs_int s i t,λ_ e=>nomatch e⟩
 |ref p=>
  cases r;rcases ty with⟨rfl,xs,hq⟩|⟨rfl,o,hk,hc,hd⟩|⟨rfl,hk⟩|⟨rfl,S,n,hk⟩
  ·obtain⟨its,_,pl,_⟩:=I.list hq;refine⟨pl.isList.typeIs,λa e=>?_⟩;cases e;obtain⟨o,n,e,c,hd,_⟩:=pl;exact⟨o,e,hd⟩
  ·refine⟨⟨o,I.kIn p o hk,hc⟩,λa e=>?_⟩;cases e;exact⟨o,I.kIn _ o hk,hd⟩
  ·have z:∃o,s.heap.get? p=some o/\o.ExactDict:=by
    rcases hk with⟨kvs,hk⟩|⟨kvs,hk⟩
    ·obtain⟨_,_,_,_,o,_,_,e,ex,_⟩:=I.hok p _ hk;exact⟨o,e,ex⟩
    ·obtain⟨_,_,_,_,o,_,_,e,ex,_⟩:=I.hok p _ hk;exact⟨o,e,ex⟩
   obtain⟨o,e,ex⟩:=z;refine⟨⟨o,e,ex.1⟩,λa e2=>?_⟩;cases e2;exact⟨o,e,ex.2.1⟩
  ·obtain⟨o,_,_,_,e,ex,_⟩:=I.hok p _ hk;refine⟨⟨o,e,ex.1⟩,λa e2=>?_⟩;cases e2;exact⟨o,e,ex.2.1⟩
 |_=>exact False.elim ty
noncomputable def MI(K:Qw)(T:String)(r:V->aH->Hp->VK->Prop)(to:TE)(t:TA):TE:=λσ H Q=>to σ H λx H1=>L1 K T x H1/\t σ H1 λxs H2=>r x xs H2 Q
variable{o e:RH}{es:bA}{to:TE}{t:TA}{name:Str}{apos cpos:Pos}{T id:String}{r:V->aH->Hp->VK->Prop}
theorem E5(pa:PlainAttrs T)(slot:Slot T name id)(hty:typeOf (.builtin id)=pure (.type "method_descriptor"))(hm:LO X id r)(ho:PE X o to)(ha:PA X (e::es) t)
  (hbase:Sv o name X.env (eval o X.env)=eval o X.env:=by rfl)
  (hfew:((backTo cpos (RZ (e::es) X.env)).all (fun x=>!x.1) && (backToKw cpos (Sy [] X.env)).all (fun x=>x.1.isSome)
   && decide ((e::es).length+([]:List S5).length+(if([]:List S5).isEmpty then 0 else 1)<30))=true:=by rfl)
  (hline:(apos.endLine==cpos.line)=true:=by rfl) (hs:RZ (e::es) X.env=(false,eval e X.env)::RZ es X.env:=by rfl) (hplain:(backTo cpos (RZ es X.env)).any (·.1)=false:=by rfl):
  PE X (.Call (.Attribute o name apos) (e::es) [] cpos) (MI X.K T r to t):=by
 intro pins s σ H Q I h;refine wpAny_Call_method_late hbase hfew hline rfl (cN (ho pins s σ H _ I h) λv s1 ⟨x,H1,I1,r1,ty,q1⟩=>?_);obtain⟨h1,h2⟩:=Gj I1 r1 ty;refine⟨T,id,pa,slot,hty,h1,h2,?_⟩;have hA:=ha cpos pins s1 σ H1 _ I1 q1;rw[hs]at hA ⊢;refine Calls.callWith_builtin (by show(false||(backTo cpos (RZ es X.env)).any (·.1))=false;rw[hplain]<;>rfl) (Calls.evalArgs_plain ?_);exact cN hA λus s2 ⟨vs,H2,I2,r2,q2⟩=>hm pins s2 σ H2 x vs v us Q I2 r1 r2 q2
end
noncomputable def JT(X:Cx)(id:String)(r:V->aH->Hp->VK->Prop):Prop:=
 ∀(pins:bn)(s:RK)(σ:St)(H:Hp)(x:V)(xs:aH)(v:RE)(us:aU)(Q:VK),Inv X pins σ H s->RelV x v->Vals xs us->r x xs H Q->
  RY (model X.prog X.w) X.A (call (.builtin id) (v::us)) (EP X pins σ Q) X.xe s
theorem Vals.one:∀{x:V}{us:aU},Vals [x] us->∃u,us=[u]/\RelV x u
 |_,_,.cons r .nil=>⟨_,rfl,r⟩
theorem Vals.two{x y:V}{us:aU}(h:Vals [x,y] us):∃u v,us=[u,v]/\RelV x u/\RelV y v:=by
 cases h with|cons r t=>
 obtain⟨v,rfl,q⟩:=Vals.one t;exact⟨_,_,rfl,r,q⟩
section
variable{X:Cx}{pins:bn}{σ:St}{H:Hp}{s:RK}{l b:RG}{xs ys zs:aH}
theorem Inv.lset{its its':aU}{n:Nat}{f:fJ->fJ}{t':Nat}(I:Inv X pins σ H s)(hH:H l=some (.lst xs))
  (e:s.heap.get? l=some {cls:=.type "list",data:=.seq its.toArray n}) (hf:f its.toArray=its'.toArray) (hv:Vals ys its') (hz:ys.length<=RO):
  Inv X pins σ (upd H l (.lst ys)) {s with heap:=s.heap.update l (Obj.mapSeq f),toks:=t'}:=by
 have q:=PySem.IsL.update e f;rw[hf]at q;refine I.write (x:=l) (e:=l) (by rw[hH];exact trivial) (.inl rfl) (λb' u hb hu=>(Heap.get?_update_other s.heap (Obj.mapSeq f) (Ne.symm hb)).trans hu) ⟨_,q⟩ ?_;exact⟨hz,its',_,hv,q⟩
theorem Inv.lnew{its:aU}{t':Nat}(I:Inv X pins σ H s)(hv:Vals ys its)(hz:ys.length<=RO):
  Inv X pins σ (upd H s.heap.objs.size (.lst ys)) {s with heap:=s.heap.push {cls:=.type "list",data:=.seq its.toArray},toks:=t'}:=
 I.laid (λ_ _ q=>Ri _ q) (Nq _) ⟨hz,its,0,hv,Rj _ rfl⟩
theorem Inv.fresh(I:Inv X pins σ H s):H s.heap.objs.size=none:=I.hok.fresh (Nq _)
theorem Inv.lstM(I:Inv X pins σ H s)(hH:H l=some (.lst xs)):xs.length<=RO/\∃(its:aU)(n:Nat),Vals xs its/\xs.length=its.length/\s.heap.get? l=some {cls:=.type "list",data:=.seq its.toArray n}:=by
 obtain⟨z,its,n,r,e⟩:=I.hok l _ hH;exact⟨z,its,n,r,r.length,e⟩
end
section
variable{X:Cx}
noncomputable def wc:V->aH->Hp->VK->Prop:=λx vs H Q=>∃l xs y,x=.ref l/\vs=[y]/\H l=some (.lst xs)/\xs.length<RO/\Q .non (upd H l (.lst (xs++[y])))
theorem pT:JT X "list.append" wc:=by
 intro pins s σ H x vs v us Q I rx rv h;obtain⟨l,xs,y,rfl,rfl,hH,hz,q⟩:=h;cases rx;obtain⟨u,rfl,ru⟩:=rv.one;obtain⟨z,its,n,r,hl,e⟩:=I.lstM hH;refine call_meets F.slot_list_append ⟨_,e,rfl⟩ F.entry_list_append (F.args_list_append_2 _ _) (PySem.list_append l its.toArray n u (by rw[Nt];omega)) ⟨e,?_⟩;refine⟨.non,_,I.lset (its':=its++[u]) hH e (by simp) (r.append (.cons ru .nil)) ?_,rfl,q⟩;rw[NR,NX];omega
end
end L2
namespace Att
open PySem PySem.W PySem.Calls PyProof.Rows
theorem mn{P:Params}{h:RN}:∀(ns:List Int)(vs:List RE),WellAll P h vs (ns.map WData.int)->IntsAre vs ns:=by
 intro ns
 induction ns with
 |nil=>
  intro vs w;rw[NY]at w;cases w;exact .nil
 |cons n ns ih=>
  intro vs w;rw[Nw]at w;cases w with
  |cons a b=>
   cases a;exact .cons _ _ (ih _ b)
theorem xo{l:OpenLaw}{n:Nat}(hn:l.most=some n){P:Params}{h:RN}{args:List WData}{vals:List RE}
  (hpre:l.row.toRowW.claim.pre args=true) (hwl:WellAll P h vals args):
  ∃a vs ns,vals=[Value.ref a]/\args=[WData.list (ns.map WData.int)]/\h.get? a=some {cls:=.type "list",data:=.seq vs.toArray}/\IntsAre vs ns/\ns.length<=n:=by
 have hsh:WShape.hasAll [] args [.list .int]=true:=(pre_splitW hpre).1;have hc:l.pre.holds [] {args:=args}=true:=(pre_splitW hpre).2;obtain⟨d,r,rfl,h1,h2⟩:=hasAllW_cons hsh;obtain rfl:=hasAllW_nil h2;obtain⟨xs,rfl,h3⟩:=hasW_list h1;obtain⟨ns,rfl⟩:=items_int h3;have hlen:ns.length<=n:=by
  unfold OpenLaw.pre at hc;have h4:(WTm.not (.lt (.lit (.int (n:Int))) (.len (.arg 0)))).holds [] {args:=[.list (ns.map .int)]}=true:=by
   have h4:=(holds_andW hc).1;rw[hn]at h4;exact h4
  have h5:=condW_of h4 (w_not (w_lt w_lit (w_len_list (w_arg rfl))));rw[Nx]at h5;refine Nat.le_of_not_lt λq=>?_;have q':(n:Int)<((ns.length:Nat):Int):=by omega
  first
   |(rw[decide_eq_true q']at h5;exact absurd h5 (by decide))
   |(simp at h5;omega)
 cases hwl with
 |cons w1 w2=>
  cases w2;cases w1 with
  |list ho hall=>exact⟨_,_,ns,rfl,rfl,ho,mn ns _ hall,hlen⟩
theorem xk(l:OpenLaw)(args:List WData):l.row.toRowW.claim.post args (.bool true) args=true:=
 postW_of (r:=l.row.toRowW) (X:=(true==true))
  (show WShape.has [] (.bool true) .bool=true by first|rfl|decide|simp[WShape.has,WShape.arms,WShape.armsAll])
  (show(WTm.eq .res (.lit (.bool true))).value [] {args:=args,res:=some (.bool true),after:=args}=some (.bool (true==true))from w_eq_bool (w_res rfl) w_lit) rfl
theorem Fb{l:OpenLaw}{n:Nat}{q:RM}{loose:List Str}{XP:(Str->Option RE)->RN->Prop}{YP:RL->RN->Prop}{d:DefRec}
  (hn:l.most=some n) (hdf:d.params.defaults=[])
  (call:∀ (w:RL) (s₀ s₁:RK) (mg mb:Str->Option RE) (fa:RG) (o:Obj) (pm cd doc:RE) (a:RG) (vs:List RE) (ns:List Int),
   Ground q loose [] XP w s₀ mg mb s₁.heap->YP w s₁.heap->
   s₁.heap.get? fa=some o->o.data=.func (docDef d.name d.params d.body d.scope pm cd doc)->s₁.heap.CodeRec cd d.name->mg d.name=some (.ref fa)->
   s₁.heap.get? a=some {cls:=.type "list",data:=.seq vs.toArray}->IntsAre vs ns->ns.length<=n->s₁.gens=#[]->
   Su (model l.prog w) callerA (.call (.ref fa) ⟨[.ref a],[]⟩) (λr s'=>r=.ok (.ret (.bool true))/\OldK s₁.heap s'.heap/\s'.os=s₁.os/\AllBare s'.gens) s₁):
  WalkO q loose XP YP l.row.toRowW d [] (λf vs=>PySem.call f vs):=by
 intro w s₀ s₁ mg mb G Y fa o pm cd doc dV kV ho hd hcd hD hmg hg args vals as hpre hlay hrd hwl hlo;obtain rfl:dV=.none:=Dflts.none hD hdf;obtain rfl:kV=.none:=Dflts.noKw hD;obtain⟨a,vs,ns,rfl,rfl,hobj,hints,hlen⟩:=xo hn hpre hwl;refine enter_call (SH (call w s₀ s₁ mg mb fa o pm cd doc a vs ns G Y ho (fd_plain hd) hcd hmg hobj hints hlen hg) λr s' hq=>?_);obtain⟨rfl,h2,h3,h4⟩:=hq;exact⟨.inl ⟨.bool true,.bool true,[],rfl,λ_=>rfl,.bool true,xk l _,λ_=>⟨List.Pairwise.nil,λ_ hm=>(nomatch hm)⟩⟩,h2,h3,h4⟩
section
variable{prog:RM}{w:RL}{A:RV}{E:RE->RK->Prop}{s:RK}{K:Frag}
end
end Att
namespace L2
open PySem PySem.Spec PyProof.Rows
theorem qd:∀{vs:aU}{ns:List Int},IntsAre vs ns->Vals (ns.map V.int) vs
 |_,_,.nil=>.nil
 |_,_,.cons n t h=>.cons ⟨t,rfl⟩ (qd h)
noncomputable def inClass(s:RJ)(j:Nat):RJ:=match s with
 |.ClassDef _ _ _ body _ _ _ _ _ _ _=>body.getD j (.Pass ⟨0,0,0,0⟩)
 |_=>.Pass ⟨0,0,0,0⟩
noncomputable def gZ(s:RJ):SK:=match s with
 |.FunctionDef _ a _ _ _ _ _ _ _ _=>a
 |_=>{posonlyargs:=[],args:=[],vararg:=none,kwonlyargs:=[],kw_defaults:=[],kwarg:=none,defaults:=[]}
noncomputable def cT(s:RJ):dM:=match s with
 |.FunctionDef _ _ b _ _ _ _ _ _ _=>b
 |_=>[]
noncomputable def aw(s:RJ):RW:=match s with
 |.FunctionDef _ _ _ _ _ _ sc _ _ _=>sc
 |_=>{kind:=.function,names:=[],isGenerator:=false,isCoroutine:=false}
noncomputable abbrev Im:vd:=λ_ _ _ _ _ _=>False
noncomputable abbrev E0:XK:=λ_ _ _=>False
structure ou(K:Qw)(x qual:Str)(st:RJ)(f:RG)(fd:SD):Prop where
 ex:∃(oc:RE)(od:Option RG)(kV doc pm:RE)(an:Option RG)(cdv ct:RE)(osl:Array (Option RE)),
  fd=QM x qual (gZ st) (cT st) (aw st) .none kV doc pm an cdv ct/\K.lookup f=some ⟨oc,od,.func fd,osl⟩/\QN K cdv qual=true
 kp:QJ K (.ref f)=true
section
variable{P:RM}{w:RL}{K:Qw}{mg:bP}{base:RN}
theorem ou.ok{x qual:Str}{st:RJ}{f:RG}{fd:SD}{N ps:au}{k:Nat}{sp:Sp}(F:ou K x qual st f fd)(S:cx N ps (aw st))(len:∀vs H Q E,sp vs H Q E->vs.length=ps.length)
  (hbody:∀ (cdv:RE) (A:RV) (outer:List Env) (s:RK) (H:Hp) (vs:aH) (Q:VK) (E:XK),eI k (A.deeper (envOfC qual (aw st) s.heap.objs.size f cdv))->sp vs H Q E ->
   ∃t,oV (fO Im P w K mg base N qual (aw st) f cdv A outer s H E).nox (cT st) t/\t {nx:=λ_ H'=>Q .non H',rt:=Q} (start N vs) H):fP P w K mg base Im (k+1) f fd ps sp:=by
 obtain⟨oc,od,kV,doc,pm,an,cdv,ct,osl,rfl,lk,hcd⟩:=F.ex;refine A2 lk hcd S len λA outer s H vs Q E hr hsp=>?_;obtain⟨t,h,q⟩:=hbody cdv A outer s H vs Q E hr hsp;exact⟨t,h.nox,q⟩
theorem ou.binds{x qual:Str}{st:RJ}{f:RG}{fd:SD}{ps:au}(F:ou K x qual st f fd)
  (h:∀(kV doc pm:RE)(an:Option RG)(cdv ct:RE)(us:aU),us.length=ps.length->bindArgs (QM x qual (gZ st) (cT st) (aw st) .none kV doc pm an cdv ct) ⟨us,[]⟩=pure (ps.zip us)):Binds K fd ps []:=by
 obtain⟨oc,od,kV,doc,pm,an,cdv,ct,osl,rfl,lk,hcd⟩:=F.ex;exact .all (h kV doc pm an cdv ct)
theorem cF{x qual:Str}{st:RJ}{f:RG}{oc:RE}{od an:Option RG}{osl:Array (Option RE)}{kV doc pm cdv ct:RE}(l:K.lookup f=some ⟨oc,od,.func (QM x qual (gZ st) (cT st) (aw st) .none kV doc pm an cdv ct),osl⟩)
  (c:QN K cdv qual=true) (k:QJ K (.ref f)=true):ou K x qual st f (QM x qual (gZ st) (cT st) (aw st) .none kV doc pm an cdv ct):=⟨⟨oc,od,kV,doc,pm,an,cdv,ct,osl,rfl,l,c⟩,k⟩
end
section
variable{X:Cx}
theorem pv(i:Nat){x:Str}{pos:Pos}(hN:X.N[i]?=some x:=by rfl)(hv:FU X.env.scope x:=by first|exact Or.inl rfl|exact Or.inr (Or.inl rfl)|exact Or.inr (Or.inr rfl))(hd:(x==("__debug__":Str))=false:=by decide)
  (hcd:(x==("__classdict__":Str))=false:=by decide):PE X (.Name x pos) (rG i):=Gz hN hv hd hcd
end
theorem qH{A B:Prop}(h:B):if false=true then A else B:=by
 rw[if_neg Nn];exact h
theorem qs{A B:Prop}(h:A):if true=true then A else B:=by
 rw[if_pos rfl];exact h
noncomputable def aZ(H H':Hp):Prop:=∀b o,H b=some o->H' b=some o
theorem aZ.refl(H:Hp):aZ H H:=λ_ _ h=>h
theorem aZ.trans{H H1 H2:Hp}(a:aZ H H1)(b:aZ H1 H2):aZ H H2:=λc o h=>b c o (a c o h)
theorem aZ.free{H H':Hp}(e:aZ H H'){l:RG}(h:H' l=Option.none):H l=Option.none:=by
 cases q:H l with
 |none=>rfl
 |some o=>
  rw[e l o q]at h;cases h
theorem aZ.seq{K:Qw}{H H':Hp}{a:RG}{xs:aH}(e:aZ H H')(h:jR K H a xs):jR K H' a xs:=by
 rcases h with(h|⟨o,h⟩)|h
 ·exact .inl (.inl (e _ _ h))
 ·exact .inl (.inr ⟨o,e _ _ h⟩)
 ·exact .inr h
section
variable{X:Cx}{pins:bn}{σ:St}{H:Hp}{s:RK}{a:RG}{y v:V}{u r:RE}{o:Option V}{A:RV}{E:bD}
end
noncomputable def cW(cells:j9):nY->j9->j9
 |[],acc=>acc
 |(n,k)::r,acc=>if k=.free then(match cells.lookup n with|some c=>cW cells r ((n,c)::acc)|none=>cW cells r acc)else cW cells r acc
theorem jo{cells:j9}:∀(names:nY)(acc:j9),(∀x c,acc.lookup x=some c->cells.lookup x=some c)->
  ∀x c,(cW cells names acc).lookup x=some c->cells.lookup x=some c
 |[],acc,h=>h
 |(n,k)::r,acc,h=>by
  unfold cW;by_cases hk:k=.free
  ·rw[if_pos hk];cases e:cells.lookup n with
   |none=>exact jo r acc h
   |some c0=>
    refine jo r _ λx c q=>?_;rw[NZ]at q;cases hx:x==n with
    |true=>
     rw[hx]at q;have e1:x=n:=(by simpa using hx);cases q;rw[e1];exact e
    |false=>rw[hx]at q;exact h x c q
  ·rw[if_neg hk];exact jo r acc h
theorem ii{cells:j9}:∀(names:nY)(acc:j9)(x:Str),(acc.lookup x).isSome=true->((cW cells names acc).lookup x).isSome=true
 |[],acc,x,h=>h
 |(n,k)::r,acc,x,h=>by
  unfold cW;by_cases hk:k=.free
  ·rw[if_pos hk];cases e:cells.lookup n with
   |none=>exact ii r acc x h
   |some c0=>
    refine ii r _ x ?_;rw[NZ];cases hx:x==n with
    |true=>rfl
    |false=>exact h
  ·rw[if_neg hk];exact ii r acc x h
theorem gK{cells:j9}:∀(names:nY)(acc:j9)(x:Str),(x,NameKind.free)∈names->(∃c,cells.lookup x=some c)->((cW cells names acc).lookup x).isSome=true
 |[],acc,x,h,_=>absurd h (by simp)
 |(n,k)::r,acc,x,h,hc=>by
  unfold cW;rcases List.mem_cons.mp h with e|h
  ·cases e;rw[if_pos rfl];obtain⟨c,e⟩:=hc;rw[e];refine ii r _ _ ?_;rw[NZ];simp
  ·by_cases hk:k=.free
   ·rw[if_pos hk];cases e:cells.lookup n with
    |none=>exact gK r acc x h hc
    |some c0=>exact gK r _ x h hc
   ·rw[if_neg hk];exact gK r acc x h hc
theorem j3{scope:RW}{env:Env}(h:∀p∈scope.names,p.2=.free->∃c,env.cells.lookup p.1=some c):closureFor scope env=pure (cW env.cells scope.names []):=by
 have go:∀(names:nY)(acc:j9),(∀p∈names,p.2=.free->∃c,env.cells.lookup p.1=some c)->
   (forIn names acc λx cs=>(match x with|(name,kind)=>if(kind==NameKind.free)=true then do let a<-cellOf env name;pure (ForInStep.yield ((name,a)::cs))else pure (ForInStep.yield cs):Sem (ForInStep j9)))=pure (cW env.cells names acc):=by
  intro names
  induction names with
  |nil=>intro acc _;rfl
  |cons p r ih=>
   intro acc hp;obtain⟨n,k⟩:=p;rw[N0];by_cases hk:k=.free
   ·obtain⟨c,e⟩:=hp (n,k) Nh hk;subst hk;have e2:cellOf env n=pure c:=(by unfold cellOf;rw[e]);simp only[beq_self_eq_true,if_true,e2,pure_bind];rw[ih _ λq hq=>hp q (Ni _ hq)]
    conv=>rhs;rw[cW]
    simp[e]
   ·have hb:(k==NameKind.free)=false:=(by simpa using hk);simp only[hb,N1,if_false,pure_bind];rw[ih _ λq hq=>hp q (Ni _ hq)]
    conv=>rhs;rw[cW,if_neg hk]
 have:=go scope.names [] h
 unfold closureFor;simp only[];rw[this];rfl
noncomputable def ca(X:Cx)(scope:RW)(N:au)(cl:j9)(C:RG)(fp:aF)(s:RK)(H:Hp)(E:bD):Cx where
 prog:=X.prog
 w:=X.w
 K:=X.K
 mg:=X.mg
 base:=X.base
 A:=X.A
 N:=N
 s₀:=s
 H₀:=H
 env:=compEnvC scope cl C X.env
 outer:=X.stack
 stack:=X.stack
 ex:=fp
 fn:=λ_=>false
 calm:=X.calm
 pn:=[]
 xe:=E
noncomputable def qj(XN N:au)(names:nY)(ix:fH):Bool:=
 decide (ix.length=N.length)&&(N.zip ix).all λp=>match p.2 with
  |some i=>decide (XN[i]?=some p.1)&&decide (names.lookup p.1=some .free)
  |none=>true
noncomputable def inBlock(ix:fH)(σ:St):St:=ix.map λo=>match o with
 |some i=>(σ[i]?).getD none
 |none=>none
theorem qj.len{XN N:au}{names:nY}{ix:fH}(h:qj XN N names ix=true):ix.length=N.length:=by
 unfold qj at h;rw[NU]at h;exact of_decide_eq_true h.1
theorem qj.at_{XN N:au}{names:nY}{ix:fH}(h:qj XN N names ix=true){j i:Nat}{x:Str}(h1:N[j]?=some x)(h2:ix[j]?=some (some i)):XN[i]?=some x/\names.lookup x=some .free:=by
 unfold qj at h;rw[NU]at h;have hm:(x,some i)∈N.zip ix:=by
  have e:(N.zip ix)[j]?=some (x,some i):=by rw[List.getElem?_zip_eq_some];exact⟨h1,h2⟩
  exact NQ e
 have q:=List.all_eq_true.mp h.2 _ hm;simp only[NU]at q;exact⟨of_decide_eq_true q.1,of_decide_eq_true q.2⟩
theorem iJ{env:Env}:∀{names:nY}{x:Str}{k:RF},
  (names.map λ(n,k)=>if(k==NameKind.free&&env.scope.kind==.function&&env.kindOf n==some .cell)then(n,NameKind.cell)else(n,k)).lookup x=some k->
  names.lookup x=some k\/(names.lookup x=some .free/\k=.cell)
 |[],_,_,h=>by simp at h
 |(n,k0)::r,x,k,h=>by
  have ih:=@iJ env r x k
  replace h:List.lookup x ((if(k0==NameKind.free&&env.scope.kind==.function&&env.kindOf n==some .cell)=true then(n,NameKind.cell)else(n,k0))::(r.map λ(n,k)=>if(k==NameKind.free&&env.scope.kind==.function&&env.kindOf n==some .cell)then(n,NameKind.cell)else(n,k)))=some k:=h
  by_cases hc:(k0==NameKind.free&&env.scope.kind==.function&&env.kindOf n==some .cell)=true
  ·rw[if_pos hc]at h;have hk0:k0=.free:=by
    simp only[NU]at hc
    simpa using hc.1.1
   cases hx:x==n with
   |true=>
    simp only[NZ,hx]at h;simp only[NZ,hx];cases h;exact .inr ⟨by rw[hk0],rfl⟩
   |false=>
    simp only[NZ,hx]at h ⊢;exact ih h
  ·rw[if_neg hc]at h;cases hx:x==n with
   |true=>
    simp only[NZ,hx]at h ⊢;exact .inl h
   |false=>
    simp only[NZ,hx]at h ⊢;exact ih h
noncomputable def G3(X:Cx)(ifs:bA)(t:TT):Prop:=
 ∀(pins:bn)(s:RK)(σ:St)(H:Hp)(Q:Bool->Hp->Prop),Inv X pins σ H s->t σ H Q->
  RY (model X.prog X.w) X.A (forIn ifs true λc r=>if r=true then do let ok<-isTrue c X.env (eval c X.env);pure (ForInStep.yield ok)else pure (ForInStep.yield r)) (TP X pins σ Q) X.xe s
noncomputable def Iy:TT:=λ_ H Q=>Q true H
theorem CK{X:Cx}:G3 X [] Iy:=λ_ _ _ H _ I h=>wpAny_tests_nil ⟨H,I,h⟩
theorem C6{X:Cx}{c:RH}{t:TT}(h:PT X c t):G3 X [c] t:=λpins s σ H Q I q=>wpAny_tests_one (h pins s σ H Q I q)
theorem iO{prog:RM}{w:RL}{A:RV}{R:Ss->dD}{s:RK}{elt target iter:RH}{ifs:bA}{scope:RW}{pos:Pos}{it acc:RE}{env:Env}(I:Nat->dD)
  (turn:∀ n s,I n s->RY (model prog w) A (pyNext it) (fun r s₁=>match r with
   |none=>R (.ok .next) s₁
   |some v=>RY (model prog w) A (letOwnedTupleGo target it v) (λ_ s₁'=>RY (model prog w) A (assign target env v) (λ_ s₂=>
     RY (model prog w) A (forIn ifs true λc r=>if r=true then do let ok<-isTrue c env (eval c env);pure (ForInStep.yield ok)else pure (ForInStep.yield r)) (λok s₃=>
      if ok=true then RY (model prog w) A (eval elt env) (λx s₄=>
       RY (model prog w) A (call (.builtin "list.append") [acc,x]) (λ_ s₅=>∃m,m<n/\I m s₅) (notedBy (model prog w) A env λe s'=>R (.error e) s') s₄) (notedBy (model prog w) A env λe s'=>R (.error e) s') s₃
      else∃m,m<n/\I m s₃) (notedBy (model prog w) A env λe s'=>R (.error e) s') s₂) (notedBy (model prog w) A env λe s'=>R (.error e) s') s₁') (notedBy (model prog w) A env λe s'=>R (.error e) s') s₁) (notedBy (model prog w) A env λe s'=>R (.error e) s') s)
  (n:Nat) (h:I n s):
  Su (model prog w) A (.compLoop (.ListComp elt [⟨target,iter,ifs,0⟩] scope pos) 0 it acc env) R s:=by
 refine codeAny_loop rfl I (λn s hI=>?_) n h;show RY _ A ((compTurn (.ListComp elt [⟨target,iter,ifs,0⟩] scope pos) 0 it acc env).onRaise (λx=>do noteFrame x env;theTreesLotGoes x)) _ _ s;refine wpAny_noted ?_;rw[compTurn_list];refine Sd (S6 (Sd (R0 (turn n s hI) (λr s₁ h₁=>?_) λ_ _ h'=>h')));cases r with
 |none=>exact Sb h₁
 |some v=>
  refine Sd (R0 h₁ (λ_ s₁' h₁'=>?_) λ_ _ h'=>h');refine Sd (R0 h₁' (λ_ s₂ h₂=>Sd (R0 h₂ (λok s₃ h₃=>?_) λ_ _ h'=>h')) λ_ _ h'=>h');cases ok with
  |false=>exact Sb ⟨rfl,h₃⟩
  |true=>
   exact Sd (Sd (R0 h₃ (λx s₄ h₄=>Sd (R0 h₄ (λ_ s₅ h₅=>Sb (Sb ⟨rfl,h₅⟩)) λ_ _ h'=>h')) λ_ _ h'=>h'))
noncomputable def JH(wi:TI)(g:TG)(tc:TT)(te:TE)(ix:fH):TE:=λσ H Q=>
 wi σ H λJ H1=>∀D,H1 D=none->∃W:Nat->Nat->St->Hp->Prop,(∃m,W 0 m (inBlock ix σ) (upd H1 D (.lst [])))/\
  ∀i m σ' H',W i m σ' H'->(J.stop i H'/\Q (.ref D) H') \/
   (J.go i H'/\∀ x H2,J.yld i H' x H2->g x σ' H2 fun σ3 H3=>tc σ3 H3 fun b H4 =>
    if b=true then te σ3 H4 λv H5=>∃acc,H5 D=some (.lst acc)/\acc.length<RO/\∃m',m'<m/\W (i+1) m' σ3 (upd H5 D (.lst (acc++[v])))
    else∃m',m'<m/\W (i+1) m' σ3 H4)
section
variable{X:Cx}{elt tg iter:RH}{ifs:bA}{scope:RW}{pos:Pos}{N:au}{ix:fH}{wi:TI}{g:TG}{tc:TT}{te:TE}
theorem nS{pins:bn}{σ:St}{s2:RK}{H2:Hp}{it:RG}{fp:aF}{tn:Nat->RN->Prop}{J:It}{Q:V->Hp->Prop}{E:bD}{RR:RE->RG->Ss->dD}
    (hc:X.calm=true) (hcell:∀y∈scope.names,y.2≠.cell) (hkind:scope.kind=.function)
    (hfr:∀y∈scope.names,y.2=.free->X.env.scope.names.lookup y.1=some .cell\/X.env.scope.names.lookup y.1=some .free)
    (hix:qj X.N N scope.names ix=true)
    (hb:∀cl C fp s H E,PG (ca X scope N cl C fp s H E) tg g/\G3 (ca X scope N cl C fp s H E) ifs tc/\PE (ca X scope N cl C fp s H E) elt te)
    (I2:Inv X pins σ H2 s2) (T:Turn X.prog X.w X.K tg J fp it tn) (st2:tn 0 s2.heap) (f2:∀b∈fp,oJ X pins H2 b)
    (q:∀ D,H2 D=none->∃ W:Nat->Nat->St->Hp->Prop,(∃ m,W 0 m (inBlock ix σ) (upd H2 D (.lst []))) /\
      ∀i m σ' H',W i m σ' H'->(J.stop i H'/\Q (.ref D) H') \/
        (J.go i H'/\∀ x H3,J.yld i H' x H3->g x σ' H3 fun σ3 H3=>tc σ3 H3 fun b H4 =>
          if b=true then te σ3 H4 λv H5=>∃acc,H5 D=some (.lst acc)/\acc.length<RO/\∃m',m'<m/\W (i+1) m' σ3 (upd H5 D (.lst (acc++[v])))
          else∃m',m'<m/\W (i+1) m' σ3 H4))
    (hRR:∀D C H' s' m,H2 D=none->s2.heap.objs.size<=C->H' C=none->s'.heap.Ns C m->(∀h',Rh C s'.heap h'->Inv X pins σ H' {s' with heap:=h'})->Q (.ref D) H'->RR (.ref D) C (.ok .next) s'):
    RY (model X.prog X.w) X.A (newList []) (λacc s₃=>RY (model X.prog X.w) X.A (newFunctionEnv scope X.env.globals (cW X.env.cells scope.names []) [] X.env.qual none .none (some X.env)) (λcenv s₄=>
      Su (model X.prog X.w) X.A (.compStart (.ListComp elt [⟨tg,iter,ifs,0⟩] scope pos) 0 (.ref it) acc {cenv with scope:=relabel scope X.env}) (RR acc cenv.locals) s₄) E s₃) E s2:=by
  refine S3 (wpAny_newFunctionEnv hcell (by intro y hy;simp at hy) (λh₁ hns₁ hsb₁=>?_) hkind);dsimp only at hns₁ hsb₁ ⊢;have I3:Inv X pins σ (upd H2 s2.heap.objs.size (.lst [])) {s2 with heap:=s2.heap.push {cls:=.type "list",dict:=none,data:=.seq ([]:aU).toArray},toks:=s2.toks}:=I2.lnew (its:=[]) (t':=s2.toks) .nil (NA _);generalize hs3:({s2 with heap:=s2.heap.push {cls:=.type "list",dict:=none,data:=.seq ([]:aU).toArray},toks:=s2.toks}:RK)=s3 at I3;have eh3:s2.heap.push {cls:=.type "list",dict:=none,data:=.seq ([]:aU).toArray}=s3.heap:=by rw[<-hs3]
  rw[eh3]at hns₁ hsb₁ ⊢;have hC3:s3.heap.objs.size=s2.heap.objs.size+1:=by rw[<-eh3,Rl]
  have hD:H2 s2.heap.objs.size=none:=I2.fresh;obtain⟨W,⟨m0,w0⟩,turn⟩:=q s2.heap.objs.size hD;generalize hH3:upd H2 s2.heap.objs.size (.lst [])=H3 at I3 w0;have old:∀b o,s3.heap.get? b=some o->h₁.get? b=some o:=λb o e=>hsb₁.extBut b o (Nb (Rf e)) (Ri _ e);have fpH3:∀b∈fp,H3 b=none:=λb hb'=>by
    rw[<-hH3,ay]
    ·exact(f2 b hb').1
    · obtain⟨o,e,_⟩:=T.obj _ _ st2 b hb'
      exact Nb (Rf e)
  have fpLt:∀b∈fp,b<s3.heap.objs.size:=λb hb'=>by
    obtain⟨o,e,_⟩:=T.obj _ _ st2 b hb';rw[hC3];exact N2 (Rf e)
  have hfree:∀p∈scope.names,p.2=.free->∃c,X.env.cells.lookup p.1=some c:=λp hp hk=>I2.ok.has p.1 (hfr p hp hk);have csub:∀x c,(cW X.env.cells scope.names []).lookup x=some c->X.env.cells.lookup x=some c:=jo scope.names [] (λx c e=>by simp at e);have names':∀x k,(relabel scope X.env).names.lookup x=some k->scope.names.lookup x=some k\/(scope.names.lookup x=some .free/\k=.cell):=λx k h=>iJ h;have ok:(ca X scope N (cW X.env.cells scope.names []) s3.heap.objs.size fp s3 H3 (notedBy (model X.prog X.w) X.A (compEnvC scope (cW X.env.cells scope.names []) s3.heap.objs.size X.env) λe s'=>RR (.ref s2.heap.objs.size) s3.heap.objs.size (.error e) s')).Ok:=
    { mod:=I3.ok.mod
      kind:=hkind
      glob:=I3.ok.glob
      blt:=I3.ok.blt
      above:=Nq _
      inj:=λx y c h1 h2=>I3.ok.inj x y c (csub x c h1) (csub y c h2)
      has:=λx hx=>by
        have fr:scope.names.lookup x=some .free:=by
          rcases hx with hx|hx
          · rcases names' x .cell hx with h|⟨h,_⟩
            ·exact absurd rfl (hcell _ (PySem.mem_of_lookup h))
            ·exact h
          · rcases names' x .free hx with h|⟨_,h⟩
            ·exact h
            ·cases h
        have hm:=PySem.mem_of_lookup fr;exact Option.isSome_iff_exists.mp (gK scope.names [] x hm (hfree _ hm rfl))
      cab:=λx c h _=>by cases h
      hd:=I3.ok.hd
      frames:=I3.ok.frames
      stk:=.inl rfl
      exf:=λb hb'=>⟨Nb (fpLt b hb'),λx c e=>(f2 b hb').2.2.2.2.1 x c (csub x c e)⟩
      bs:=λb o e=>I3.bs b o e
      bsz:=Nc I3.ok.bsz I3.sz
      noex:=λb o e hb'=>by
        obtain⟨_,_,_,h4,_⟩:=f2 b hb';rcases h4 with h4|h4
        ·exact I3.ok.noex b o e h4
        ·exact absurd (M8 (Rf (I3.ok.bs b o e).1) h4) (M9 _)
      exfs:=λb hb' hs=>by
        obtain⟨_,h2,h3,_⟩:=f2 b hb';rcases List.mem_cons.mp (I3.stkSub b hs)with e|e
        ·exact h2 e
        ·exact h3 e
      funs:=I3.stack
      frf:=λb hb'=>I3.stkFree b hb'}
  generalize hE:(notedBy (model X.prog X.w) X.A (compEnvC scope (cW X.env.cells scope.names []) s3.heap.objs.size X.env) λe s'=>RR (.ref s2.heap.objs.size) s3.heap.objs.size (.error e) s')=E' at ok;obtain⟨hg,htc,hel⟩:=hb (cW X.env.cells scope.names []) s3.heap.objs.size fp s3 H3 E';have Istart:∀tk,Inv (ca X scope N (cW X.env.cells scope.names []) s3.heap.objs.size fp s3 H3 E') [] (inBlock ix σ) H3 {s3 with heap:=h₁,toks:=tk}:=λtk=>by
    refine⟨ok,rfl,I3.bare,Un.kept old,⟨_,hns₁,λj x v e1 e2 _=>?_⟩,λx c e=>?_,I3.fresh,λx c e=>I3.freeC x c (csub x c e),λp hp=>absurd (show p∈([]:bn)from hp) (by simp),I3.hok.kept old,?_⟩
    ·
      unfold inBlock at e2;rw[NM]at e2;cases q1:ix[j]? with
      |none=>rw[q1]at e2;simp at e2
      |some o=>
        rw[q1]at e2;cases o with
        |none=>simp at e2
        |some i=>
          obtain⟨n1,n2⟩:=qj.at_ hix e1 q1;have e2':(σ[i]?).getD none=some v:=Option.some.inj e2;have e3:σ[i]?=some (some v):=by
            cases q2:σ[i]? with
            |none=>rw[q2]at e2';simp at e2'
            |some o2=>rw[q2]at e2';simpa using e2'
          obtain⟨m,hn,hl⟩:=I3.loc;have hm:=PySem.mem_of_lookup n2;have hk:=hfr _ hm rfl;have hv:FU X.env.scope x:=by
            rcases hk with hk|hk
            ·exact .inr (.inl hk)
            ·exact .inr (.inr hk)
          obtain⟨u,r,l⟩:=hl i x v n1 e3 hv;refine⟨u,r,.inr ?_⟩;rcases l with⟨kl,_⟩|⟨_,c,hcx,hcell'⟩
          · have kl':X.env.scope.names.lookup x=some .local:=kl
            rcases hk with hk|hk
            ·rw[kl']at hk;cases hk
            ·rw[kl']at hk;cases hk
          · obtain⟨c',hc'⟩:=Option.isSome_iff_exists.mp (gK (cells:=X.env.cells) scope.names [] x hm ⟨c,hcx⟩)
            have ec:c'=c:=Option.some.inj ((csub x c' hc').symm.trans hcx);subst ec;refine⟨?_,c',hc',?_⟩
            ·
              show(relabel scope X.env).names.lookup x=some .cell\/(relabel scope X.env).names.lookup x=some .free;have gen:∀names:nY,names.lookup x=some .free->((names.map λ(n,k)=>if(k==NameKind.free&&X.env.scope.kind==.function&&X.env.kindOf n==some .cell)then(n,NameKind.cell)else(n,k)).lookup x=some .cell\/(names.map λ(n,k)=>if(k==NameKind.free&&X.env.scope.kind==.function&&X.env.kindOf n==some .cell)then(n,NameKind.cell)else(n,k)).lookup x=some .free):=by
                intro names
                induction names with
                |nil=>intro h;simp at h
                |cons p r ih=>
                  obtain⟨n,k⟩:=p;intro h;show List.lookup x ((if(k==NameKind.free&&X.env.scope.kind==.function&&X.env.kindOf n==some .cell)=true then(n,NameKind.cell)else(n,k))::_)=_\/List.lookup x ((if(k==NameKind.free&&X.env.scope.kind==.function&&X.env.kindOf n==some .cell)=true then(n,NameKind.cell)else(n,k))::_)=_;cases hx:x==n with
                  |true=>
                    simp only[NZ,hx]at h;by_cases hcc:(k==NameKind.free&&X.env.scope.kind==.function&&X.env.kindOf n==some .cell)=true
                    ·rw[if_pos hcc];left;simp only[NZ,hx]
                    ·rw[if_neg hcc];right;simp only[NZ,hx];exact h
                  |false=>
                    simp only[NZ,hx]at h;by_cases hcc:(k==NameKind.free&&X.env.scope.kind==.function&&X.env.kindOf n==some .cell)=true
                    ·rw[if_pos hcc];simp only[NZ,hx];exact ih h
                    ·rw[if_neg hcc];simp only[NZ,hx];exact ih h
              exact gen scope.names n2
            ·exact hcell'.keeps old
    · obtain⟨v,z⟩:=I3.cell x c (csub x c e)
      exact⟨v,z.keeps old⟩
    · show(inBlock ix σ).length=N.length
      unfold inBlock;rw[Nx];exact qj.len hix
  have stat:∀{H':Hp},(∀b∈fp,H' b=none)->∀b∈fp,oJ (ca X scope N (cW X.env.cells scope.names []) s3.heap.objs.size fp s3 H3 E') [] H' b:=λhn b hb'=>
    ⟨hn b hb',(ok.exf b hb').1,ok.exfs b hb',.inl hb',(ok.exf b hb').2,λp hp=>absurd (show p∈([]:bn)from hp) (by simp)⟩
  have tn1:tn 0 h₁:=T.keep _ _ _ st2 λb hb' o e=>old b o (by rw[<-eh3];exact Ri _ e);have loop:∀tk,Su (model X.prog X.w) X.A (.compLoop (.ListComp elt [⟨tg,iter,ifs,0⟩] scope pos) 0 (.ref it) (.ref s2.heap.objs.size) (compEnvC scope (cW X.env.cells scope.names []) s3.heap.objs.size X.env))
      (RR (.ref s2.heap.objs.size) s3.heap.objs.size) {s3 with heap:=h₁,toks:=tk}:=by
    intro tk;refine iO (λn s'=>∃i σ' H',Inv (ca X scope N (cW X.env.cells scope.names []) s3.heap.objs.size fp s3 H3 E') [] σ' H' s'/\tn i s'.heap/\(∀b∈fp,H' b=none)/\W i n σ' H') ?_ m0 ⟨0,_,_,Istart tk,tn1,fpH3,w0⟩;rintro n s5 ⟨i,σ5,H5,I5,st5,fr5,w5⟩;rw[hE];rcases turn i n σ5 H5 w5 with⟨stop,qn⟩|⟨go,step⟩
    · refine cN (T.done (ca X scope N (cW X.env.cells scope.names []) s3.heap.objs.size fp s3 H3 E') rfl rfl rfl hc i [] s5 σ5 H5 _ I5 (stat fr5) st5 stop) λr s6 ⟨hr,I6⟩=>?_
      subst hr;obtain⟨m6,hn6,_⟩:=I6.loc;refine hRR s2.heap.objs.size s3.heap.objs.size H5 s6 m6 hD (by rw[hC3];exact NC _) I6.free hn6 (λh' sb=>?_) qn;have ne:∀b o,s3.heap.get? b=some o->b≠s3.heap.objs.size:=λb o e=>Nb (Rf e);refine I3.call' (s':={s6 with heap:=h'}) (H':=H5) (ch:=fp) I6.os ⟨λb o e n hb' hx=>?_,λb o e n hb' hx=>?_,λb o e n hx=>?_,λb o e hx=>?_,I6.base.tups,I6.base.frzs,I6.base.tbls⟩ ?_ I6.bare λb hb'=>?_
      ·exact(sb.2 b (ne b o e)).trans (I6.base.keep b o e n hb' hx)
      · obtain⟨sl,e1⟩:=I6.base.slot b o e n hb' hx
        exact⟨sl,(sb.2 b (ne b o e)).trans e1⟩
      ·exact I6.base.free b o e n hx
      · obtain⟨o',e1⟩:=I6.base.there b o e hx
        exact⟨o',(sb.2 b (ne b o e)).trans e1⟩
      · intro b ob e
        have hfreeC:H5 s3.heap.objs.size=none:=I6.free;refine(I6.hok b ob e).stay (λc v hcc q=>(sb.2 c ?_).trans q) (λ_ q=>q) λ_ _ q=>q;rintro rfl;rcases hcc with rfl|hcc
        ·rw[hfreeC]at e;cases e
        ·rw[hfreeC]at hcc;cases hcc
      · obtain⟨_,h2',_,h4',h5',h6'⟩:=f2 b hb'
        exact⟨h4',h2',h5',h6'⟩
    · refine cN (T.item (ca X scope N (cW X.env.cells scope.names []) s3.heap.objs.size fp s3 H3 E') rfl rfl rfl hc i [] s5 σ5 H5 _ I5 (stat fr5) st5 go) λr s6 ⟨u,hr,h6⟩=>?_
      subst hr;refine cN h6 λ_ s7 ⟨x,H7,I7,r7,y7,st7,fr7⟩=>?_;have I7':=I7.pinned (stat fr7) (T.obj _ _ st7);refine cN (hg _ s7 σ5 H7 x u _ I7' r7 (step x H7 y7)) λ_ s8 ⟨σ8,H8,I8,q8⟩=>?_;refine cN (htc _ s8 σ8 H8 _ I8 q8) λb s9 ⟨H9,I9,q9⟩=>?_;have again:∀{σ':St}{H':Hp}{s':RK}{m':Nat},Inv (ca X scope N (cW X.env.cells scope.names []) s3.heap.objs.size fp s3 H3 E') ([]++nB fp s7.heap) σ' H' s'->m'<n->W (i+1) m' σ' H'->
          ∃m,m<n/\∃i σ' H',Inv (ca X scope N (cW X.env.cells scope.names []) s3.heap.objs.size fp s3 H3 E') [] σ' H' s'/\tn i s'.heap/\(∀b∈fp,H' b=none)/\W i m σ' H':=λ{σ' H' s' m'} I' hm w'=>by
        refine⟨m',hm,i+1,σ',H',I'.unpinned,T.keep _ _ _ st7 λb hb' o e=>(I'.pin (b,o) (Nr _ (Nr _ (h7 hb' e)))).1,λb hb'=>?_,w'⟩;obtain⟨o,e,d⟩:=T.obj _ _ st7 b hb';exact(I'.pin (b,o) (Nr _ (Nr _ (h7 hb' e)))).2.1
      cases b with
      |false=>
        rw[if_neg Nn]at q9 ⊢;obtain⟨m',hm,w9⟩:=q9;exact again I9 hm w9
      |true=>
        rw[if_pos rfl]at q9 ⊢;refine cN (hel _ s9 σ8 H9 _ I9 q9) λy s10 ⟨v,H10,I10,r10,q10⟩=>?_;obtain⟨acc,ha,hz,m',hm,w10⟩:=q10;refine cN (pT _ s10 σ8 H10 (.ref s2.heap.objs.size) [v] (.ref s2.heap.objs.size) [y] (λ_ H'=>H'=upd H10 s2.heap.objs.size (.lst (acc++[v]))) I10 rfl (.cons r10 .nil) ⟨_,acc,v,rfl,rfl,ha,hz,rfl⟩) λ_ s11 ⟨_,H11,I11,_,Kc⟩=>?_;subst Kc;exact again I11 hm w10
  subst hs3;exact codeAny_compStart_list (loop _) (T.self _ 0 _ _ _ tn1 (loop _))
theorem EB(hc:X.calm=true)(hcell:∀y∈scope.names,y.2≠.cell)(hkind:scope.kind=.function)(hnames:∀y∈scope.names,y.2=.local->scope.names.lookup y.1=some .local)
  (hfr:∀y∈scope.names,y.2=.free->X.env.scope.names.lookup y.1=some .cell\/X.env.scope.names.lookup y.1=some .free)
  (hix:qj X.N N scope.names ix=true) (hi:PI X tg iter wi)
  (hb:∀cl C fp s H E,PG (ca X scope N cl C fp s H E) tg g/\G3 (ca X scope N cl C fp s H E) ifs tc/\PE (ca X scope N cl C fp s H E) elt te)
  (hs:∀x,Si iter X.env x=pure x:=by intro _;rfl):PE X (.ListComp elt [⟨tg,iter,ifs,0⟩] scope pos) (JH wi g tc te ix):=by
 intro pins s σ H Q I h;rw[eval_ListComp];refine S7 (use:=none) rfl hs (j3 λp hp hk=>I.ok.has p.1 (hfr p hp hk)) hkind hnames (cN (hi pins s σ H _ I h) λv s1 h1=>cN h1 λitv s2 h2=>?_);obtain⟨it,fp,tn,J,H2,e,I2,T,st2,f2,q⟩:=h2;subst e;refine nS (Q:=Q) (RR:=λacc C=>compPost (model X.prog X.w) X.A X.xe none (EP X pins σ Q) acc C) hc hcell hkind hfr hix hb I2 T st2 f2 q ?_;intro D C H' s' m _ _ _ hn hI hq;exact⟨m,hn,λh' sb=>⟨.ref D,H',hI h' sb,rfl,hq⟩⟩
theorem Fa{i:Nat}{y:Str}{py spos:Pos}(hN:X.N.Nodup)(hi':X.N[i]?=some y)(hx:Loc X.env.scope y)
  (hc:X.calm=true) (hcell:∀y∈scope.names,y.2≠.cell) (hkind:scope.kind=.function) (hnames:∀y∈scope.names,y.2=.local->scope.names.lookup y.1=some .local)
  (hfr:∀y∈scope.names,y.2=.free->X.env.scope.names.lookup y.1=some .cell\/X.env.scope.names.lookup y.1=some .free)
  (hix:qj X.N N scope.names ix=true) (hi:PI X tg iter wi)
  (hb:∀cl C fp s H E,PG (ca X scope N cl C fp s H E) tg g/\G3 (ca X scope N cl C fp s H E) ifs tc/\PE (ca X scope N cl C fp s H E) elt te)
  (hsw:swapsWith (.ListComp elt [⟨tg,iter,ifs,0⟩] scope pos) (some (.Name y py)) spos.line X.env=pure true:=by rfl)
  (hs:∀x,Si iter X.env x=pure x:=by intro _;rfl)
  (hf:X.fn y=true\/X.env.scope.names.lookup y=some .local:=by first|exact .inl rfl|exact .inr rfl|assumption):
  PS X (.Assign [.Name y py] (.ListComp elt [⟨tg,iter,ifs,0⟩] scope pos) spos) (CH (JH wi g tc te ix) (oW i)):=by
 intro pins s σ H D0 I h;rw[exec_Assign_Name_used _ _ _ _ hsw];refine Sd (S6 (Sd ?_));show RY _ X.A (do let _<-comprehension (.ListComp elt [⟨tg,iter,ifs,0⟩] scope pos) scope X.env _ (newList []) false (eval iter X.env) (some (assign (.Name y py) X.env))) _ _ s;refine Sd (cN (S7 (use:=some (assign (.Name y py) X.env)) (Q:=λ_ s'=>SP X pins D0 .next s') rfl hs (j3 λp hp hk=>I.ok.has p.1 (hfr p hp hk)) hkind hnames
  (cN (hi pins s σ H _ I h) λv s1 h1=>cN h1 λitv s2 h2=>?_)) λ_ s' hq=>Sb (Sb hq))
 obtain⟨it,fp,tn,J,H2,e,I2,T,st2,f2,q⟩:=h2;subst e;refine nS (Q:=λv H'=>oW i v σ H' D0.nx) (RR:=λacc C=>compPost (model X.prog X.w) X.A X.xe (some (assign (.Name y py) X.env)) (λ_ s'=>SP X pins D0 .next s') acc C) hc hcell hkind hfr hix hb I2 T st2 f2 q ?_;intro D C H' s' m _ hC hfree hn hI hq;have I':Inv X pins σ H' s':=hI s'.heap (.refl ..);have nL:C≠X.env.locals:=Np (M8 I2.lt hC);have nC:∀x c,X.env.cells.lookup x=some c->c≠C:=λx c e z=>by
  obtain⟨v,q⟩:=I2.cell x c e;exact absurd (M8 q.lt (by rw[z];exact hC)) (M9 _)
 have nP:∀p∈X.pn++pins,p.1≠C:=λp hp z=>absurd (M8 (Rf (I2.pin p hp).1) (by rw[z];exact hC)) (M9 _);show RY _ X.A (assign (.Name y py) X.env (.ref D)) _ _ _;refine wpAny_assign_Name (oZ I' hN hi' hx (v:=.ref D) rfl (λs'' I'' ch=>?_) hf);obtain⟨a,sb,ha⟩:=ch;have hCa:C≠a:=by
  rcases ha with ha|ha
  ·rw[ha];exact nL
  ·exact Ne.symm (nC y a ha)
 refine⟨m,hn.sameBut sb hCa,λh' sb'=>⟨_,H',?_,hq⟩⟩;exact I''.turned (t':=s''.toks) (λb o hb' e=>(sb'.2 b hb').trans e) hfree nL (.inr (Nc I2.sz hC)) nC nP
end
end L2
namespace TG
open PySem PySem.Spec
noncomputable def DP{α:Type}:Sem α->Prop
 |.pure _=>True
 |.raise _=>True
 |.unsupported _=>True
 |.finish _=>True
 |.rule _ k=>DP (k ())
 |.at _ k=>DP (k ())
 |.load _ _ k=>∀o,DP (k o)
 |.update _ _ f k=>(∀o,(f o).dict=o.dict)/\DP (k ())
 |.loadIfAlive _ k=>∀o,DP (k o)
 |.point _ k=>DP (k ())
 |.alloc _ k=>∀a,DP (k a)
 |.fresh k=>∀a,DP (k a)
 |.ask k=>∀a,DP (k a)
 |.stack k=>∀a,DP (k a)
 |_=>False
theorem DP.bind{α β:Type}{f:α->Sem β}(hf:∀a,DP (f a)):∀{m:Sem α},DP m->DP (m >>= f):=λ{m} h=>by
 show DP (m.bind f)
 induction m with
 |pure a=>exact hf a
 |raise _=>trivial
 |unsupported _=>trivial
 |finish _=>trivial
 |rule _ k ih=>exact ih () h
 |«at» _ k ih=>exact ih () h
 |load _ _ k ih=>exact λo=>ih o (h o)
 |update _ _ g k ih=>exact⟨h.1,ih () h.2⟩
 |loadIfAlive _ k ih=>exact λo=>ih o (h o)
 |point _ k ih=>exact ih () h
 |alloc _ k ih=>exact λo=>ih o (h o)
 |fresh k ih=>exact λo=>ih o (h o)
 |ask k ih=>exact λo=>ih o (h o)
 |stack k ih=>exact λo=>ih o (h o)
 |_=>exact h.elim
noncomputable def DS(h h':RN):Prop:=∀(a:Nat)(o:Obj),h.objs[a]?=some o->∃o',h'.objs[a]?=some o'/\o'.dict=o.dict
theorem DS.refl(h:RN):DS h h:=λ_ o e=>⟨o,e,rfl⟩
theorem DS.trans{h1 h2 h3:RN}(x:DS h1 h2)(y:DS h2 h3):DS h1 h3:=λa o e=>by
 obtain⟨o1,e1,d1⟩:=x a o e;obtain⟨o2,e2,d2⟩:=y a o1 e1;exact⟨o2,e2,d2.trans d1⟩
theorem sU{h:RN}{a:RG}{o:Obj}(e:h.get? a=some o):h.objs[a]?=some o:=by
 unfold Heap.get? at e;split at e
 ·cases e
 ·exact e
theorem DS.dict{h h':RN}(x:DS h h'){a:RG}{o o':Obj}(e:h.get? a=some o)(e':h'.get? a=some o'):o'.dict=o.dict:=by
 obtain⟨o1,e1,d1⟩:=x a o (sU e);rw[sU e']at e1;cases e1;exact d1
theorem DS.push(h:RN)(o:Obj):DS h (h.push o):=λa u e=>⟨u,by
 show(h.objs.push o)[a]?=_
 have:=(Array.getElem?_eq_some_iff.mp e).1
 rw[Array.getElem?_push,if_neg ‹0›];exact e,rfl⟩
theorem DS.upd(h:RN)(b:RG){f:Obj->Obj}(hf:∀o,(f o).dict=o.dict):DS h (h.update b f):=λa u e=>by
 show∃o',(h.objs.modify b f)[a]?=some o'/\_;rw[Array.getElem?_modify,e];split
 ·exact⟨_,rfl,hf u⟩
 ·exact⟨_,rfl,rfl⟩
theorem DP.wp{α:Type}{M:RX}{Γ:PySem.Ctx}{Q:α->Pos->RK->Prop}{E:RE->Pos->RK->Prop}{t:Sem α}(d:DP t){p:Pos}{s:RK}(h:Sem.wp M Γ t Q E p s):Sem.wp M Γ t (λa p' s'=>Q a p' s'/\DS s.heap s'.heap) (λa p' s'=>E a p' s'/\DS s.heap s'.heap) p s:=by
 have go:∀(h0:RN)(p:Pos)(s:RK),DS h0 s.heap->Sem.wp M Γ t Q E p s->Sem.wp M Γ t (λa p' s'=>Q a p' s'/\DS h0 s'.heap) (λa p' s'=>E a p' s'/\DS h0 s'.heap) p s:=by
  intro h0;clear h
  induction t with
  |pure a=>exact λp s z h=>⟨h,z⟩
  |raise a=>exact λp s z h=>⟨h,z⟩
  |unsupported _=>exact λp s z h=>h
  |finish _=>exact λp s z h=>h
  |rule _ k ih=>exact λp s z h=>ih () d p s z h
  |«at» q k ih=>exact λp s z h=>ih () d q s z h
  |load a _ k ih=>exact λp s z h=>let ⟨o,ho,h⟩:=h;⟨o,ho,ih o (d o) p s z h⟩
  |update a _ f k ih=>exact λp s z h=>⟨h.1,ih () d.2 p _ (z.trans (DS.upd _ a d.1)) h.2⟩
  |loadIfAlive a k ih=>exact λp s z h=>ih _ (d _) p s z h
  |point _ k ih=>exact λp s z h=>ih () d p s z h
  |alloc o k ih=>exact λp s z h=>ih _ (d _) p _ (z.trans (DS.push _ o)) h
  |fresh k ih=>exact λp s z h=>ih _ (d _) p _ z h
  |ask k ih=>exact λp s z h=>ih _ (d _) p _ z h
  |stack k ih=>exact λp s z h=>ih _ (d _) p _ z h
  |_=>exact d.elim
 exact go s.heap p s (DS.refl _) h
theorem DP.any{α:Type}{M:RX}{A:RV}{Q:α->RK->Prop}{E:RE->RK->Prop}{t:Sem α}{s:RK}(d:DP t)(h:RY M A t Q E s):RY M A t (λa s'=>Q a s'/\DS s.heap s'.heap) E s:=λΓ p hi=>Sem.wp_mono _ _ _ (λ_ _ _ x=>x) (λ_ _ _ x=>x.1) _ _ (d.wp (h Γ p hi))
theorem DP.go{M:RX}{A:RV}{Q:Unit->RK->Prop}{E:RE->RK->Prop}{t:Sem Unit}{s:RK}{P:RN->Prop}(d:DP t)(h:RY M A t (λ_ s'=>∃h',s'={s with heap:=h'}/\P h') E s)(k:∀h',P h'->DS s.heap h'->Q () {s with heap:=h'}):RY M A t Q E s:=R0 (d.any h) (λ_ s' z=>by
 obtain⟨⟨h',rfl,p⟩,ds⟩:=z;exact k h' p ds) λ_ _ z=>z
theorem km(v:RE)(i:Nat):DP (field v i):=by
 unfold field fieldsOf;cases v with
 |ref a=>
  refine DP.bind (λxs=>?_) ?_
  ·split<;>trivial
  ·refine DP.bind (λo=>?_) (λo=>trivial);split<;>trivial
 |_=>exact DP.bind (λxs=>by split<;>trivial) trivial
theorem vC(a:RG):DP (load a):=λ_=>trivial
theorem Gw(f:Array RE->Array RE)(o:Obj):(Obj.mapFields f o).dict=o.dict:=by
 unfold Obj.mapFields;split<;>rfl
theorem uI(v:RE)(i:Nat)(x:RE):DP (setField v i x):=by
 unfold setField;cases v with
 |ref a=>
  unfold updateField;refine DP.bind (λo=>?_) (vC a);split
  ·split
   ·exact⟨Gw _,trivial⟩
   ·trivial
  ·trivial
 |_=>trivial
theorem lO(e:RE)(f:Option RG):DP (setFlight e f):=by
 unfold setFlight;refine DP.bind (λtb=>?_) (km _ _);split
 ·exact uI _ _ _
 ·trivial
theorem BF:DP stack:=λ_=>trivial
theorem zj:DP underTheClaimsCaller:=by
 unfold underTheClaimsCaller;exact λ_=>trivial
theorem tG:∀l:List Env,DP (readyFrames l)
 |[]=>trivial
 |env::outer=>by
  unfold readyFrames;cases env.frame with
  |none=>trivial
  |some f=>
   refine DP.bind ?_ (vC f);intro o;split
   ·trivial
   ·refine DP.bind ?_ ?_
    ·intro b;refine DP.bind ?_ ?_
     ·intro b;refine DP.bind ?_ ?_
      ·intro _;exact tG outer
      ·exact⟨λ_=>rfl,trivial⟩
     ·unfold keptBack;split
      ·split
       ·trivial
       ·refine DP.bind ?_ zj;intro _;trivial
      ·trivial
    ·unfold behindIsImport;split
     ·trivial
     ·split
      ·trivial
      ·refine DP.bind ?_ (km _ _);intro _;trivial
theorem Dp:DP frameEnvs:=λ_=>trivial
theorem uO(env:Env):DP (frameOf env):=by
 unfold frameOf;refine DP.bind ?_ Dp;intro l;refine DP.bind ?_ ?_
 ·intro f;split<;>trivial
 ·unfold frameObject;split
  ·trivial
  ·refine DP.bind ?_ (tG _);intro _;trivial
theorem GZ(ty:String)(vs:List RE):DP (newFields ty vs):=by
 unfold newFields newObj;dsimp only;split
 ·trivial
 ·exact λ_=>trivial
theorem AB(f:RG)(b:Bool):DP (entryPlaceOf f b):=by
 unfold entryPlaceOf;refine DP.bind ?_ BF;intro l;split<;>trivial
theorem wV(e:RE)(env:Env):DP (noteFrame e env):=by
 unfold noteFrame;cases env.frame with
 |none=>trivial
 |some f=>
  have tl:∀head:RE,DP (do setField e 1 (<-EntryCells.newEntry head (<-frameOf env) .none (rawInt f) .none (<-entryPlaceOf f (head !=.none)))):=λhead=>by
   refine DP.bind ?_ (uO env);intro a;refine DP.bind ?_ (AB _ _);intro b;refine DP.bind ?_ (GZ _ _);intro c;exact uI _ _ _
  refine DP.bind ?_ (km _ _);intro head;dsimp only;split
  ·refine DP.bind ?_ (km _ _);intro x;split
   ·trivial
   ·refine DP.bind ?_ (uI _ _ _);intro _;exact tl head
  ·exact tl head
theorem uC(env:Env)(e:RE):DP (leaving env e):=by
 unfold leaving;refine DP.bind ?_ (wV _ _);intro _;exact lO _ _
open PySem PySem.Spec L2
inductive D where
 |non|bl (b:Bool)|int (i:Int)|str (x:Str)|tup (xs:List D)|lst (xs:List D)
 |dct (ks vs:List D)|obj (c:Str) (fs:au) (vs:List D)|exc (c:Str) (fs:au) (vs:List D)
noncomputable abbrev bw:=List (List D)
noncomputable abbrev cf:=List (Str×D)
noncomputable abbrev bM:=Option D
noncomputable def rH:Key->D
 |.inl i=>.int i
 |.inr x=>.str x
noncomputable def clsAt(K:Qw)(c:Str)(C:RG):Prop:=QO K RQ c=some (some (.ref C))
noncomputable def Gg(C a:RG)(dx:Option RG):(RG->Prop)->RN->Prop:=λ_ h=>∃o,h.get? a=some o/\o.cls=.ref C/\o.dict=dx/\QP o=true
mutual
noncomputable def cz(K:Qw)(H:Hp):D->V->Prop
 |.non,v=>v=.non
 |.bl b,v=>v=.bl b
 |.int i,v=>v=.int i
 |.str x,v=>v=.str x
 |.tup xs,v=>∃a vs,v=.ref a/\H a=some (.tup vs)/\aX K H xs vs
 |.lst xs,v=>∃a vs,v=.ref a/\jR K H a vs/\aX K H xs vs
 |.dct ks ds,v=>∃a vs,v=.ref a/\aX K H ds vs/\((∃kvs:List (Key×V),H a=some (.dK kvs)/\ks=kvs.map (λp=>rH p.1)/\vs=kvs.map (·.2)) \/
   (∃kvs:List (List Key×V),H a=some (.dT kvs)/\ks=kvs.map (λp=>.tup (p.1.map rH))/\vs=kvs.map (·.2)) \/
   ∃(kvs:List (List Key×V))(o:Obj),H a=some (.frz o (.dT kvs))/\ks=.non::kvs.map (λp=>.tup (p.1.map rH))/\vs=kvs.map (·.2))
 |.obj c fs ds,v=>∃a vs,v=.ref a/\aX K H ds vs/\fs.length=vs.length/\∃C dx,clsAt K c C/\H a=some (.ins C dx (fs.zip vs))
 |.exc c fs ds,v=>∃a vs,v=.ref a/\aX K H ds vs/\fs.length=vs.length/\∃C dx,clsAt K c C/\H a=some (.ext (Gg C a dx))/\(fs=[]\/∃d,dx=some d/\H d=some (.xd (fs.zip vs)))
noncomputable def aX(K:Qw)(H:Hp):List D->aH->Prop
 |[],vs=>vs=[]
 |x::xs,vs=>∃v r,vs=v::r/\cz K H x v/\aX K H xs r
end
theorem xg{K:Qw}{H H':Hp}{a:RG}{xs:aH}(e:aZ H H')(h:lZ K H a xs):lZ K H' a xs:=by
 rcases h with(h|⟨o,h⟩)|h
 ·exact .inl (.inl (e _ _ h))
 ·exact .inl (.inr ⟨o,e _ _ h⟩)
 ·exact .inr h
theorem b9{K:Qw}{H H':Hp}{a:RG}{xs:aH}(e:aZ H H')(h:H a=some (.tup xs)):lZ K H' a xs:=lZ.of (e _ _ h)
mutual
theorem cz.mono{K:Qw}{H H':Hp}(e:aZ H H'):∀{d:D}{v:V},cz K H d v->cz K H' d v
 |.non,_,h=>by unfold cz at h ⊢;exact h
 |.bl _,_,h=>by unfold cz at h ⊢;exact h
 |.int _,_,h=>by unfold cz at h ⊢;exact h
 |.str _,_,h=>by unfold cz at h ⊢;exact h
 |.tup xs,_,h=>by
  unfold cz at h ⊢;obtain⟨a,vs,e1,h1,h2⟩:=h;exact⟨a,vs,e1,e _ _ h1,aX.mono e h2⟩
 |.lst xs,_,h=>by
  unfold cz at h ⊢;obtain⟨a,vs,e1,h1,h2⟩:=h;exact⟨a,vs,e1,e.seq h1,aX.mono e h2⟩
 |.dct _ ds,_,h=>by
  unfold cz at h ⊢;obtain⟨a,vs,e1,h1,h2⟩:=h;refine⟨a,vs,e1,aX.mono e h1,?_⟩;rcases h2 with⟨kvs,h2,h3⟩|⟨kvs,h2,h3⟩|⟨kvs,o,h2,h3⟩
  ·exact .inl ⟨kvs,e _ _ h2,h3⟩
  ·exact .inr (.inl ⟨kvs,e _ _ h2,h3⟩)
  ·exact .inr (.inr ⟨kvs,o,e _ _ h2,h3⟩)
 |.obj _ _ ds,_,h=>by
  unfold cz at h ⊢;obtain⟨a,vs,e1,h1,h2,C,dx,h3,h4⟩:=h;exact⟨a,vs,e1,aX.mono e h1,h2,C,dx,h3,e _ _ h4⟩
 |.exc _ _ ds,_,h=>by
  unfold cz at h ⊢;obtain⟨a,vs,e1,h1,h2,C,dx,h3,h4,h5⟩:=h;exact⟨a,vs,e1,aX.mono e h1,h2,C,dx,h3,e _ _ h4,h5.imp id λ⟨d,q1,q2⟩=>⟨d,q1,e _ _ q2⟩⟩
theorem aX.mono{K:Qw}{H H':Hp}(e:aZ H H'):∀{ds:List D}{vs:aH},aX K H ds vs->aX K H' ds vs
 |[],_,h=>by unfold aX at h ⊢;exact h
 |x::xs,_,h=>by
  unfold aX at h ⊢;obtain⟨v,r,e1,h1,h2⟩:=h;exact⟨v,r,e1,cz.mono e h1,aX.mono e h2⟩
end
section
variable{K:Qw}{H:Hp}
theorem hV{v:V}:cz K H .non v↔v=.non:=by unfold cz;rfl
theorem ia{b:Bool}{v:V}:cz K H (.bl b) v↔v=.bl b:=by unfold cz;rfl
theorem eZ{i:Int}{v:V}:cz K H (.int i) v↔v=.int i:=by unfold cz;rfl
theorem fg{x:Str}{v:V}:cz K H (.str x) v↔v=.str x:=by unfold cz;rfl
theorem b7{xs:List D}{v:V}:cz K H (.tup xs) v↔∃a vs,v=.ref a/\H a=some (.tup vs)/\aX K H xs vs:=by unfold cz;rfl
theorem cn{xs:List D}{v:V}:cz K H (.lst xs) v↔∃a vs,v=.ref a/\jR K H a vs/\aX K H xs vs:=by unfold cz;rfl
theorem JP{ks ds : List D}{v : V}: cz K H (.dct ks ds) v ↔ ∃ a vs, v = .ref a /\ aX K H ds vs /\ ((∃ kvs : List (Key × V), H a = some (.dK kvs) /\ ks = kvs.map (fun p => rH p.1) /\ vs = kvs.map (·.2)) \/
      (∃kvs:List (List Key×V),H a=some (.dT kvs)/\ks=kvs.map (λp=>.tup (p.1.map rH))/\vs=kvs.map (·.2)) \/
      ∃(kvs:List (List Key×V))(o:Obj),H a=some (.frz o (.dT kvs))/\ks=.non::kvs.map (λp=>.tup (p.1.map rH))/\vs=kvs.map (·.2)):=by unfold cz;rfl
theorem Dz{c:Str}{fs:au}{ds:List D}{v:V}:cz K H (.obj c fs ds) v↔∃a vs,v=.ref a/\aX K H ds vs/\fs.length=vs.length/\∃C dx,clsAt K c C/\H a=some (.ins C dx (fs.zip vs)):=by unfold cz;rfl
theorem JG{c:Str}{fs:au}{ds:List D}{v:V}:cz K H (.exc c fs ds) v↔∃a vs,v=.ref a/\aX K H ds vs/\fs.length=vs.length/\∃C dx,clsAt K c C/\H a=some (.ext (Gg C a dx))/\(fs=[]\/∃d,dx=some d/\H d=some (.xd (fs.zip vs))):=by unfold cz;rfl
theorem cD{vs:aH}:aX K H [] vs↔vs=[]:=by unfold aX;rfl
theorem bH{x:D}{xs:List D}{vs:aH}:aX K H (x::xs) vs↔∃v r,vs=v::r/\cz K H x v/\aX K H xs r:=by conv=>lhs;unfold aX
theorem aX.length:∀{ds:List D}{vs:aH},aX K H ds vs->ds.length=vs.length
 |[],_,h=>by rw[cD]at h;rw[h];rfl
 |_::xs,_,h=>by
  rw[bH]at h;obtain⟨v,r,e,_,h⟩:=h;rw[e,Nv,Nv,aX.length h]
theorem aX.get:∀{ds:List D}{vs:aH}{i:Nat}{d:D},aX K H ds vs->ds[i]?=some d->∃v,vs[i]?=some v/\cz K H d v
 |[],_,_,_,_,e=>by simp at e
 |x::xs,_,0,d,h,e=>by
  rw[bH]at h;obtain⟨v,r,rfl,h1,_⟩:=h;simp at e;subst e;exact⟨v,rfl,h1⟩
 |x::xs,_,i+1,d,h,e=>by
  rw[bH]at h;obtain⟨v,r,rfl,_,h2⟩:=h;obtain⟨w,e1,e2⟩:=aX.get (i:=i) h2 (by simpa using e);exact⟨w,by simpa using e1,e2⟩
theorem aX.append:∀{ds es:List D}{vs ws:aH},aX K H ds vs->aX K H es ws->aX K H (ds++es) (vs++ws)
 |[],_,_,_,h,h'=>by rw[cD]at h;subst h;exact h'
 |x::xs,_,_,_,h,h'=>by
  rw[bH]at h;obtain⟨v,r,rfl,h1,h2⟩:=h;rw[N3,bH];exact⟨v,_,rfl,h1,aX.append h2 h'⟩
theorem aX.take:∀{ds:List D}{vs:aH}(n:Nat),aX K H ds vs->aX K H (ds.take n) (vs.take n)
 |_,_,0,_=>by rw[N4,N4,cD]
 |[],_,_+1,h=>by rw[cD]at h;subst h;rw[N5,N5,cD]
 |x::xs,_,n+1,h=>by
  rw[bH]at h;obtain⟨v,r,rfl,h1,h2⟩:=h;rw[N6,N6,bH];exact⟨v,_,rfl,h1,aX.take n h2⟩
theorem aX.drop:∀{ds:List D}{vs:aH}(n:Nat),aX K H ds vs->aX K H (ds.drop n) (vs.drop n)
 |_,_,0,h=>by rw[N7,N7];exact h
 |[],_,_+1,h=>by rw[cD]at h;subst h;rw[N8,N8,cD]
 |x::xs,_,n+1,h=>by
  rw[bH]at h;obtain⟨v,r,rfl,h1,h2⟩:=h;rw[N9,N9];exact aX.drop n h2
theorem aX.snoc{ds:List D}{vs:aH}{d:D}{v:V}(h:aX K H ds vs)(h':cz K H d v):aX K H (ds++[d]) (vs++[v]):=
 h.append (bH.mpr ⟨v,[],rfl,h',cD.mpr rfl⟩)
theorem aX.one{d:D}{vs:aH}(h:aX K H [d] vs):∃v,vs=[v]/\cz K H d v:=by
 rw[bH]at h;obtain⟨v,r,rfl,h1,h2⟩:=h;rw[cD]at h2;subst h2;exact⟨v,rfl,h1⟩
theorem aX.two{d e:D}{vs:aH}(h:aX K H [d,e] vs):∃v w,vs=[v,w]/\cz K H d v/\cz K H e w:=by
 rw[bH]at h;obtain⟨v,r,rfl,h1,h2⟩:=h;obtain⟨w,rfl,h3⟩:=h2.one;exact⟨v,w,rfl,h1,h3⟩
theorem pE:∀ns:List Int,aX K H (ns.map D.int) (ns.map V.int)
 |[]=>cD.mpr rfl
 |n::ns=>bH.mpr ⟨_,_,rfl,eZ.mpr rfl,pE ns⟩
end
noncomputable def hid(H:Hp)(O:aF):Hp:=λb=>if b∈O then none else H b
theorem aO(H:Hp)(O:aF):aZ (hid H O) H:=λb o h=>by
 unfold hid at h;split at h
 ·cases h
 ·exact h
theorem cw{H H':Hp}{O:aF}(e:aZ H H'):aZ (hid H O) (hid H' O):=λb o h=>by
 unfold hid at h ⊢;by_cases hb:b∈O
 ·rw[if_pos hb]at h;cases h
 ·rw[if_neg hb]at h ⊢;exact e b o h
theorem gJ{H:Hp}{O O':aF}(s:∀a∈O,a∈O'):aZ (hid H O') (hid H O):=λb o h=>by
 unfold hid at h ⊢;by_cases hb:b∈O'
 ·rw[if_pos hb]at h;cases h
 ·rw[if_neg hb]at h;rw[if_neg λz=>hb (s b z)];exact h
theorem C7(H:Hp):hid H []=H:=by funext b;unfold hid;simp
theorem we{H:Hp}{O:aF}{p:RG}{o:HO}(h:H p=none):aZ (hid H O) (hid (upd H p o) O):=λb u q=>by
 unfold hid at q ⊢;by_cases hb:b∈O
 ·rw[if_pos hb]at q;cases q
 ·rw[if_neg hb]at q ⊢;rw[ay (aQ q h)];exact q
theorem cJ{H:Hp}{p:RG}(h:H p=none)(o:HO):aZ H (upd H p o):=λb u q=>by rw[ay (aQ q h)];exact q
theorem iT{H:Hp}{O:aF}{p:RG}(h:p∉O):hid H O p=H p:=by unfold hid;rw[if_neg h]
theorem mR{H:Hp}{O:aF}{p:RG}{o:HO}(h:p∈O):aZ (hid H O) (hid (upd H p o) O):=λb u q=>by
 unfold hid at q ⊢;by_cases hb:b∈O
 ·rw[if_pos hb]at q;cases q
 ·rw[if_neg hb]at q ⊢;rw[ay (λz=>hb (by rw[z];exact h))];exact q
inductive S where
 |val (d:D)|own (d:D)|nest (d:D)
noncomputable abbrev av:=List (Option S)
noncomputable def oB:HO->Prop
 |.lst _=>True
 |.dK _=>True
 |.dT _=>True
 |_=>False
class aC where
 tab:Hp->Prop
 same:∀{H H':Hp},tab H->aZ H H'->tab H'
 own:∀{H:Hp}{p:RG}{o o':HO},tab H->H p=some o->oB o->tab (upd H p o')
variable[aC]
noncomputable def dq(H:Hp)(O:aF):Prop:=aC.tab H/\∀a∈O,∃o,H a=some o/\oB o
theorem dq.not{H:Hp}{O:aF}(h:dq H O){p:RG}(n:H p=none):p∉O:=λz=>by
 obtain⟨vs,e,_⟩:=h.2 p z;rw[n]at e;cases e
theorem dq.same{H H':Hp}{O:aF}(h:dq H O)(e:aZ H H'):dq H' O:=⟨aC.same h.1 e,λa ha=>let ⟨vs,q,m⟩:=h.2 a ha;⟨vs,e _ _ q,m⟩⟩
theorem dq.upd{H:Hp}{O:aF}{p:RG}{o:HO}(h:dq H O)(hp:p∈O)(m:oB o):dq (L2.upd H p o) O:=⟨let ⟨_,q,r⟩:=h.2 p hp;aC.own h.1 q r,λa ha=>by
 by_cases z:a=p
 ·rw[z];exact⟨o,aK,m⟩
 ·obtain⟨u,q,r⟩:=h.2 a ha;exact⟨u,by rw[ay z];exact q,r⟩⟩
theorem dq.cons{H:Hp}{O:aF}{p:RG}{o:HO}(h:dq H O)(hp:H p=some o)(m:oB o):dq H (p::O):=⟨h.1,λa ha=>by
 rcases List.mem_cons.mp ha with z|z
 ·rw[z];exact⟨o,hp,m⟩
 ·exact h.2 a z⟩
noncomputable def iN(K:Qw)(H:Hp)(O:aF)(a:RG)(d:D):Prop:=∃o vs,H a=some o/\match d with
 |.lst xs=>o=.lst vs/\aX K (hid H O) xs vs
 |.dct ks ds=>aX K (hid H O) ds vs/\((∃kvs:List (Key×V),o=.dK kvs/\ks=kvs.map (λp=>rH p.1)/\vs=kvs.map (·.2)) \/
   ∃kvs:List (List Key×V),o=.dT kvs/\ks=kvs.map (λp=>.tup (p.1.map rH))/\vs=kvs.map (·.2))
 |_=>False
theorem iN.mono{K:Qw}{H H':Hp}{O O':aF}{a:RG}{d:D}(h:iN K H O a d)(e:H a=H' a)(s:aZ (hid H O) (hid H' O')):iN K H' O' a d:=by
 obtain⟨o,vs,h1,h2⟩:=h;refine⟨o,vs,by rw[<-e];exact h1,?_⟩;cases d with
 |lst xs=>exact⟨h2.1,h2.2.mono s⟩
 |dct ks ds=>exact⟨h2.1.mono s,h2.2⟩
 |_=>exact h2
theorem iN.some{K:Qw}{H:Hp}{O:aF}{a:RG}{d:D}(h:iN K H O a d):∃o,H a=some o:=let ⟨o,_,e,_⟩:=h;⟨o,e⟩
theorem iN.den{K:Qw}{H:Hp}{O O':aF}{a:RG}{d:D}(h:iN K H O a d)(s:aZ (hid H O) (hid H O'))(ha:a∉O'):cz K (hid H O') d (.ref a):=by
 obtain⟨o,vs,h1,h2⟩:=h;have h1':hid H O' a=Option.some o:=by rw[iT ha];exact h1
 cases d with
 |lst xs=>
  obtain⟨e,g⟩:=h2;subst e;exact cn.mpr ⟨a,vs,rfl,jR.of h1',g.mono s⟩
 |dct ks ds=>
  obtain⟨g,q⟩:=h2;refine JP.mpr ⟨a,vs,rfl,g.mono s,?_⟩;rcases q with⟨kvs,e,q⟩|⟨kvs,e,q⟩
  ·subst e;exact .inl ⟨kvs,h1',q⟩
  ·subst e;exact .inr (.inl ⟨kvs,h1',q⟩)
 |_=>exact h2.elim
structure dz(K:Qw)(O:aF)(H:Hp)(ρ:av)(σ:St):Prop where
 val:∀(i:Nat) d,ρ[i]?=some (some (.val d))->∃v,σ[i]?=some (some v)/\cz K (hid H O) d v
 own:∀(i:Nat) d,ρ[i]?=some (some (.own d))->∃a,σ[i]?=some (some (.ref a))/\a∈O/\iN K H O a d
 one:∀(i j:Nat) xs ys a,ρ[i]?=some (some (.own xs))->ρ[j]?=some (some (.own ys))->σ[i]?=some (some (.ref a))->σ[j]?=some (some (.ref a))->i=j
 all:dq H O
theorem wF{H H':Hp}(e:aZ H H'){a:RG}{o:HO}(h:H a=some o):H a=H' a:=by rw[h,e _ _ h]
theorem dz.same{K:Qw}{O:aF}{H H':Hp}{ρ:av}{σ:St}(h:dz K O H ρ σ)(e:aZ H H'):dz K O H' ρ σ:=
  ⟨fun i d q=>let ⟨v,a,b⟩:=h.val i d q; ⟨v,a,b.mono (cw e)⟩,
   λi xs q=>let ⟨a,q1,q2,q3⟩:=h.own i xs q;⟨a,q1,q2,q3.mono (let ⟨_,z⟩:=q3.some;wF e z) (cw e)⟩,h.one,h.all.same e⟩
structure Ex where
 c:Str
 fs:au
 vs:List D
noncomputable abbrev R(α:Type):=Except (Option Ex) α
noncomputable abbrev aW:=av->R (List D)
noncomputable abbrev bF:=av->R Bool
noncomputable abbrev cP:=List D->R D
noncomputable abbrev un{α:Type}:R α:=.error none
noncomputable def rO{α:Type}:Option α->R α
 |some a=>.ok a
 |none=>.error none
noncomputable def IL(K:Qw)(Hd:Hp)(x:Ex)(C:RG)(dx:Option RG):Prop:=clsAt K x.c C/\∃ws,aX K Hd x.vs ws/\x.fs.length=ws.length/\(x.fs=[]\/∃d,dx=some d/\Hd d=some (.xd (x.fs.zip ws)))
theorem IL.mono{K:Qw}{H H':Hp}{x:Ex}{C:RG}{dx:Option RG}(h:IL K H x C dx)(e:aZ H H'):IL K H' x C dx:=by
 obtain⟨h1,ws,h2,h3,h4⟩:=h;exact⟨h1,ws,h2.mono e,h3,h4.imp id λ⟨d,q1,q2⟩=>⟨d,q1,e _ _ q2⟩⟩
end TG
namespace TG
open PySem PySem.Spec L2
variable[aC]
open PyProof.Rows (AllBare)
theorem uP{P:RM}{w:RL}{H:Hp}{h:RN}{a:RG}{o:HO}(x:dE P w H h a o):∃u,h.get? a=some u:=by
 cases o with
 |lst xs=>obtain⟨_,_,_,_,e⟩:=x;exact⟨_,e⟩
 |tup xs=>obtain⟨_,_,_,o,e,_⟩:=x;exact⟨_,e⟩
 |dK kvs=>obtain⟨_,_,_,_,o,_,_,e,_⟩:=x;exact⟨_,e⟩
 |dT kvs=>obtain⟨_,_,_,_,o,_,_,e,_⟩:=x;exact⟨_,e⟩
 |set S n=>obtain⟨o,_,_,_,e,_⟩:=x;exact⟨_,e⟩
 |ins C dx fs=>obtain⟨_,_,_,e,_⟩:=x;exact⟨_,e⟩
 |own y=>exact x
 |xd fs=>obtain⟨_,⟨_,_,_,e,_⟩,_⟩:=x;exact⟨_,e⟩
 |rng lo hi=>obtain⟨_,_,_,e⟩:=x;exact⟨_,e⟩
 |frz ob u=>obtain⟨e,_⟩:=x;exact⟨_,e⟩
 |tbl ps=>exact⟨_,(show h.get? a=some _ from x)⟩
 |met f y=>exact⟨_,(show h.get? a=some _ from x)⟩
 |ext φ=>obtain⟨_,e,_⟩:=x;exact e
noncomputable def gX(X:Cx)(H:Hp)(b:RG):Prop:=((∃o,X.s₀.heap.get? b=some o)/\b∉X.ex)\/H b≠none\/(∃o,(b,o)∈X.pn)\/∃x,X.env.cells.lookup x=some b
noncomputable def M2(B:RN)(e:RG)(cls a0:RE)(h:RN):Prop:=h.TracedW B e cls a0\/∃oe vs,h.get? e=some oe/\oe.cls=cls/\oe.data=.fields vs/\vs[1]?=some .none/\vs[0]?=some a0
noncomputable def tD(X:Cx)(H:Hp)(s:RK)(e C:RG)(dx:Option RG):Prop:=(∀oe,s.heap.get? e=some oe->oe.dict=dx)/\∃B a0,B.StaysIn s.heap/\B.get? e=none/\s.heap.FunFrames B X.stack/\M2 B e (.ref C) a0 s.heap/\∀b o,s.heap.get? b=some o->gX X H b->b∉frs X.stack->B.get? b=some o
noncomputable def Mg(X:Cx)(H:Hp)(O:aF)(s:RK)(u:RE)(x:Ex):Prop:=∃e C dx,u=.ref e/\IL X.K (hid H O) x C dx/\tD X H s e C dx
noncomputable def iH(P:RM)(w:RL):vd:=λouter H s E u s'=>∃e C dx H' B a0,u=.ref e/\(∀oe,s'.heap.get? e=some oe->oe.dict=dx)/\s'.os=s.os/\AllBare s'.gens/\Un (frs outer) [] H H' s.heap s'.heap/\nH P w H' s'.heap/\Rm B outer e (.ref C) a0 s'.heap/\
 (∀b o,s'.heap.get? b=some o->((∃o',s.heap.get? b=some o')\/H' b≠none)->b∉frs outer->B.get? b=some o)/\E (.ref C) dx H'
noncomputable def KH(K:Qw)(H:Hp)(O:aF)(x:Ex)(E:XK):Prop:=∀C dx H',aZ H H'->IL K (hid H' O) x C dx->E (.ref C) dx H'
noncomputable def HB(X:Cx)(σ:St)(O:aF)(H:Hp)(x:Ex):Prop:=∀pins s u H',Inv X pins σ H' s->aZ H H'->Mg X H' O s u x->X.xe u s
theorem HB.mono{X:Cx}{σ:St}{O:aF}{H H':Hp}{x:Ex}(h:HB X σ O H x)(s:aZ H H'):HB X σ O H' x:=λpins st u H2 I s2 f=>h pins st u H2 I (s.trans s2) f
noncomputable def wL(X:Cx)(O:aF)(H:Hp)(x:Ex):XK:=λu dx H'=>∃C,u=.ref C/\aZ H H'/\IL X.K (hid H' O) x C dx
noncomputable def iY(CX:vd)(X:Cx)(σ:St)(E:XK):Prop:=∀(pins:bn)(H:Hp)(s:RK)(e:RE)(s':RK),Inv X pins σ H s->CX X.stack H s E e s'->X.xe e s'
theorem wA{X:Cx}{σ:St}{O:aF}{H:Hp}{x:Ex}(h:HB X σ O H x):iY (iH X.prog X.w) X σ (wL X O H x):=by
 rintro pins H1 s u s' I ⟨e,C,dx,H',B,a0,rfl,hdx,os,bare,un,hok,⟨f1,f2,f3,f4⟩,kp,C',eC,sm,hd⟩;cases eC;have I':Inv X pins σ H' s':=I.call' os un hok bare (ch:=[]) λb z=>absurd z (by simp);refine h pins s' _ H' I' sm ⟨e,C,dx,rfl,hd,hdx,B,a0,f1,f2,f3,.inl f4,λb o eb hb nf=>kp b o eb ?_ nf⟩;rcases hb with⟨⟨o',hb⟩,nx⟩|hb|⟨o',hb⟩|⟨y,hb⟩
 ·exact .inl (I.base.there b o' hb nx)
 ·exact .inr hb
 ·exact .inl ⟨_,(I.pin _ (Nj _ hb)).1⟩
 ·obtain⟨v,o,q,_⟩:=I.cell y b hb;exact .inl ⟨o,q⟩
theorem vH{X:Cx}{σ:St}:iY (iH X.prog X.w) X σ E0:=λ_ _ _ _ _ _ h=>by
 obtain⟨_,_,_,_,_,_,_,_,_,_,_,_,_,_,z⟩:=h;exact z.elim
theorem tV{X:Cx}{O:aF}{H:Hp}{x:Ex}:KH X.K H O x (wL X O H x):=λC dx H' s e=>⟨C,rfl,s,e⟩
section
variable{X:Cx}{pins:bn}{σ:St}{H:Hp}{s:RK}{h':RN}
theorem wu(I:Inv X pins σ H s)(k:∀b o,s.heap.get? b=some o->gX X H b->b∉frs X.stack->h'.get? b=some o):nH X.prog X.w H h':=λa ob ea=>
 (I.hok a ob ea).stay (λb u hb q=>by
  have hn:H b≠none:=by
   rcases hb with e|e
   ·rw[e,ea];intro z;cases z
   ·rw[e];intro z;cases z
  exact k b u q (.inr (.inl hn)) λhf=>hn (I.stkFree b hf)) (λ_ q=>q) λ_ _ q=>q
theorem pI(I:Inv X pins σ H s)(us:s.heap.UpToSlots h'){b:RG}{o:Obj}(hb:b∈frs X.stack)(e:s.heap.get? b=some o):∃sl,h'.get? b=some {o with slots:=sl}:=by
 obtain⟨_,o',e',nf⟩:=I.stack.mem hb;rw[e]at e';cases e';exact us b o e nf
theorem zG(I:Inv X pins σ H s)(hx:X.ex=[])(hst:X.stack=X.env::X.outer)(hf:X.env.frame=some X.env.locals)(us:s.heap.UpToSlots h')(k:∀b o,s.heap.get? b=some o->gX X H b->b∉frs X.stack->h'.get? b=some o):
  Un (frs X.outer) [] X.H₀ H X.s₀.heap h':=by
 have U:=I.base;rw[hx]at U;have fr:frs X.stack=X.env.locals::frs X.outer:=by rw[hst];show List.filterMap _ (_::_)=_;rw[Ng,hf];rfl
 have nl:∀b o,X.s₀.heap.get? b=some o->b≠X.env.locals:=λb o q z=>by
  have h1:=Rf q;have h2:=I.ok.above;rw[z]at h1;exact M9 _ (M8 h1 h2)
 have nfr:∀b o,X.s₀.heap.get? b=some o->b∉frs X.outer->b∉frs X.stack:=λb o q nb z=>by
  rw[fr]at z;rcases List.mem_cons.mp z with z|z
  ·exact nl b o q z
  ·exact nb z
 refine⟨λb o q n nb _=>k b o (U.keep b o q n nb (by simp)) (.inl ⟨⟨o,q⟩,by rw[hx];simp⟩) (nfr b o q nb),λb o q n hb _=>?_,λb o q n _=>U.free b o q n (by simp),λb o q _=>?_,U.tups,U.frzs,U.tbls⟩
 ·obtain⟨sl,e⟩:=U.slot b o q n hb (by simp);obtain⟨sl',e'⟩:=pI I us (by rw[fr];exact Ni _ hb) e;exact⟨sl',e'⟩
 ·obtain⟨o1,e1⟩:=U.there b o q (by simp);by_cases hb:b∈frs X.stack
  ·obtain⟨sl,e⟩:=pI I us hb e1;exact⟨_,e⟩
  ·exact⟨o1,k b o1 e1 (.inl ⟨⟨o,q⟩,by rw[hx];simp⟩) hb⟩
end
theorem By{P:RM}{w:RL}{K:Qw}{mg:bP}{base:RN}{N:au}{qual:Str}{scope:RW}{f:RG}{cd:RE}{A:RV}{outer:List Env}{s:RK}{H:Hp}{E:XK}{σ:St}{O O':aF}{H':Hp}{x:Ex}
  (hx:KH K H O x E) (sm:aZ H H') (hs:∀a∈O,a∈O'):HB (fO (iH P w) P w K mg base N qual scope f cd A outer s H E) σ O' H' x:=by
 rintro pins s1 u H1 I s2 ⟨e,C,dx,rfl,hd,hdx,B,a0,b1,b2,b3,b4,b5⟩;have fin:∀h',Rm B outer e (.ref C) a0 h'->s1.heap.UpToSlots h'->DS s1.heap h'->iH P w outer H s E (.ref e) {s1 with heap:=h'}:=λh' fl us ds=>by
  have k:∀b o,s1.heap.get? b=some o->gX (fO (iH P w) P w K mg base N qual scope f cd A outer s H E) H1 b->b∉frs (fO (iH P w) P w K mg base N qual scope f cd A outer s H E).stack->h'.get? b=some o:=λb o q kb nf=>fl.1 b o (b5 b o q kb nf);have un:=zG I rfl rfl rfl us k;have hok:=wu I k;refine⟨e,C,dx,H1,B,a0,rfl,λoe' q=>?_,I.os,I.bare,un,hok,fl,λb o q hb nf=>?_,hx C dx H1 (sm.trans s2) (hd.mono (gJ hs))⟩
  ·obtain⟨oe,q1⟩:∃oe,s1.heap.get? e=some oe:=by
    rcases b4 with⟨oe,_,_,_,_,h1,_⟩|⟨oe,_,h1,_⟩
    ·exact⟨oe,h1⟩
    ·exact⟨oe,h1⟩
   exact(ds.dict q1 q).trans (hdx oe q1)
  have nf2:b∉frs (fO (iH P w) P w K mg base N qual scope f cd A outer s H E).stack:=λz=>by
   rcases List.mem_cons.mp (show b∈s.heap.objs.size::frs outer from z)with z|z
   ·rcases hb with hb|hb
    ·obtain⟨o',hb⟩:=hb
     have:=Rf hb
     rw[z]at this;exact M9 _ this
    ·rw[z]at hb;exact hb I.free
   ·exact nf z
  have kb:gX (fO (iH P w) P w K mg base N qual scope f cd A outer s H E) H1 b:=hb.elim (λz=>.inl ⟨z,λy=>nomatch y⟩) λz=>.inr (.inl z);obtain⟨o1,e1⟩:∃o1,s1.heap.get? b=some o1:=by
   rcases hb with⟨o',hb⟩|hb
   ·exact I.base.there b o' hb (λz=>nomatch z)
   ·cases q0:H1 b with
    |none=>exact absurd q0 hb
    |some ob=>exact uP (I.hok b ob q0)
  have:=k b o1 e1 kb nf2
  rw[q]at this;cases this;exact b5 b _ e1 kb nf2
 show RY _ _ (leaving (Ru qual scope s.heap.objs.size f cd) (.ref e)) _ _ s1;refine DP.go (uC _ _) (P:=λh'=>Rm B outer e (.ref C) a0 h'/\s1.heap.UpToSlots h') ?_ λh' z ds=>fin h' z.1 z.2 ds;rcases b4 with b4|⟨oe,vs,c1,c2,c3,c4,c5⟩
 ·exact wpAny_leaves_onW I.ok.frames rfl ⟨b1,b2,b3,b4⟩ λh' fl us=>⟨h',rfl,fl,us⟩
 ·refine wpAny_leaving_firstW I.ok.frames b3 rfl c1 b1 b2 c3 c4 c5 λh' hL=>?_;obtain⟨k1,⟨_,_,k2⟩,k3,k4⟩:=hL;exact⟨h',rfl,⟨k1,b2,k2,c2 ▸ k3⟩,k4⟩
end TG
namespace TG
open PySem PySem.Spec L2
variable[aC]
noncomputable def fG(X:Cx)(σ:St)(O:aF)(H:Hp){α:Type}(r:R α)(Q:α->Prop):Prop:=match r with
 |.ok a=>Q a
 |.error (some x)=>HB X σ O H x
 |.error none=>False
section
variable{X:Cx}{σ:St}{O:aF}{H H':Hp}{α β:Type}
theorem fG.bind{r:R α}{G:α->R β}{Q:β->Prop}(h:fG X σ O H (r.bind G) Q):fG X σ O H r λa=>fG X σ O H (G a) Q:=by
 match r,h with
 |.ok a,h=>exact h
 |.error (some x),h=>exact h
 |.error none,h=>exact h
theorem fG.imp{r:R α}{Q Q':α->Prop}(h:fG X σ O H r Q)(f:∀a,Q a->Q' a):fG X σ O H r Q':=by
 match r,h with
 |.ok a,h=>exact f a h
 |.error (some x),h=>exact h
 |.error none,h=>exact h
theorem fG.mono{r:R α}{Q:α->Prop}(h:fG X σ O H r Q)(s:aZ H H'):fG X σ O H' r Q:=by
 match r,h with
 |.ok a,h=>exact h
 |.error (some x),h=>exact HB.mono h s
 |.error none,h=>exact h
theorem fG.rO{o:Option α}{Q:α->Prop}(h:fG X σ O H (rO o) Q):∃a,o=some a/\Q a:=by
 match o,h with
 |some a,h=>exact⟨a,rfl,h⟩
 |none,h=>exact h.elim
end
noncomputable abbrev FX:=av->R D
noncomputable def tF(X:Cx)(F:FX):TE:=λσ H Q=>∃O ρ,dz X.K O H ρ σ/\fG X σ O H (F ρ) λd=>∀v H',aZ H H'->cz X.K (hid H' O) d v->Q v H'
noncomputable def Jx(X:Cx)(F:bF):TT:=λσ H Q=>∃O ρ,dz X.K O H ρ σ/\fG X σ O H (F ρ) λb=>∀H',aZ H H'->Q b H'
noncomputable def LA(X:Cx)(F:aW):TA:=λσ H Q=>∃O ρ,dz X.K O H ρ σ/\fG X σ O H (F ρ) λds=>∀vs H',aZ H H'->aX X.K (hid H' O) ds vs->Q vs H'
noncomputable def FE(X:Cx)(e:RH)(F:FX):Prop:=PE X e (tF X F)
noncomputable def FT(X:Cx)(e:RH)(F:bF):Prop:=PT X e (Jx X F)
noncomputable def FW(X:Cx)(e:RH)(F:bF):Prop:=PW X e (Jx X F)
noncomputable def FA(X:Cx)(es:bA)(F:aW):Prop:=PA X es (LA X F)
theorem PE.weak{X:Cx}{e:RH}{t t':TE}(h:PE X e t)(w:∀σ H Q,t' σ H Q->t σ H Q):PE X e t':=λpins s σ H Q I q=>h pins s σ H Q I (w σ H Q q)
theorem PT.weak{X:Cx}{e:RH}{t t':TT}(h:PT X e t)(w:∀σ H Q,t' σ H Q->t σ H Q):PT X e t':=λpins s σ H Q I q=>h pins s σ H Q I (w σ H Q q)
theorem PW.weak{X:Cx}{e:RH}{t t':TT}(h:PW X e t)(w:∀σ H Q,t' σ H Q->t σ H Q):PW X e t':=λwhole pins s σ H Q I q=>h whole pins s σ H Q I (w σ H Q q)
theorem PA.weak{X:Cx}{es:bA}{t t':TA}(h:PA X es t)(w:∀σ H Q,t' σ H Q->t σ H Q):PA X es t':=λpos pins s σ H Q I q=>h pos pins s σ H Q I (w σ H Q q)
theorem PS.weak{X:Cx}{st:RJ}{t t':TS}(h:PS X st t)(w:∀D σ H,t' D σ H->t D σ H):PS X st t':=λpins s σ H Q I q=>h pins s σ H Q I (w Q σ H q)
theorem oV.weak{X:Cx}{st:dM}{t t':TS}(h:oV X st t)(w:∀D σ H,t' D σ H->t D σ H):oV X st t':=λpins s σ H Q I q=>h pins s σ H Q I (w Q σ H q)
noncomputable def oM(ρ:av)(i:Nat):R D:=match ρ[i]? with
 |some (some (.val d))=>.ok d
 |_=>un
theorem DG{ρ:av}{i:Nat}{d:D}(h:oM ρ i=.ok d):ρ[i]?=some (some (.val d)):=by
 unfold oM at h;split at h
 ·rename_i e;cases h;exact e
 ·cases h
noncomputable def af(i:Nat):FX:=λρ=>oM ρ i
noncomputable def fC(d:D):FX:=λ_=>.ok d
section
variable{X:Cx}
theorem qb{σ:St}{O:aF}{H:Hp}{ρ:av}{i:Nat}{Q:D->Prop}(h:fG X σ O H (oM ρ i) Q):∃d,ρ[i]?=some (some (.val d))/\Q d:=by
 cases e:oM ρ i with
 |ok d=>rw[e]at h;exact⟨d,DG e,h⟩
 |error z=>
  rw[e]at h;cases z with
  |none=>exact h.elim
  |some x=>
   exfalso;unfold oM at e;split at e
   ·cases e
   ·have:=Except.error.inj e;cases this
theorem iS{e:RH}{d:D}{v:V}(h:PE X e (tC v))(hd:∀K H,cz K H d v):FE X e (fC d):=
 PE.weak h λσ H Q ⟨O,ρ,E,q⟩=>q v H (aZ.refl H) (hd _ _)
noncomputable def noStar:RH->Bool
 |.Starred _ _=>false
 |_=>true
theorem dC{e:RH}{es:bA}{env:Env}(h:noStar e=true):RZ (e::es) env=(false,eval e env)::RZ es env:=by
 cases e<;>first|rfl|cases h
theorem dW{pos:Pos}{env:Env}:∀{es:bA},es.all noStar=true->(backTo pos (RZ es env)).any (·.1)=false
 |[],_=>rfl
 |e::es,h=>by
  rw[Oa,NU]at h;rw[dC h.1];exact dW h.2
noncomputable def ah:aW:=λ_=>.ok []
noncomputable def aa(f:FX)(g:aW):aW:=λρ=>(f ρ).bind λx=>(g ρ).bind λxs=>.ok (x::xs)
theorem Kj:FA X [] ah:=PA.weak uR λσ H Q ⟨O,ρ,E,q⟩=>q [] H (aZ.refl H) (cD.mpr rfl)
theorem bind_some{α β:Type}{o:Option α}{f:α->Option β}{b:β}(h:o.bind f=some b):∃a,o=some a/\f a=some b:=by
 cases o with
 |none=>cases h
 |some a=>exact⟨a,rfl,h⟩
theorem mZ{ε α β:Type}{o:Except ε α}{f:α->Except ε β}{b:β}(h:o.bind f=.ok b):∃a,o=.ok a/\f a=.ok b:=by
 cases o with
 |error _=>cases h
 |ok a=>exact⟨a,rfl,h⟩
theorem JC{e:RH}{es:bA}{f:FX}{g:aW}(he:FE X e f)(hs:FA X es g)(hns:noStar e=true:=by rfl):FA X (e::es) (aa f g):=
 PA.weak (mO he hs (dC hns)) λσ H Q ⟨O,ρ,E,h⟩=>
  ⟨O,ρ,E,(fG.bind h).imp λx h v H1 s1 d1=>⟨O,ρ,E.same s1,((fG.bind h).mono s1).imp λxs q vs H2 s2 d2=>q (v::vs) H2 (s1.trans s2) (bH.mpr ⟨v,vs,rfl,d1.mono (cw s2),d2⟩)⟩⟩
noncomputable def small(n:Nat):Bool:=decide (n<=100000)
theorem cU{n:Nat}(h:small n=true):n<=RO:=Nc (of_decide_eq_true h) (by decide)
theorem dG{n:Nat}(h:n<=100000):small n=true:=decide_eq_true h
noncomputable def pR(xs:List D):bM:=if small xs.length then some (.tup xs)else none
noncomputable def jY(xs:List D):bM:=if small xs.length then some (.lst xs)else none
noncomputable def bY(g:aW):FX:=λρ=>(g ρ).bind λxs=>rO (pR xs)
noncomputable def fU(g:aW):FX:=λρ=>(g ρ).bind λxs=>rO (jY xs)
theorem bE{α:Type}{c:Bool}{a b:α}(h:(if c then some a else none)=some b):c=true/\a=b:=by
 cases c with
 |true=>exact⟨rfl,Option.some.inj h⟩
 |false=>cases h
theorem eA{K:Qw}{H:Hp}{O:aF}{p:RG}{ds:List D}{vs:aH}(hO:dq H O)(hp:H p=none)(d:aX K (hid H O) ds vs):cz K (hid (upd H p (.tup vs)) O) (.tup ds) (.ref p):=
 b7.mpr ⟨p,vs,rfl,by rw[iT (hO.not hp),aK],d.mono (we hp)⟩
theorem gh{K:Qw}{H:Hp}{O:aF}{p:RG}{ds:List D}{vs:aH}(hO:dq H O)(hp:H p=none)(d:aX K (hid H O) ds vs):cz K (hid (upd H p (.lst vs)) O) (.lst ds) (.ref p):=
 cn.mpr ⟨p,vs,rfl,jR.of (by rw[iT (hO.not hp),aK]),d.mono (we hp)⟩
noncomputable def Dy(K:Qw)(r:V->Hp->VK->Prop)(g:D->bM):Prop:=
 ∀(a d:D)(x:V)(O:aF)(H:Hp)(Q:VK),dq H O->g a=some d->cz K (hid H O) a x->(∀v H',aZ H H'->cz K (hid H' O) d v->Q v H')->r x H Q
noncomputable def f1(g:D->bM)(f:FX):FX:=λρ=>(f ρ).bind λa=>rO (g a)
noncomputable def de(K:Qw)(r:R2)(g:D->D->bM):Prop:=
 ∀(a b d:D)(x y:V)(O:aF)(H:Hp)(Q:VK),dq H O->g a b=some d->cz K (hid H O) a x->cz K (hid H O) b y->(∀v H',aZ H H'->cz K (hid H' O) d v->Q v H')->r x y H Q
noncomputable def f2(g:D->D->bM)(f1 f2:FX):FX:=λρ=>(f1 ρ).bind λa=>(f2 ρ).bind λb=>rO (g a b)
theorem qu{r:R2}{g:D->D->bM}{fa fb:FX}(s:de X.K r g):∀σ H Q,tF X (f2 g fa fb) σ H Q->IY r (tF X fa) (tF X fb) σ H Q:=λσ H Q ⟨O,ρ,E,hF⟩=>
 ⟨O,ρ,E,(fG.bind hF).imp fun a hF x H1 s1 d1=>⟨O,ρ,E.same s1,((fG.bind hF).mono s1).imp fun b hF y H2 s2 d2=>by
  obtain⟨d,e,q⟩:=fG.rO hF;exact s a b d x y O H2 Q (E.all.same (s1.trans s2)) e (d1.mono (cw s2)) d2 λv H3 s3 d3=>q v H3 ((s1.trans s2).trans s3) d3⟩⟩
noncomputable def Ko:D->Option Bool
 |.bl b=>some b
 |_=>none
noncomputable def fB(f:FX):bF:=λρ=>(f ρ).bind λd=>rO (Ko d)
theorem kJ{t:TE}{f:FX}(h:∀σ H Q,tF X f σ H Q->t σ H Q):∀σ H Q,Jx X (fB f) σ H Q->BL t σ H Q:=λσ H Q ⟨O,ρ,E,hF⟩=>
 h σ H _ ⟨O,ρ,E,(fG.bind hF).imp λd hF v H1 s1 d1=>by
  obtain⟨b,e,q⟩:=fG.rO hF;cases d with
  |bl b'=>
   cases e;exact⟨b,ia.mp d1,q H1 s1⟩
  |_=>cases e⟩
noncomputable def wI(K:Qw)(r:aH->Hp->VK->Prop)(g:List D->bM):Prop:=
 ∀(ds:List D)(d:D)(xs:aH)(O:aF)(H:Hp)(Q:VK),dq H O->g ds=some d->aX K (hid H O) ds xs->(∀v H',aZ H H'->cz K (hid H' O) d v->Q v H')->r xs H Q
noncomputable def fL(g:List D->bM)(f:aW):FX:=λρ=>(f ρ).bind λds=>rO (g ds)
noncomputable def fR(g:cP)(f:aW):FX:=λρ=>(f ρ).bind g
theorem Bu{r:aH->Hp->VK->Prop}{g:List D->bM}{f:aW}(s:wI X.K r g):∀σ H Q,tF X (fL g f) σ H Q->K1 r (LA X f) σ H Q:=λσ H Q ⟨O,ρ,E,hF⟩=>
 ⟨O,ρ,E,(fG.bind hF).imp fun ds hF vs H1 s1 d1=>by
  obtain⟨d,e,q⟩:=fG.rO hF;exact s ds d vs O H1 Q (E.all.same s1) e d1 λv H2 s2 d2=>q v H2 (s1.trans s2) d2⟩
noncomputable def nD(f:bF):bF:=λρ=>(f ρ).bind λb=>.ok (!b)
noncomputable def jJ(f g:bF):bF:=λρ=>(f ρ).bind λb=>if b then g ρ else .ok false
noncomputable def oq(f g:bF):bF:=λρ=>(f ρ).bind λb=>if b then .ok true else g ρ
variable{a b c:RH}{rest:bA}{pos:Pos}{f g:bF}
theorem FW.ft{e:RH}(h:FW X e f):FT X e f:=PW.pt h
noncomputable def truth:D->Option Bool
 |.non=>some false
 |.bl b=>some b
 |.int i=>some (i !=0)
 |.str x=>if small x.length then some (x.length !=0)else none
 |.tup xs=>some (!xs.isEmpty)
 |.lst xs=>some (!xs.isEmpty)
 |_=>none
noncomputable def ed(f:FX):bF:=λρ=>(f ρ).bind λd=>rO (truth d)
noncomputable def u9(d:D)(k:R D):R D:=match d with
 |.bl true=>k
 |.bl false=>.ok (.bl false)
 |_=>un
noncomputable def HL(d:D)(k:R D):R D:=match d with
 |.bl false=>k
 |.bl true=>.ok (.bl true)
 |_=>un
noncomputable def FC:D->bM
 |.bl b=>some (.bl (!b))
 |_=>none
noncomputable def iB(f g:FX):FX:=λρ=>(f ρ).bind λd=>u9 d (g ρ)
noncomputable def DC(f g:FX):FX:=λρ=>(f ρ).bind λd=>HL d (g ρ)
noncomputable def tZ(f:FX):FX:=f1 FC f
variable{fa fb:FX}
noncomputable def JQ(t:bF)(f g:FX):FX:=λρ=>(t ρ).bind λc=>if c then f ρ else g ρ
end
end TG
namespace TG
open PySem PySem.Spec L2
variable[aC]
open PySem.SeqAt (EqAt RcAt RcNeAt)
mutual
noncomputable def pyEq:D->D->Bool
 |.non,.non=>true
 |.bl a,.bl b=>a==b
 |.bl a,.int b=>(if a then 1 else 0)==b
 |.int a,.bl b=>a==(if b then 1 else 0)
 |.int a,.int b=>a==b
 |.str a,.str b=>a==b
 |.tup xs,.tup ys=>pyEqL xs ys
 |.lst xs,.lst ys=>pyEqL xs ys
 |.dct _ _,.dct _ _=>true
 |.obj _ _ _,.obj _ _ _=>true
 |.exc _ _ _,.exc _ _ _=>true
 |_,_=>false
noncomputable def pyEqL:List D->List D->Bool
 |[],[]=>true
 |x::xs,y::ys=>pyEq x y&&pyEqL xs ys
 |_,_=>false
end
mutual
theorem gQ:∀d:D,pyEq d d=true
 |.non=>by unfold pyEq;rfl
 |.bl b=>by unfold pyEq;simp
 |.int i=>by unfold pyEq;simp
 |.str x=>by unfold pyEq;simp
 |.tup xs=>by unfold pyEq;exact jN xs
 |.lst xs=>by unfold pyEq;exact jN xs
 |.dct _ _=>by unfold pyEq;rfl
 |.obj _ _ _=>by unfold pyEq;rfl
 |.exc _ _ _=>by unfold pyEq;rfl
theorem jN:∀ds:List D,pyEqL ds ds=true
 |[]=>by unfold pyEqL;rfl
 |d::ds=>by unfold pyEqL;rw[gQ d,jN ds];rfl
end
noncomputable def ux(xs ys:List D)(j:Nat):Bool:=match xs[j]?,ys[j]? with
 |some a,some b=>pyEq a b
 |_,_=>false
theorem eX:∀xs ys:List D,((List.range (min xs.length ys.length)).all (ux xs ys)&&xs.length==ys.length)=pyEqL xs ys
 |[],[]=>by unfold pyEqL;rfl
 |[],_::_=>by unfold pyEqL;simp
 |_::_,[]=>by unfold pyEqL;simp
 |x::xs,y::ys=>by
  have ih:=eX xs ys
  conv=>rhs;unfold pyEqL
  rw[<-ih];have e:min (x::xs).length (y::ys).length=min xs.length ys.length+1:=by simp only[Nv];omega
  rw[e,Oc,Oa,List.all_map];have e2:((x::xs).length==(y::ys).length)=(xs.length==ys.length):=by simp
  rw[e2,Bool.and_assoc];have e3:(List.range (min xs.length ys.length)).all (ux (x::xs) (y::ys)∘Nat.succ)=(List.range (min xs.length ys.length)).all (ux xs ys):=by
   congr 1
  rw[e3];rfl
mutual
noncomputable def pl:D->Bool
 |.tup xs=>gH xs
 |.lst xs=>gH xs
 |.dct _ _=>false
 |.obj _ _ _=>false
 |.exc _ _ _=>false
 |_=>true
noncomputable def gH:List D->Bool
 |[]=>true
 |x::xs=>pl x&&gH xs
end
theorem eP{ks vs:List D}(h:pl (.dct ks vs)=true):False:=by unfold pl at h;cases h
theorem eO{c:Str}{fs:au}{vs:List D}(h:pl (.obj c fs vs)=true):False:=by unfold pl at h;cases h
theorem eV{c:Str}{fs:au}{vs:List D}(h:pl (.exc c fs vs)=true):False:=by unfold pl at h;cases h
theorem jj:∀{xs:List D},gH xs=true->∀x∈xs,pl x=true
 |[],_,_,h=>nomatch h
 |x::xs,h,y,hy=>by
  unfold gH at h;rw[NU]at h;rcases List.mem_cons.mp hy with z|z
  ·rw[z];exact h.1
  ·exact jj h.2 y z
theorem rS:∀{xs:List D},(∀x∈xs,pl x=true)->gH xs=true
 |[],_=>by unfold gH;rfl
 |x::xs,h=>by
  unfold gH;rw[NU];exact⟨h x Nh,rS λy hy=>h y (Ni _ hy)⟩
theorem bW{xs:List D}:pl (.tup xs)=gH xs:=by rw[pl]
theorem dR{xs:List D}:pl (.lst xs)=gH xs:=by rw[pl]
theorem G4{i:Int}:pl (.int i)=true:=by unfold pl;rfl
theorem HA{x:Str}:pl (.str x)=true:=by unfold pl;rfl
noncomputable def cS:Nat->D->Bool
 |n+1,.tup xs=>xs.all (cS n)
 |n+1,.lst xs=>xs.all (cS n)
 |0,.tup _=>false
 |0,.lst _=>false
 |_,.dct _ _=>false
 |_,.obj _ _ _=>false
 |_,.exc _ _ _=>false
 |_,_=>true
section
variable{X:Cx}{pins:bn}{σ:St}{H:Hp}{s:RK}
theorem Inv.not_both(I:Inv X pins σ H s){a:RG}{xs ys:aH}(h:lZ X.K H a xs)(h':jR X.K H a ys):False:=by
 obtain⟨its,_,ht,_⟩:=I.tuple h;obtain⟨its2,_,hl,_⟩:=I.list h';exact absurd rfl (SeqAt.ne_of_list_tuple hl.isList (show s.heap.IsTuple a its.toArray from ht))
mutual
theorem Inv.den_inj(I:Inv X pins σ H s):∀{a b:D}{v:V},pl a=true->pl b=true->cz X.K H a v->cz X.K H b v->a=b
 |.non,b,v,pa,pb,h,h'=>by
  rw[hV]at h;subst h;cases b with
  |non=>rfl
  |bl _=>rw[ia]at h';cases h'
  |int _=>rw[eZ]at h';cases h'
  |str _=>rw[fg]at h';cases h'
  |tup _=>rw[b7]at h';obtain⟨_,_,e,_⟩:=h';cases e
  |lst _=>rw[cn]at h';obtain⟨_,_,e,_⟩:=h';cases e
  |dct _ _=>exact(eP pb).elim
  |obj _ _ _=>exact(eO pb).elim
  |exc _ _ _=>exact(eV pb).elim
 |.bl x,b,v,pa,pb,h,h'=>by
  rw[ia]at h;subst h;cases b with
  |non=>rw[hV]at h';cases h'
  |bl _=>rw[ia]at h';cases h';rfl
  |int _=>rw[eZ]at h';cases h'
  |str _=>rw[fg]at h';cases h'
  |tup _=>rw[b7]at h';obtain⟨_,_,e,_⟩:=h';cases e
  |lst _=>rw[cn]at h';obtain⟨_,_,e,_⟩:=h';cases e
  |dct _ _=>exact(eP pb).elim
  |obj _ _ _=>exact(eO pb).elim
  |exc _ _ _=>exact(eV pb).elim
 |.int x,b,v,pa,pb,h,h'=>by
  rw[eZ]at h;subst h;cases b with
  |non=>rw[hV]at h';cases h'
  |bl _=>rw[ia]at h';cases h'
  |int _=>rw[eZ]at h';cases h';rfl
  |str _=>rw[fg]at h';cases h'
  |tup _=>rw[b7]at h';obtain⟨_,_,e,_⟩:=h';cases e
  |lst _=>rw[cn]at h';obtain⟨_,_,e,_⟩:=h';cases e
  |dct _ _=>exact(eP pb).elim
  |obj _ _ _=>exact(eO pb).elim
  |exc _ _ _=>exact(eV pb).elim
 |.str x,b,v,pa,pb,h,h'=>by
  rw[fg]at h;subst h;cases b with
  |non=>rw[hV]at h';cases h'
  |bl _=>rw[ia]at h';cases h'
  |int _=>rw[eZ]at h';cases h'
  |str _=>rw[fg]at h';cases h';rfl
  |tup _=>rw[b7]at h';obtain⟨_,_,e,_⟩:=h';cases e
  |lst _=>rw[cn]at h';obtain⟨_,_,e,_⟩:=h';cases e
  |dct _ _=>exact(eP pb).elim
  |obj _ _ _=>exact(eO pb).elim
  |exc _ _ _=>exact(eV pb).elim
 |.tup xs,b,v,pa,pb,h,h'=>by
  rw[b7]at h;obtain⟨a,vs,e,h1,h2⟩:=h;subst e;cases b with
  |non=>rw[hV]at h';cases h'
  |bl _=>rw[ia]at h';cases h'
  |int _=>rw[eZ]at h';cases h'
  |str _=>rw[fg]at h';cases h'
  |tup ys=>
   rw[b7]at h';obtain⟨a',vs',e,h1',h2'⟩:=h';cases e;have ev:=I.tuple_inj (lZ.of h1) (lZ.of h1');subst ev;rw[Inv.denL_inj I (by first|rw[<-bW];exact pa|rw[<-dR];exact pa) (by first|rw[<-bW];exact pb|rw[<-dR];exact pb) h2 h2']
  |lst _=>rw[cn]at h';obtain⟨_,_,e,h1',_⟩:=h';cases e;exact(Inv.not_both I (lZ.of h1) h1').elim
  |dct _ _=>exact(eP pb).elim
  |obj _ _ _=>exact(eO pb).elim
  |exc _ _ _=>exact(eV pb).elim
 |.lst xs,b,v,pa,pb,h,h'=>by
  rw[cn]at h;obtain⟨a,vs,e,h1,h2⟩:=h;subst e;cases b with
  |non=>rw[hV]at h';cases h'
  |bl _=>rw[ia]at h';cases h'
  |int _=>rw[eZ]at h';cases h'
  |str _=>rw[fg]at h';cases h'
  |lst ys=>
   rw[cn]at h';obtain⟨a',vs',e,h1',h2'⟩:=h';cases e;have ev:=I.list_inj h1 h1';subst ev;rw[Inv.denL_inj I (by first|rw[<-bW];exact pa|rw[<-dR];exact pa) (by first|rw[<-bW];exact pb|rw[<-dR];exact pb) h2 h2']
  |tup _=>rw[b7]at h';obtain⟨_,_,e,h1',_⟩:=h';cases e;exact(Inv.not_both I (lZ.of h1') h1).elim
  |dct _ _=>exact(eP pb).elim
  |obj _ _ _=>exact(eO pb).elim
  |exc _ _ _=>exact(eV pb).elim
 |.dct _ _,_,_,pa,_,_,_=>(eP pa).elim
 |.obj _ _ _,_,_,pa,_,_,_=>(eO pa).elim
 |.exc _ _ _,_,_,pa,_,_,_=>(eV pa).elim
theorem Inv.denL_inj(I:Inv X pins σ H s):∀{as bs:List D}{vs:aH},gH as=true->gH bs=true->aX X.K H as vs->aX X.K H bs vs->as=bs
 |[],bs,vs,pa,pb,h,h'=>by
  rw[cD]at h;subst h;cases bs with
  |nil=>rfl
  |cons b bs=>rw[bH]at h';obtain⟨_,_,e,_⟩:=h';cases e
 |a::as,bs,vs,pa,pb,h,h'=>by
  rw[bH]at h;obtain⟨v,r,e,h1,h2⟩:=h;subst e;cases bs with
  |nil=>rw[cD]at h';cases h'
  |cons b bs=>
   rw[bH]at h';obtain⟨v',r',e,h1',h2'⟩:=h';cases e;unfold gH at pa pb;rw[NU]at pa pb;rw[Inv.den_inj I pa.1 pb.1 h1 h1',Inv.denL_inj I pa.2 pb.2 h2 h2']
end
noncomputable def jF:D->Option V
 |.non=>some .non
 |.bl b=>some (.bl b)
 |.int i=>some (.int i)
 |.str x=>some (.str x)
 |_=>none
theorem lm{K:Qw}{d:D}{v x:V}(h:jF d=some x)(hd:cz K H d v):v=x/\zF x=true:=by
 cases d with
 |non=>cases h;exact⟨hV.mp hd,rfl⟩
 |bl b=>cases h;exact⟨ia.mp hd,rfl⟩
 |int i=>cases h;exact⟨eZ.mp hd,rfl⟩
 |str y=>cases h;exact⟨fg.mp hd,rfl⟩
 |_=>cases h
theorem Cr{a b:D}{x y:V}(ha:jF a=some x)(hb:jF b=some y):J6 x y=pyEq a b:=by
 cases a<;>cases ha<;>cases b<;>cases hb<;>(unfold pyEq J6;rfl)
theorem tW{a:D}{x:V}(n:Nat)(h:jF a=some x):cS n a=true:=by
 cases a with
 |tup _=>cases h
 |lst _=>cases h
 |dct _ _=>cases h
 |obj _ _ _=>cases h
 |exc _ _ _=>cases h
 |_=>cases n<;>rfl
theorem rX{a:D}(h:jF a=none):cS 0 a=false:=by
 cases a with
 |tup _=>rfl
 |lst _=>rfl
 |dct _ _=>rfl
 |obj _ _ _=>rfl
 |exc _ _ _=>rfl
 |_=>cases h
theorem in1_units(A:RV):A.in1.units=A.units+1:=rfl
theorem jS{vs:aH}{us:aU}(r:Vals vs us){j:Nat}(h:j<us.toArray.size):∃x,vs[j]?=some x/\RelV x us.toArray[j]:=by
 have hj:j<us.length:=by simpa using h
 have hl:=r.length;have hv:j<vs.length:=by omega
 obtain⟨u,e,ru⟩:=r.get (i:=j) (x:=vs[j]) (by simp[hv]);refine⟨vs[j],by simp[hv],?_⟩;have e2:us.toArray[j]=u:=by
  rw[Od hj]at e
  simpa using Option.some.inj e
 rw[e2];exact ru
theorem kt{K:Qw}{ds:List D}{vs:aH}(h:aX K H ds vs){j:Nat}{x:V}(e:vs[j]?=some x):∃d,ds[j]?=some d/\cz K H d x:=by
 have hj:j<vs.length:=(List.getElem?_eq_some_iff.mp e).1;have hl:=h.length;have hd:j<ds.length:=by omega
 obtain⟨v,e1,e2⟩:=h.get (i:=j) (d:=ds[j]) (by simp[hd]);rw[e]at e1;cases e1;exact⟨ds[j],by simp[hd],e2⟩
theorem zA(I:Inv X pins σ H s):∀(n:Nat)(a b:D)(x y:V)(u v:RE)(A:RV),pl a=true->pl b=true->(cS n a=true\/cS n b=true)->cz X.K H a x->cz X.K H b y->RelV x u->RelV y v->A.units+n<SA->EqAt A s u v (pyEq a b):=by
 intro n
 induction n with
 |zero=>
  intro a b x y u v A pa pb hd ha hb ru rv hA;have hu:A.units<SA:=hA;cases ha':jF a with
  |some x'=>
   obtain⟨e,f⟩:=lm ha' ha;subst e;cases hb':jF b with
   |some y'=>
    obtain⟨e,f'⟩:=lm hb' hb;subst e;rw[<-Cr ha' hb'];exact GV ru rv f f'
   |none=>
    cases b with
    |tup ys=>
     rw[b7]at hb;obtain⟨p,vs,e,h1,h2⟩:=hb;subst e;cases rv;obtain⟨its,_,ht,_⟩:=I.tuple (lZ.of h1);have ht':s.heap.IsTuple p its.toArray:=ht;cases a with
     |non=>cases ha';cases ru;unfold pyEq;exact .none_tuple ht' hu
     |bl z=>cases ha';cases ru;unfold pyEq;exact .bool_tuple z ht' hu
     |int z=>cases ha';obtain⟨t,rfl⟩:=ru;unfold pyEq;exact .int_tuple z t ht' hu
     |str z=>cases ha';obtain⟨t,rfl⟩:=ru;unfold pyEq;exact .str_tuple z t ht' hu
     |_=>cases ha'
    |lst ys=>
     rw[cn]at hb;obtain⟨p,vs,e,h1,h2⟩:=hb;subst e;cases rv;obtain⟨its,_,ht,_⟩:=I.list h1;have ht':s.heap.IsList p its.toArray:=ht.isList;cases a with
     |non=>cases ha';cases ru;unfold pyEq;exact .none_list ht' hu
     |bl z=>cases ha';cases ru;unfold pyEq;exact .bool_list z ht' hu
     |int z=>cases ha';obtain⟨t,rfl⟩:=ru;unfold pyEq;exact .int_list z t ht' hu
     |str z=>cases ha';obtain⟨t,rfl⟩:=ru;unfold pyEq;exact .str_list z t ht' hu
     |_=>cases ha'
    |dct _ _=>exact(eP pb).elim
    |obj _ _ _=>exact(eO pb).elim
    |exc _ _ _=>exact(eV pb).elim
    |_=>cases hb'
  |none=>
   have hdb:cS 0 b=true:=by
    rcases hd with hd|hd
    ·rw[rX ha']at hd;cases hd
    ·exact hd
   cases hb':jF b with
   |none=>rw[rX hb']at hdb;cases hdb
   |some y'=>
    obtain⟨e,f'⟩:=lm hb' hb;subst e;cases a with
    |tup xs=>
     rw[b7]at ha;obtain⟨p,vs,e,h1,h2⟩:=ha;subst e;cases ru;obtain⟨its,_,ht,_⟩:=I.tuple (lZ.of h1);have ht':s.heap.IsTuple p its.toArray:=ht;cases b with
     |non=>cases hb';cases rv;unfold pyEq;exact .tuple_none ht' hu
     |bl z=>cases hb';cases rv;unfold pyEq;exact .tuple_bool z ht' hu
     |int z=>cases hb';obtain⟨t,rfl⟩:=rv;unfold pyEq;exact .tuple_int z t ht' hu
     |str z=>cases hb';obtain⟨t,rfl⟩:=rv;unfold pyEq;exact .tuple_str z t ht' hu
     |_=>cases hb'
    |lst xs=>
     rw[cn]at ha;obtain⟨p,vs,e,h1,h2⟩:=ha;subst e;cases ru;obtain⟨its,_,ht,_⟩:=I.list h1;have ht':s.heap.IsList p its.toArray:=ht.isList;cases b with
     |non=>cases hb';cases rv;unfold pyEq;exact .list_none ht' hu
     |bl z=>cases hb';cases rv;unfold pyEq;exact .list_bool z ht' hu
     |int z=>cases hb';obtain⟨t,rfl⟩:=rv;unfold pyEq;exact .list_int z t ht' hu
     |str z=>cases hb';obtain⟨t,rfl⟩:=rv;unfold pyEq;exact .list_str z t ht' hu
     |_=>cases hb'
    |dct _ _=>exact(eP pa).elim
    |obj _ _ _=>exact(eO pa).elim
    |exc _ _ _=>exact(eV pa).elim
    |_=>cases ha'
 |succ n ih=>
  intro a b x y u v A pa pb hd ha hb ru rv hA;have hu:A.units<SA:=by omega
  have flatWay:(∀xs ys,¬(a=.tup xs/\b=.tup ys))->(∀xs ys,¬(a=.lst xs/\b=.lst ys))->EqAt A s u v (pyEq a b):=by
   intro n1 n2;cases ha':jF a with
   |some x'=>exact ih a b x y u v A pa pb (.inl (tW n ha')) ha hb ru rv ‹0›
   |none=>
    cases hb':jF b with
    |some y'=>exact ih a b x y u v A pa pb (.inr (tW n hb')) ha hb ru rv ‹0›
    |none=>
     cases a with
     |tup xs=>
      cases b with
      |tup ys=>exact absurd ⟨rfl,rfl⟩ (n1 xs ys)
      |lst ys=>
       rw[b7]at ha;obtain⟨p,vs,e,h1,h2⟩:=ha;subst e;rw[cn]at hb;obtain⟨p',vs',e,h1',h2'⟩:=hb;subst e;cases ru;cases rv;obtain⟨its,_,ht,_⟩:=I.tuple (lZ.of h1);obtain⟨its2,_,ht2,_⟩:=I.list h1';unfold pyEq;exact .tuple_list (show s.heap.IsTuple p its.toArray from ht) ht2.isList hu
      |dct _ _=>exact(eP pb).elim
      |obj _ _ _=>exact(eO pb).elim
      |exc _ _ _=>exact(eV pb).elim
      |_=>cases hb'
     |lst xs=>
      cases b with
      |lst ys=>exact absurd ⟨rfl,rfl⟩ (n2 xs ys)
      |tup ys=>
       rw[cn]at ha;obtain⟨p,vs,e,h1,h2⟩:=ha;subst e;rw[b7]at hb;obtain⟨p',vs',e,h1',h2'⟩:=hb;subst e;cases ru;cases rv;obtain⟨its,_,ht,_⟩:=I.list h1;obtain⟨its2,_,ht2,_⟩:=I.tuple (lZ.of h1');unfold pyEq;exact .list_tuple ht.isList (show s.heap.IsTuple p' its2.toArray from ht2) hu
      |dct _ _=>exact(eP pb).elim
      |obj _ _ _=>exact(eO pb).elim
      |exc _ _ _=>exact(eV pb).elim
      |_=>cases hb'
     |dct _ _=>exact(eP pa).elim
     |obj _ _ _=>exact(eO pa).elim
     |exc _ _ _=>exact(eV pa).elim
     |_=>cases ha'
  have items:∀(xs ys:List D)(vs vs':aH)(its its':aU),gH xs=true->gH ys=true->(cS (n+1) (.tup xs)=true\/cS (n+1) (.tup ys)=true)->aX X.K H xs vs->aX X.K H ys vs'->Vals vs its->Vals vs' its'->
    ∀j (h1:j<its.toArray.size) (h2:j<its'.toArray.size),EqAt A.in1 s its.toArray[j] its'.toArray[j] (ux xs ys j):=by
   intro xs ys vs vs' its its' px py hdd hx hy rx ry j h1 h2;obtain⟨w1,e1,r1⟩:=jS rx h1;obtain⟨w2,e2,r2⟩:=jS ry h2;obtain⟨d1,f1,g1⟩:=kt hx e1;obtain⟨d2,f2,g2⟩:=kt hy e2;have e3:ux xs ys j=pyEq d1 d2:=(by unfold ux;rw[f1,f2]);rw[e3];refine ih d1 d2 w1 w2 _ _ A.in1 (jj px _ (NQ f1)) (jj py _ (NQ f2)) ?_ g1 g2 r1 r2 (by rw[in1_units];omega);rcases hdd with hdd|hdd
   ·exact .inl (List.all_eq_true.mp hdd d1 (NQ f1))
   ·exact .inr (List.all_eq_true.mp hdd d2 (NQ f2))
  by_cases hT:∃xs ys,a=.tup xs/\b=.tup ys
  ·obtain⟨xs,ys,rfl,rfl⟩:=hT;have da:=ha;have db:=hb;rw[b7]at ha hb;obtain⟨p,vs,e,h1,h2⟩:=ha;subst e;obtain⟨p',vs',e,h1',h2'⟩:=hb;subst e;cases ru;cases rv;by_cases hp:p=p'
   ·subst hp;have e:=Inv.den_inj I pa pb da db;rw[e,gQ];exact EqAt.same _
   ·obtain⟨its,rv1,ht,_⟩:=I.tuple (lZ.of h1);obtain⟨its2,rv2,ht2,_⟩:=I.tuple (lZ.of h1');refine EqAt.of_refs hp ?_;have q:=RcAt.tuples (e:=ux xs ys) (show s.heap.IsTuple p its.toArray from ht) (show s.heap.IsTuple p' its2.toArray from ht2) hu (items xs ys vs vs' its its2 (by first|rw[<-bW];exact pa|rw[<-dR];exact pa) (by first|rw[<-bW];exact pb|rw[<-dR];exact pb) hd h2 h2' rv1 rv2);have z1:its.toArray.size=xs.length:=(by rw[Nt,<-rv1.length,<-h2.length]);have z2:its2.toArray.size=ys.length:=(by rw[Nt,<-rv2.length,<-h2'.length]);rw[z1,z2,eX]at q;unfold pyEq;exact q
  ·by_cases hL:∃xs ys,a=.lst xs/\b=.lst ys
   ·obtain⟨xs,ys,rfl,rfl⟩:=hL;have da:=ha;have db:=hb;rw[cn]at ha hb;obtain⟨p,vs,e,h1,h2⟩:=ha;subst e;obtain⟨p',vs',e,h1',h2'⟩:=hb;subst e;cases ru;cases rv;by_cases hp:p=p'
    ·subst hp;have e:=Inv.den_inj I pa pb da db;rw[e,gQ];exact EqAt.same _
    ·obtain⟨its,rv1,ht,_⟩:=I.list h1;obtain⟨its2,rv2,ht2,_⟩:=I.list h1';refine EqAt.of_refs hp ?_;have z1:its.toArray.size=xs.length:=(by rw[Nt,<-rv1.length,<-h2.length]);have z2:its2.toArray.size=ys.length:=(by rw[Nt,<-rv2.length,<-h2'.length]);have er:=eX xs ys;by_cases hz:its.toArray.size=its2.toArray.size
     ·have q:=RcAt.lists (e:=ux xs ys) ht.isList ht2.isList hz hu (items xs ys vs vs' its its2 (by first|rw[<-bW];exact pa|rw[<-dR];exact pa) (by first|rw[<-bW];exact pb|rw[<-dR];exact pb) hd h2 h2' rv1 rv2);rw[z1]at q;have hz':xs.length=ys.length:=(by omega);rw[<-hz',Oe]at er;simp only[beq_self_eq_true,Of]at er;rw[er]at q;unfold pyEq;exact q
     ·have hne:(its.toArray.size !=its2.toArray.size)=true:=(by simpa using hz);have q:=RcAt.lists_lengths (A:=A) ht.isList ht2.isList hne hu;have hz':(xs.length==ys.length)=false:=by
       rw[z1,z2]at hz
       simpa using hz
      rw[hz',Og]at er;unfold pyEq;rw[<-er];exact q
   ·exact flatWay (λxs ys z=>hT ⟨xs,ys,z⟩) λxs ys z=>hL ⟨xs,ys,z⟩
end
end TG
namespace TG
open PySem PySem.Spec L2
variable[aC]
open PySem.SeqAt (EqAt RcAt RcNeAt)
section
variable{X:Cx}{pins:bn}{σ:St}{H:Hp}{s:RK}
theorem mx(I:Inv X pins σ H s){n:Nat}{xs ys:List D}{vs vs':aH}{its its':aU}{A:RV}(px:gH xs=true)(py:gH ys=true)(hdd:cS (n+1) (.tup xs)=true\/cS (n+1) (.tup ys)=true)(hx:aX X.K H xs vs)(hy:aX X.K H ys vs')(rx:Vals vs its)(ry:Vals vs' its')(hA:A.units+n<SA):
  ∀j (h1:j<its.toArray.size) (h2:j<its'.toArray.size),EqAt A s its.toArray[j] its'.toArray[j] (ux xs ys j):=by
 intro j h1 h2;obtain⟨w1,e1,r1⟩:=jS rx h1;obtain⟨w2,e2,r2⟩:=jS ry h2;obtain⟨d1,f1,g1⟩:=kt hx e1;obtain⟨d2,f2,g2⟩:=kt hy e2;have e3:ux xs ys j=pyEq d1 d2:=by unfold ux;rw[f1,f2]
 rw[e3];refine zA I n d1 d2 w1 w2 _ _ A (jj px _ (NQ f1)) (jj py _ (NQ f2)) ?_ g1 g2 r1 r2 hA;rcases hdd with hdd|hdd
 ·exact .inl (List.all_eq_true.mp hdd d1 (NQ f1))
 ·exact .inr (List.all_eq_true.mp hdd d2 (NQ f2))
inductive Way(I:Inv X pins σ H s):D->RE->Prop where
 |non:Way I .non .none
 |bl (b:Bool):Way I (.bl b) (.bool b)
 |int (i:Int) (t:Tok):Way I (.int i) (.int i t)
 |str (x:Str) (t:Tok):Way I (.str x) (.str x t)
 |tup {xs:List D} {p:RG} {vs:aH} {its:aU} (h:aX X.K H xs vs) (r:Vals vs its) (t:s.heap.IsTuple p its.toArray):Way I (.tup xs) (.ref p)
 |lst {xs:List D} {p:RG} {vs:aH} {its:aU} (h:aX X.K H xs vs) (r:Vals vs its) (t:s.heap.IsList p its.toArray):Way I (.lst xs) (.ref p)
noncomputable def top:D->Bool
 |.dct _ _=>false
 |.obj _ _ _=>false
 |.exc _ _ _=>false
 |_=>true
theorem eK{d:D}(h:pl d=true):top d=true:=by
 cases d with
 |dct _ _=>exact(eP h).elim
 |obj _ _ _=>exact(eO h).elim
 |exc _ _ _=>exact(eV h).elim
 |_=>rfl
theorem dZ(I:Inv X pins σ H s){d:D}{v:V}{u:RE}(pd:top d=true)(h:cz X.K H d v)(r:RelV v u):Way I d u:=by
 cases d with
 |non=>rw[hV]at h;subst h;cases r;exact .non
 |bl b=>rw[ia]at h;subst h;cases r;exact .bl b
 |int i=>rw[eZ]at h;subst h;obtain⟨t,rfl⟩:=r;exact .int i t
 |str x=>rw[fg]at h;subst h;obtain⟨t,rfl⟩:=r;exact .str x t
 |tup xs=>
  rw[b7]at h;obtain⟨p,vs,e,h1,h2⟩:=h;subst e;cases r;obtain⟨its,rv,ht,_⟩:=I.tuple (lZ.of h1);exact .tup h2 rv ht
 |lst xs=>
  rw[cn]at h;obtain⟨p,vs,e,h1,h2⟩:=h;subst e;cases r;obtain⟨its,rv,ht,_⟩:=I.list h1;exact .lst h2 rv ht.isList
 |dct _ _=>cases pd
 |obj _ _ _=>cases pd
 |exc _ _ _=>cases pd
theorem Gu(I:Inv X pins σ H s){n:Nat}{a b:D}{x y:V}{u v:RE}{A:RV}(pa:pl a=true)(pb:pl b=true)(hd:cS (n+1) a=true\/cS (n+1) b=true)(ha:cz X.K H a x)(hb:cz X.K H b y)(ru:RelV x u)(rv:RelV y v)(hA:A.units+n+1<SA):RcAt A s u v (pyEq a b):=by
 have hu:A.units<SA:=by omega
 cases dZ I (eK pa) ha ru with
 |non=>cases dZ I (eK pb) hb rv with
  |non=>unfold pyEq;exact .none_none
  |bl b=>unfold pyEq;exact .none_bool b
  |int i t=>unfold pyEq;exact .none_int i t
  |str x t=>unfold pyEq;exact .none_str x t
  |tup h r t=>unfold pyEq;exact .none_tuple t hu
  |lst h r t=>unfold pyEq;exact .none_list t hu
 |bl z=>cases dZ I (eK pb) hb rv with
  |non=>unfold pyEq;exact .bool_none z
  |bl b=>unfold pyEq;exact .bool_bool z b
  |int i t=>unfold pyEq;exact .bool_int z i t
  |str x t=>unfold pyEq;exact .bool_str z x t
  |tup h r t=>unfold pyEq;exact .bool_tuple z t hu
  |lst h r t=>unfold pyEq;exact .bool_list z t hu
 |int z tz=>cases dZ I (eK pb) hb rv with
  |non=>unfold pyEq;exact .int_none z tz
  |bl b=>unfold pyEq;exact .int_bool z tz b
  |int i t=>unfold pyEq;exact .int_int z tz i t
  |str x t=>unfold pyEq;exact .int_str z tz x t
  |tup h r t=>unfold pyEq;exact .int_tuple z tz t hu
  |lst h r t=>unfold pyEq;exact .int_list z tz t hu
 |str z tz=>cases dZ I (eK pb) hb rv with
  |non=>unfold pyEq;exact .str_none z tz
  |bl b=>unfold pyEq;exact .str_bool z tz b
  |int i t=>unfold pyEq;exact .str_int z tz i t
  |str x t=>unfold pyEq;exact .str_str z tz x t
  |tup h r t=>unfold pyEq;exact .str_tuple z tz t hu
  |lst h r t=>unfold pyEq;exact .str_list z tz t hu
 |@tup xs p vs its h1 r1 t1=>cases dZ I (eK pb) hb rv with
  |non=>unfold pyEq;exact .tuple_none t1 hu
  |bl b=>unfold pyEq;exact .tuple_bool b t1 hu
  |int i t=>unfold pyEq;exact .tuple_int i t t1 hu
  |str x t=>unfold pyEq;exact .tuple_str x t t1 hu
  |@tup ys p' vs' its' h2 r2 t2=>
   have q:=RcAt.tuples (e:=ux xs ys) t1 t2 hu (mx (A:=A.in1) I (by first|rw[<-bW];exact pa|rw[<-dR];exact pa) (by first|rw[<-bW];exact pb|rw[<-dR];exact pb) hd h1 h2 r1 r2 (by rw[in1_units];omega));have z1:its.toArray.size=xs.length:=(by rw[Nt,<-r1.length,<-h1.length]);have z2:its'.toArray.size=ys.length:=(by rw[Nt,<-r2.length,<-h2.length]);rw[z1,z2,eX]at q;unfold pyEq;exact q
  |lst h r t=>unfold pyEq;exact .tuple_list t1 t hu
 |@lst xs p vs its h1 r1 t1=>cases dZ I (eK pb) hb rv with
  |non=>unfold pyEq;exact .list_none t1 hu
  |bl b=>unfold pyEq;exact .list_bool b t1 hu
  |int i t=>unfold pyEq;exact .list_int i t t1 hu
  |str x t=>unfold pyEq;exact .list_str x t t1 hu
  |tup h r t=>unfold pyEq;exact .list_tuple t1 t hu
  |@lst ys p' vs' its' h2 r2 t2=>
   have z1:its.toArray.size=xs.length:=(by rw[Nt,<-r1.length,<-h1.length]);have z2:its'.toArray.size=ys.length:=(by rw[Nt,<-r2.length,<-h2.length]);have er:=eX xs ys;by_cases hz:its.toArray.size=its'.toArray.size
   ·have q:=RcAt.lists (e:=ux xs ys) t1 t2 hz hu (mx (A:=A.in1) I (by first|rw[<-bW];exact pa|rw[<-dR];exact pa) (by first|rw[<-bW];exact pb|rw[<-dR];exact pb) hd h1 h2 r1 r2 (by rw[in1_units];omega));rw[z1]at q;have hz':xs.length=ys.length:=(by omega);rw[<-hz',Oe]at er;simp only[beq_self_eq_true,Of]at er;rw[er]at q;unfold pyEq;exact q
   ·have q:=RcAt.lists_lengths (A:=A) t1 t2 (by simpa using hz) hu;have hz':(xs.length==ys.length)=false:=by
     rw[z1,z2]at hz
     simpa using hz
    rw[hz',Og]at er;unfold pyEq;rw[<-er];exact q
theorem BG(I:Inv X pins σ H s){n:Nat}{a b:D}{x y:V}{u v:RE}{A:RV}(pa:pl a=true)(pb:pl b=true)(hd:cS (n+1) a=true\/cS (n+1) b=true)(ha:cz X.K H a x)(hb:cz X.K H b y)(ru:RelV x u)(rv:RelV y v)(hA:A.units+n+1<SA):RcNeAt A s u v (!pyEq a b):=by
 have hu:A.units<SA:=by omega
 cases dZ I (eK pa) ha ru with
 |non=>cases dZ I (eK pb) hb rv with
  |non=>unfold pyEq;exact .none_none
  |bl b=>unfold pyEq;exact .none_bool b
  |int i t=>unfold pyEq;exact .none_int i t
  |str x t=>unfold pyEq;exact .none_str x t
  |tup h r t=>unfold pyEq;exact .none_tuple t hu
  |lst h r t=>unfold pyEq;exact .none_list t hu
 |bl z=>cases dZ I (eK pb) hb rv with
  |non=>unfold pyEq;exact .bool_none z
  |bl b=>unfold pyEq;exact .bool_bool z b
  |int i t=>unfold pyEq;exact .bool_int z i t
  |str x t=>unfold pyEq;exact .bool_str z x t
  |tup h r t=>unfold pyEq;exact .bool_tuple z t hu
  |lst h r t=>unfold pyEq;exact .bool_list z t hu
 |int z tz=>cases dZ I (eK pb) hb rv with
  |non=>unfold pyEq;exact .int_none z tz
  |bl b=>unfold pyEq;exact .int_bool z tz b
  |int i t=>unfold pyEq;exact .int_int z tz i t
  |str x t=>unfold pyEq;exact .int_str z tz x t
  |tup h r t=>unfold pyEq;exact .int_tuple z tz t hu
  |lst h r t=>unfold pyEq;exact .int_list z tz t hu
 |str z tz=>cases dZ I (eK pb) hb rv with
  |non=>unfold pyEq;exact .str_none z tz
  |bl b=>unfold pyEq;exact .str_bool z tz b
  |int i t=>unfold pyEq;exact .str_int z tz i t
  |str x t=>unfold pyEq;exact .str_str z tz x t
  |tup h r t=>unfold pyEq;exact .str_tuple z tz t hu
  |lst h r t=>unfold pyEq;exact .str_list z tz t hu
 |@tup xs p vs its h1 r1 t1=>cases dZ I (eK pb) hb rv with
  |non=>unfold pyEq;exact .tuple_none t1 hu
  |bl b=>unfold pyEq;exact .tuple_bool b t1 hu
  |int i t=>unfold pyEq;exact .tuple_int i t t1 hu
  |str x t=>unfold pyEq;exact .tuple_str x t t1 hu
  |@tup ys p' vs' its' h2 r2 t2=>
   have q:=RcNeAt.tuples (e:=ux xs ys) t1 t2 hu (mx (A:=A.in1) I (by first|rw[<-bW];exact pa|rw[<-dR];exact pa) (by first|rw[<-bW];exact pb|rw[<-dR];exact pb) hd h1 h2 r1 r2 (by rw[in1_units];omega));have z1:its.toArray.size=xs.length:=(by rw[Nt,<-r1.length,<-h1.length]);have z2:its'.toArray.size=ys.length:=(by rw[Nt,<-r2.length,<-h2.length]);rw[z1,z2,eX]at q;unfold pyEq;exact q
  |lst h r t=>unfold pyEq;exact .tuple_list t1 t hu
 |@lst xs p vs its h1 r1 t1=>cases dZ I (eK pb) hb rv with
  |non=>unfold pyEq;exact .list_none t1 hu
  |bl b=>unfold pyEq;exact .list_bool b t1 hu
  |int i t=>unfold pyEq;exact .list_int i t t1 hu
  |str x t=>unfold pyEq;exact .list_str x t t1 hu
  |tup h r t=>unfold pyEq;exact .list_tuple t1 t hu
  |@lst ys p' vs' its' h2 r2 t2=>
   have z1:its.toArray.size=xs.length:=(by rw[Nt,<-r1.length,<-h1.length]);have z2:its'.toArray.size=ys.length:=(by rw[Nt,<-r2.length,<-h2.length]);have er:=eX xs ys;by_cases hz:its.toArray.size=its'.toArray.size
   ·have q:=RcNeAt.lists (e:=ux xs ys) t1 t2 hz hu (mx (A:=A.in1) I (by first|rw[<-bW];exact pa|rw[<-dR];exact pa) (by first|rw[<-bW];exact pb|rw[<-dR];exact pb) hd h1 h2 r1 r2 (by rw[in1_units];omega));rw[z1]at q;have hz':xs.length=ys.length:=(by omega);rw[<-hz',Oe]at er;simp only[beq_self_eq_true,Of]at er;rw[er]at q;unfold pyEq;exact q
   ·have q:=RcNeAt.lists_lengths (A:=A) t1 t2 (by simpa using hz) hu;have hz':(xs.length==ys.length)=false:=by
     rw[z1,z2]at hz
     simpa using hz
    rw[hz',Og]at er;unfold pyEq;rw[<-er];exact q
end
section
variable{X:Cx}
noncomputable def rD(K:Qw)(g:D->D->bM):R2:=λx y H Q=>∃O a b d,dq H O/\cz K (hid H O) a x/\cz K (hid H O) b y/\g a b=some d/\∀v H',aZ H H'->cz K (hid H' O) d v->Q v H'
theorem cm{K:Qw}{g:D->D->bM}:de K (rD K g) g:=λa b d x y O H Q hO hg ha hb q=>⟨O,a,b,d,hO,ha,hb,hg,q⟩
theorem jV{f : RE -> RE -> Sem RE}{g : D -> D -> bM}(h : ∀ (pins : bn) (s : RK) (σ : St) (H : Hp) (a b d : D) (x y : V) (u v : RE), Inv X pins σ H s -> cz X.K H a x -> cz X.K H b y -> RelV x u -> RelV y v -> g a b = some d ->
      ∃c,d=.bl c/\∀(Q:bD),Q (.bool c) s->RY (model X.prog X.w) X.A (f u v) Q X.xe s):ic X f (rD X.K g):=by
  rintro pins s σ H x y u v Q I rx ry ⟨O,a,b,d,hO,ha,hb,hg,q⟩;obtain⟨c,rfl,hq⟩:=h pins s σ H a b d x y u v I (ha.mono (aO H O)) (hb.mono (aO H O)) rx ry hg;exact hq _ ⟨.bl c,H,I,rfl,q _ H (aZ.refl H) (ia.mpr rfl)⟩
noncomputable def gd(a b:D):bM:=if(pl a&&pl b)&&(cS 8 a||cS 8 b)then some (.bl (pyEq a b))else none
noncomputable def iI(a b:D):bM:=if(pl a&&pl b)&&(cS 8 a||cS 8 b)then some (.bl (!pyEq a b))else none
theorem AF(hu:X.A.units+64<SA):ic X (R5 .Eq) (rD X.K gd):=jV λpins s σ H a b d x y u v I ha hb ru rv hg=>by
 obtain⟨h1,h2⟩:=bE hg;subst h2;rw[NU,NU,Oh]at h1;exact⟨_,rfl,λQ q=>Gu (n:=7) (A:=X.A) I h1.1.1 h1.1.2 h1.2 ha hb ru rv ‹0› X.prog X.w X.xe Q q⟩
theorem zO(hu:X.A.units+64<SA):ic X (R5 .NotEq) (rD X.K iI):=jV λpins s σ H a b d x y u v I ha hb ru rv hg=>by
 obtain⟨h1,h2⟩:=bE hg;subst h2;rw[NU,NU,Oh]at h1;exact⟨_,rfl,λQ q=>BG (n:=7) (A:=X.A) I h1.1.1 h1.1.2 h1.2 ha hb ru rv ‹0› X.prog X.w X.xe Q q⟩
noncomputable def inD(x:D)(ys:List D):Bool:=ys.any λy=>pyEq y x
noncomputable def G0(x y:D):bM:=match y with
 |.tup ys=>if(pl x&&gH ys)&&cS 8 x then some (.bl (inD x ys))else none
 |.lst ys=>if(pl x&&gH ys)&&cS 8 x then some (.bl (inD x ys))else none
 |_=>none
noncomputable def gD(x y:D):bM:=match y with
 |.tup ys=>if(pl x&&gH ys)&&cS 8 x then some (.bl (!inD x ys))else none
 |.lst ys=>if(pl x&&gH ys)&&cS 8 x then some (.bl (!inD x ys))else none
 |_=>none
open Classical in
theorem vY{pins:bn}{σ:St}{H:Hp}{s:RK}(I:Inv X pins σ H s){xd:D}{x:V}{u:RE}{A:RV}(px:pl xd=true)(hd:cS 8 xd=true)(hx:cz X.K H xd x)(ru:RelV x u)(hA:A.units+8<SA){ys:List D}{vs:aH}{its:aU}(py:gH ys=true)(hy:aX X.K H ys vs)(rv:Vals vs its):
  ∃e:RE->Bool,(∀y,y∈its.toArray->EqAt A s y u (e y))/\its.toArray.any e=inD xd ys:=by
 let e:RE->Bool:=λy=>decide (∃d w,pl d=true/\cz X.K H d w/\RelV w y/\pyEq d xd=true)
 have he:∀d w y,pl d=true->cz X.K H d w->RelV w y->e y=pyEq d xd:=λd w y h0 h1 h2=>by
  cases hq:pyEq d xd with
  |true=>exact decide_eq_true ⟨d,w,h0,h1,h2,hq⟩
  |false=>
   refine decide_eq_false ?_;rintro⟨d',w',g0,g1,g2,g3⟩;have ew:=RelV.inj h2 g2;subst ew;rw[Inv.den_inj I h0 g0 h1 g1,g3]at hq;cases hq
 refine⟨e,λy hy'=>?_,?_⟩
 ·have hm:y∈its:=by simpa using hy'
  obtain⟨j,hj,rfl⟩:=Oi hm;obtain⟨w,e1,r1⟩:=jS rv (j:=j) (by simpa using hj);obtain⟨d,f1,g1⟩:=kt hy e1;have r1':RelV w its[j]:=by simpa using r1
  have pd:=jj py _ (NQ f1);rw[he d w _ pd g1 r1'];exact zA I 8 d xd w x _ u A pd px (.inr hd) g1 hx r1' ru hA
 ·unfold inD;have go:∀(ys:List D)(vs:aH)(its:aU),gH ys=true->aX X.K H ys vs->Vals vs its->its.any e=ys.any λy=>pyEq y xd:=by
   intro ys
   induction ys with
   |nil=>
    intro vs its py h r;rw[cD]at h;subst h;cases r;rfl
   |cons y ys ih=>
    intro vs its py h r;unfold gH at py;rw[NU]at py;rw[bH]at h;obtain⟨v,r',e1,h1,h2⟩:=h;subst e1;cases r with
    |cons q1 q2=>rw[Oj,Oj,he y v _ py.1 h1 q1,ih _ _ py.2 h2 q2]
  rw[List.any_toArray];exact go ys vs its py hy rv
theorem Bi(hu:X.A.units+64<SA):ic X (R5 .In) (rD X.K G0):=jV λpins s σ H a b d x y u v I ha hb ru rv hg=>by
 cases b with
 |tup ys=>
  obtain⟨h1,h2⟩:=bE hg;subst h2;rw[NU,NU]at h1;rw[b7]at hb;obtain⟨p,vs,e,g1,g2⟩:=hb;subst e;cases rv;obtain⟨its,r,t,_⟩:=I.tuple (lZ.of g1);obtain⟨e,he,ea⟩:=vY (A:=X.A.in1) I h1.1.1 h1.2 ha ru (by rw[in1_units];omega) h1.1.2 g2 r;exact⟨_,rfl,λQ q=>SeqAt.in_tupleAt e (show s.heap.IsTuple p its.toArray from t) he (by rw[ea];exact q)⟩
 |lst ys=>
  obtain⟨h1,h2⟩:=bE hg;subst h2;rw[NU,NU]at h1;rw[cn]at hb;obtain⟨p,vs,e,g1,g2⟩:=hb;subst e;cases rv;obtain⟨its,r,t,_⟩:=I.list g1;obtain⟨e,he,ea⟩:=vY (A:=X.A.in1) I h1.1.1 h1.2 ha ru (by rw[in1_units];omega) h1.1.2 g2 r;exact⟨_,rfl,λQ q=>SeqAt.in_listAt e t.isList he (by rw[ea];exact q)⟩
 |_=>cases hg
theorem pN(hu:X.A.units+64<SA):ic X (R5 .NotIn) (rD X.K gD):=jV λpins s σ H a b d x y u v I ha hb ru rv hg=>by
 cases b with
 |tup ys=>
  obtain⟨h1,h2⟩:=bE hg;subst h2;rw[NU,NU]at h1;rw[b7]at hb;obtain⟨p,vs,e,g1,g2⟩:=hb;subst e;cases rv;obtain⟨its,r,t,_⟩:=I.tuple (lZ.of g1);obtain⟨e,he,ea⟩:=vY (A:=X.A.in1) I h1.1.1 h1.2 ha ru (by rw[in1_units];omega) h1.1.2 g2 r;exact⟨_,rfl,λQ q=>SeqAt.notIn_tupleAt e (show s.heap.IsTuple p its.toArray from t) he (by rw[ea];exact q)⟩
 |lst ys=>
  obtain⟨h1,h2⟩:=bE hg;subst h2;rw[NU,NU]at h1;rw[cn]at hb;obtain⟨p,vs,e,g1,g2⟩:=hb;subst e;cases rv;obtain⟨its,r,t,_⟩:=I.list g1;obtain⟨e,he,ea⟩:=vY (A:=X.A.in1) I h1.1.1 h1.2 ha ru (by rw[in1_units];omega) h1.1.2 g2 r;exact⟨_,rfl,λQ q=>SeqAt.notIn_listAt e t.isList he (by rw[ea];exact q)⟩
 |_=>cases hg
noncomputable def FZ(p:Int->Int->D)(a b:D):bM:=match a,b with
 |.int i,.int j=>some (p i j)
 |_,_=>none
noncomputable def Mr:=FZ λi j=>.bl (decide (i<j))
noncomputable def yh:=FZ λi j=>.bl (decide (i<=j))
noncomputable def L8:=FZ λi j=>.bl (decide (j<i))
noncomputable def IZ:=FZ λi j=>.bl (decide (j<=i))
theorem eF{K:Qw}{g:Int->Int->Bool}:de K (BX λi j=>.bl (g i j)) (FZ λi j=>.bl (g i j)):=λa b d x y O H Q hO hg ha hb q=>by
 cases a with
 |int i=>
  cases b with
  |int j=>cases hg;exact⟨i,j,eZ.mp ha,eZ.mp hb,q _ H (aZ.refl H) (ia.mpr rfl)⟩
  |_=>cases hg
 |_=>cases hg
theorem uD{K:Qw}{g:Int->Int->Int}:de K (BX λi j=>.int (g i j)) (FZ λi j=>.int (g i j)):=λa b d x y O H Q hO hg ha hb q=>by
 cases a with
 |int i=>
  cases b with
  |int j=>cases hg;exact⟨i,j,eZ.mp ha,eZ.mp hb,q _ H (aZ.refl H) (eZ.mpr rfl)⟩
  |_=>cases hg
 |_=>cases hg
noncomputable def IQ(c:Int->Int->Bool)(p:Int->Int->Int)(a b:D):bM:=match a,b with
 |.int i,.int j=>if c i j then some (.int (p i j))else none
 |_,_=>none
theorem jv{K:Qw}{C:Int->Int->Prop}{c:Int->Int->Bool}{g:Int->Int->Int}(hc:∀i j,c i j=true->C i j):de K (rI C λi j=>.int (g i j)) (IQ c g):=λa b d x y O H Q hO hg ha hb q=>by
 cases a with
 |int i=>
  cases b with
  |int j=>
   obtain⟨h1,h2⟩:=bE hg;subst h2;exact⟨i,j,eZ.mp ha,eZ.mp hb,hc i j h1,q _ H (aZ.refl H) (eZ.mpr rfl)⟩
  |_=>cases hg
 |_=>cases hg
noncomputable def ib:=FZ λi j=>.int (i-j)
noncomputable def fX:=IQ (λi j=>decide ((-(2^64)<i/\i<2^64)\/(-(2^64)<j/\j<2^64))) (·*·)
noncomputable def EK(_ j:Int):Prop:=0<j/\j<10^200
theorem z9:ic X (Sj .FloorDiv) (rI EK λi j=>.int (i/j)):=Jt λi j _ _ _ _ _ hc q=>by
 have h1:(0:Int)<j:=hc.1;have h2:j<10^200:=hc.2;refine PyProof.Rows.floordiv_int ‹0› (by rw[Int.fdiv_eq_ediv_of_nonneg i ‹0›];exact q) (.inl (PyProof.noPylong_of_log2 ?_));have h3:j.natAbs<10^200:=by omega
 rw[Nat.log2_lt ‹0›];exact Nat.lt_trans h3 (by decide +kernel)
noncomputable def du:=IQ (λ_ j=>decide (0<j/\j<10^200)) (·/·)
noncomputable def bI:=IQ (λ_ j=>decide (0<j)) (·%·)
noncomputable def kG:=IQ (λi j=>decide (0<=j/\j<=1000000/\i.natAbs<2^64)) λi j=>i^j.toNat
theorem GW{K:Qw}:de K (BX λi j=>.int (i-j)) ib:=uD
theorem GY{K:Qw}:de K (rI Hj λi j=>.int (i*j)) fX:=jv λi j h=>by have q:=of_decide_eq_true h;exact q
theorem Ho{K:Qw}:de K (rI EK λi j=>.int (i/j)) du:=jv λi j h=>by have q:=of_decide_eq_true h;exact q
theorem GQ{K:Qw}:de K (rI (λ_ j=>0<j) λi j=>.int (i%j)) bI:=jv λ_ _ h=>of_decide_eq_true h
theorem G7{K:Qw}:de K (rI Jj λi j=>.int (i^j.toNat)) kG:=jv λi j h=>by have q:=of_decide_eq_true h;exact q
noncomputable def Jg(K:Qw):R2:=λx y H Q=>∃l b xs zs,x=.ref l/\y=.ref b/\jR K H l xs/\jR K H b zs/\xs.length+zs.length<=RO/\∀p,H p=none->Q (.ref p) (upd H p (.lst (xs++zs)))
theorem CN:ic X (Sj .Add) (Jg X.K):=by
 intro pins s σ H x y v u Q I rx ry h;obtain⟨l,b,xs,zs,rfl,rfl,hH,hB,hz,q⟩:=h;cases rx;cases ry;obtain⟨its,r,t1,_⟩:=I.list hH;obtain⟨its2,r2,t2,_⟩:=I.list hB;obtain⟨⟨c1,d1,dt1,sl1⟩,n1,ho,hc,hd,hdt⟩:=t1;obtain⟨⟨c2,d2,dt2,sl2⟩,n2,ho2,hc2,hd2,hdt2⟩:=t2;simp only at hc hd hdt hc2 hd2 hdt2;subst hc hd hdt hc2 hd2 hdt2;have z1:=r.length;have z2:=r2.length;refine SM ⟨_,ho,rfl⟩ ⟨_,ho2,rfl⟩ noFill_list_add seq_list_add F.slot_list_add F.entry_list_add (F.args_list_add_2 _ _) (PyProof.Rows.list_addW l b its.toArray its2.toArray n1 n2 none none sl1 sl2 (by rw[Nt,Nt];omega)) ⟨ho,ho2,?_⟩;have ea:its.toArray++its2.toArray=(its++its2).toArray:=by simp
 rw[ea];exact⟨.ref _,_,I.lnew (t':=s.toks) (r.append r2) (by rw[NR];omega),rfl,q _ I.fresh⟩
noncomputable def Gi(K:Qw):R2:=λx y H Q=>∃a b xs ys,x=.ref a/\y=.ref b/\lZ K H a xs/\lZ K H b ys/\xs.length+ys.length<=RO/\
 (xs=[]->Q (.ref b) H)/\(xs≠[]->ys=[]->Q (.ref a) H)/\(xs≠[]->ys≠[]->∀p,H p=none->Q (.ref p) (upd H p (.tup (xs++ys))))
theorem Av:ic X (Sj .Add) (Gi X.K):=by
 intro pins s σ H x y v u Q I rx ry h;obtain⟨a,b,xs,ys,ex,ey,ha,hb,hz,q0,q1,q2⟩:=h;by_cases hx:xs=[]
 ·subst ex ey;cases rx;cases ry;obtain⟨its,r1,p1,_⟩:=I.tuple ha;obtain⟨its2,r2,p2,_⟩:=I.tuple hb;obtain⟨⟨cls,dd,data,sl⟩,ho,hc,n,hd⟩:=id p1;obtain⟨⟨cls2,dd2,data2,sl2⟩,ho2,hc2,n2,hd2⟩:=id p2;simp only at hc hd hc2 hd2;subst hc hd hc2 hd2;have e:its=[]:=r1.nil_iff.mpr hx;exact SM ⟨_,ho,rfl⟩ ⟨_,ho2,rfl⟩ SN SR F.slot_tuple_add F.entry_tuple_add (F.args_tuple_add_2 _ _)
   (PyProof.Rows.tuple_addW0 a b its.toArray its2.toArray n n2 dd dd2 sl sl2 (by rw[e];rfl)) ⟨ho,ho2,⟨.ref b,H,I,rfl,q0 hx⟩⟩
 ·exact Dd pins s σ H x y v u Q I rx ry ⟨a,b,xs,ys,ex,ey,ha,hb,hx,hz,q1 hx,q2 hx⟩
noncomputable def aI(a b:D):bM:=match a,b with
 |.int i,.int j=>some (.int (i+j))
 |.str x,.str y=>if small (x.length+y.length)then some (.str (x++y))else none
 |.lst xs,.lst ys=>if small (xs.length+ys.length)then some (.lst (xs++ys))else none
 |.tup xs,.tup ys=>if small (xs.length+ys.length)then some (.tup (xs++ys))else none
 |_,_=>none
theorem CD:ic X (Sj .Add) (rD X.K aI):=by
 rintro pins s σ H x y u v Q I rx ry ⟨O,a,b,d,hO,ha,hb,hg,q⟩;cases a with
 |int i=>
  cases b with
  |int j=>
   cases hg;exact HE pins s σ H x y u v Q I rx ry ⟨i,j,eZ.mp ha,eZ.mp hb,q _ H (aZ.refl H) (eZ.mpr rfl)⟩
  |_=>cases hg
 |str i=>
  cases b with
  |str j=>
   obtain⟨h1,h2⟩:=bE hg;subst h2;exact uk pins s σ H x y u v Q I rx ry ⟨i,j,fg.mp ha,fg.mp hb,cU h1,q _ H (aZ.refl H) (fg.mpr rfl)⟩
  |_=>cases hg
 |lst xs=>
  cases b with
  |lst ys=>
   obtain⟨h1,h2⟩:=bE hg;subst h2;rw[cn]at ha hb;obtain⟨p,vs,ex,g1,g2⟩:=ha;obtain⟨p',vs',ey,g1',g2'⟩:=hb;refine CN pins s σ H x y u v Q I rx ry ⟨p,p',vs,vs',ex,ey,(aO H O).seq g1,(aO H O).seq g1',?_,λr hr=>?_⟩
   ·rw[<-g2.length,<-g2'.length];exact cU h1
   ·exact q _ _ (cJ hr _) (gh hO hr (g2.append g2'))
  |_=>cases hg
 |tup xs=>
  cases b with
  |tup ys=>
   obtain⟨h1,h2⟩:=bE hg;subst h2;have da:=ha;have db:=hb;rw[b7]at ha hb;obtain⟨p,vs,ex,g1,g2⟩:=ha;obtain⟨p',vs',ey,g1',g2'⟩:=hb;have l1:=g2.length;have l2:=g2'.length;refine Av pins s σ H x y u v Q I rx ry ⟨p,p',vs,vs',ex,ey,b9 (aO H O) g1,b9 (aO H O) g1',?_,λz=>?_,λz z'=>?_,λz z' r hr=>?_⟩
   ·rw[<-l1,<-l2];exact cU h1
   ·have e:xs=[]:=List.length_eq_zero_iff.mp (by rw[l1,z];rfl);rw[<-ey];refine q _ H (aZ.refl H) ?_;rw[e,Ol];exact db
   ·have e:ys=[]:=List.length_eq_zero_iff.mp (by rw[l2,z'];rfl);rw[<-ex];refine q _ H (aZ.refl H) ?_;rw[e,NB];exact da
   ·exact q _ _ (cJ hr _) (eA hO hr (g2.append g2'))
  |_=>cases hg
 |_=>cases hg
noncomputable def ak(a b:D):bM:=match a,b with
 |.tup xs,.int i=>jQ xs i
 |.lst xs,.int i=>jQ xs i
 |.str x,.int i=>if small x.length then(jQ x.cps.toList i).bind λc=>some (.str ⟨#[c]⟩)else none
 |_,_=>none
theorem v7{K:Qw}{H:Hp}{ds:List D}{vs:aH}{i:Int}{d:D}(h:aX K H ds vs)(e:jQ ds i=some d):∃v,jQ vs i=some v/\cz K H d v:=by
 unfold jQ at e ⊢;obtain⟨j,e1,e2⟩:=bind_some e;rw[<-h.length,e1];exact h.get e2
theorem KL:H0 X (rD X.K ak):=by
 rintro value slice pins s σ H x y u v Q I rx ry ⟨O,a,b,d,hO,ha,hb,hg,q⟩ hsub;cases a with
 |tup xs=>
  cases b with
  |int i=>
   rw[b7]at ha;obtain⟨p,vs,ex,g1,g2⟩:=ha;obtain⟨w,e1,e2⟩:=v7 g2 hg;refine Hx value slice pins s σ H x y u v Q I rx ry ?_ hsub;exact⟨p,vs,i,w,ex,eZ.mp hb,b9 (aO H O) g1,e1,q w H (aZ.refl H) e2⟩
  |_=>cases hg
 |lst xs=>
  cases b with
  |int i=>
   rw[cn]at ha;obtain⟨p,vs,ex,g1,g2⟩:=ha;obtain⟨w,e1,e2⟩:=v7 g2 hg;refine DK value slice pins s σ H x y u v Q I rx ry ?_ hsub;exact⟨p,vs,i,w,ex,eZ.mp hb,(aO H O).seq g1,e1,q w H (aZ.refl H) e2⟩
  |_=>cases hg
 |str z=>
  cases b with
  |int i=>
   have hg':(if small z.length then(jQ z.cps.toList i).bind λc=>some (D.str ⟨#[c]⟩)else none)=some d:=hg;cases hs:small z.length with
   |false=>rw[hs]at hg';cases hg'
   |true=>
    rw[hs]at hg';obtain⟨c,e1,e2⟩:=bind_some hg';cases e2;refine Hr value slice pins s σ H x y u v Q I rx ry ?_ hsub;exact⟨z,i,c,fg.mp ha,eZ.mp hb,cU hs,e1,q _ H (aZ.refl H) (fg.mpr rfl)⟩
  |_=>cases hg
 |_=>cases hg
noncomputable def cutD{α:Type}(xs:List α)(lo hi:cR):List α:=(xs.drop (HT.sIx xs.length 0 lo)).take (HT.sIx xs.length xs.length hi-HT.sIx xs.length 0 lo)
theorem mi{α:Type}(xs:List α)(lo hi:cR):(cutD xs lo hi).length<=xs.length:=by
 unfold cutD;rw[NE,NT];omega
theorem oO{M:RX}{A:RV}{E:bD}{s:RK}{t:RG}{items:fJ}{Q:Bool->dD}(ht:Rv s.heap t items)(h:Q true s):RY M A (Builtin.Tuple.tupleIsExact (.ref t)) Q E s:=by
 unfold Builtin.Tuple.tupleIsExact;refine Sd (S0 ht.typeIs ?_);exact Sb h
theorem fM{prog:RM}{w:RL}{A:RV}{E:bD}{s:RK}{t sl:RG}{items:fJ}{vl vu:RE}{lo hi:cR}{Q:bD}(ht:Rv s.heap t items)(hs:s.heap.IsSliceOf sl vl vu .none)(pl:SU vl lo)(pu:SU vu hi)
  (hw:HT.sIx items.size 0 lo=0/\HT.sIx items.size items.size hi=items.size) (h:Q (.ref t) s):RY (model prog w) A (getItem (.ref t) (.ref sl)) Q E s:=by
 obtain⟨os,hos,hcs,hds⟩:=id hs;have hTs:s.TypeIs (.ref sl) "slice":=⟨os,hos,hcs⟩
 unfold getItem
 try with_reducible refine SW ?_
 first|refine Sd (Sb ?_)|skip
 refine Sd (wpAny_sequenceKey ht.typeIs (by decide) ?_);refine Sd (SY (name:=Str.ofString "__getitem__") ht.typeIs Rt
  (SZ Rt ht.typeIs PyProof.Rows.entry_tuple_getitem ?_ (PyProof.Rows.args_tuple_getitem _ _)))
 show RY _ _ (Builtin.Tuple.tupleItemsOf (.ref t) >>= _) _ _ s;refine Sd (PyProof.Rows.tupleItemsOf_ ht ?_);refine Sd (S0 hTs ?_);rw[if_pos (by decide)];refine Sd (HT.lF hs pl pu ?_);have hyes:(((HT.sIx items.size 0 lo:Nat):Int)==0&&(1:Int)==1&&(HT.sIx items.size items.size hi-HT.sIx items.size 0 lo)==items.size)=true:=by
  rw[hw.1,hw.2];simp
 show RY _ _ (if(((HT.sIx items.size 0 lo:Nat):Int)==0&&(1:Int)==1&&(HT.sIx items.size items.size hi-HT.sIx items.size 0 lo)==items.size)=true then _ else _) _ _ s;rw[if_pos hyes];refine Sd (oO ht ?_);rw[if_pos rfl]
 first
  |exact Sd (S8 (Sb ⟨_,rfl,Sb h⟩))
  |exact Sd (S8 (Sd (Sb (Sb ⟨_,rfl,Sb h⟩))))
noncomputable def jd(a:D)(lo hi:cR):bM:=match a with
 |.lst xs=>some (.lst (cutD xs lo hi))
 |.tup xs=>some (.tup (cutD xs lo hi))
 |.str x=>if small x.length then some (.str ⟨(cutD x.cps.toList lo hi).toArray⟩)else none
 |_=>none
theorem EJ(v:cR)(d n:Nat)(hd:d<=n):(match v with|none=>(d:Int)|some i=>if(1:Int)>0 then max 0 (min (if i<0 then i+(n:Int)else i) (n:Int))else max (-1) (min (if i<0 then i+(n:Int)else i) ((n:Int)-1)))=((HT.sIx n d v:Nat):Int):=by
 cases v with
 |none=>rfl
 |some i=>
  show(if(1:Int)>0 then max 0 (min (if i<0 then i+(n:Int)else i) (n:Int))else max (-1) (min (if i<0 then i+(n:Int)else i) ((n:Int)-1)))=(((if i<0 then(i+(n:Int)).toNat else min i.toNat n):Nat):Int)
  rw[if_pos (by decide)];by_cases h:i<0
  ·rw[if_pos h,if_pos h];omega
  ·rw[if_neg h,if_neg h];omega
theorem zW(lo hi:cR)(n:Nat):Builtin.Str.strSliceIndices lo hi 1 n=(List.range (HT.sIx n n hi-HT.sIx n 0 lo)).map λk=>HT.sIx n 0 lo+k:=by
 have e1:=EJ lo 0 n (NA _);have e2:=EJ hi n n (Nq _);have e:Builtin.Str.strSliceIndices lo hi 1 n=sliceRange ((HT.sIx n 0 lo:Nat):Int) ((HT.sIx n n hi:Nat):Int) 1:=by
  rw[<-e1,<-e2];cases lo<;>cases hi<;>rfl
 rw[e];unfold sliceRange;dsimp only;rw[if_pos (by decide:(1:Int)>0)];have e3:(if((HT.sIx n 0 lo:Nat):Int)<((HT.sIx n n hi:Nat):Int)then(((HT.sIx n n hi:Nat):Int)-((HT.sIx n 0 lo:Nat):Int)+1-1)/1 else 0:Int).toNat=HT.sIx n n hi-HT.sIx n 0 lo:=by
  rw[Int.ediv_one];split<;>omega
 rw[e3];refine Om λk _=>?_;omega
theorem AR{α:Type}(l:List α)(a:Nat):∀n:Nat,((List.range n).map λk=>a+k).filterMap (λi=>l[i]?)=(l.drop a).take n
 |0=>by simp
 |n+1=>by
  rw[Oo,Oq,List.filterMap_append,AR l a n,List.take_add_one,Ot];cases e:l[a+n]?<;>simp[e]
theorem yL(x:Str)(lo hi:cR):Txt.slice x lo hi=⟨(cutD x.cps.toList lo hi).toArray⟩:=by
 have hl:x.cps.toList.length=x.length:=by simp[Str.length]
 have pick:(Builtin.Str.strSliceIndices lo hi 1 x.length).filterMap (x.cps[·]?)=cutD x.cps.toList lo hi:=by
  rw[zW];have q:=AR x.cps.toList (HT.sIx x.length 0 lo) (HT.sIx x.length x.length hi-HT.sIx x.length 0 lo);unfold cutD;rw[hl,<-q];congr 1;funext i;simp
 unfold Txt.slice;split
 ·rename_i h;have h':(Builtin.Str.strSliceIndices lo hi 1 x.length).length=x.length:=by simpa using h
  rw[zW,Nx,Ou]at h';have h1:=HT.Hi x.length x.length (Nq _) hi;have z1:HT.sIx x.length 0 lo=0\/x.length=0:=by omega
  have e:cutD x.cps.toList lo hi=x.cps.toList:=by
   unfold cutD;rw[hl,h'];rcases z1 with z1|z1
   ·rw[z1,N7,<-hl,Ov]
   ·have:x.cps.toList=[]:=List.length_eq_zero_iff.mp (by rw[hl];exact z1)
    rw[this];simp
  rw[e]
 ·rw[pick]
noncomputable def J4(K:Qw):V->cR->cR->Hp->VK->Prop:=λx lo hi H Q=>∃O a d,dq H O/\cz K (hid H O) a x/\jd a lo hi=some d/\∀v H',aZ H H'->cz K (hid H' O) d v->Q v H'
theorem aX.cut{K:Qw}{H:Hp}{ds:List D}{vs:aH}(h:aX K H ds vs)(lo hi:cR):aX K H (cutD ds lo hi) (t9 vs lo hi):=by
 unfold cutD t9;rw[h.length];exact(h.drop _).take _
theorem Le:JO X (J4 X.K):=by
 rintro pins s σ H x v vl vu lo hi sl Q I rx hs pl pu ⟨O,a,d,hO,ha,hg,q⟩;cases a with
 |lst xs=>
  cases hg;rw[cn]at ha;obtain⟨p,vs,ex,g1,g2⟩:=ha;exact Es pins s σ H x v vl vu lo hi sl Q I rx hs pl pu ⟨p,vs,ex,(aO H O).seq g1,λr hr=>q _ _ (cJ hr _) (gh hO hr (g2.cut lo hi))⟩
 |tup xs=>
  cases hg;have da:=ha;rw[b7]at ha;obtain⟨p,vs,ex,g1,g2⟩:=ha;by_cases hw:HT.sIx vs.length 0 lo=0/\HT.sIx vs.length vs.length hi=vs.length
  ·subst ex;cases rx;obtain⟨its,r,ht,hz⟩:=I.tuple (b9 (aO H O) g1);have hlen:its.toArray.size=vs.length:=(by rw[Nt];exact r.length.symm);refine⟨"tuple",_,PyProof.Rows.slot_tuple_getitem.lookup,ht.typeIs,fM ht hs pl pu (by rw[hlen];exact hw) ⟨.ref p,H,I,rfl,q _ H (aZ.refl H) ?_⟩⟩;have e:cutD xs lo hi=xs:=by
    unfold cutD;rw[g2.length,hw.1,hw.2,Ow,N7,<-g2.length,Ov]
   rw[e];exact da
  ·exact Hw pins s σ H x v vl vu lo hi sl Q I rx hs pl pu ⟨p,vs,ex,b9 (aO H O) g1,hw,λr hr=>q _ _ (cJ hr _) (eA hO hr (g2.cut lo hi))⟩
 |str z=>
  obtain⟨h1,h2⟩:=bE hg;subst h2;rw[fg]at ha;subst ha;obtain⟨t,rfl⟩:=rx;have fin:∀t' tk,EP X pins σ Q (.str (Txt.slice z lo hi) t') {s with toks:=tk}:=λt' tk=>by
   rw[yL];exact⟨.str _,H,I.tok _,⟨_,rfl⟩,q _ H (aZ.refl H) (fg.mpr rfl)⟩
  obtain⟨os,hos,hcs,hds⟩:=id hs;have hz:=cU h1;refine⟨"str",_,F.slot_str_getitem.lookup,typeIs_str _ _ _,?_⟩;cases pl with
  |none=>
   cases pu with
   |none=>exact S9 (l:=none) (u:=none) (st:=none) ⟨os,hos,hcs,hds⟩ rfl (Tc ⟨Nc (Txt.slice_le z _ _) hz,λt' k=>fin t' k⟩)
   |int j tj=>exact S9 (l:=none) (u:=some (j,tj)) (st:=none) ⟨os,hos,hcs,hds⟩ rfl (Tc ⟨Nc (Txt.slice_le z _ _) hz,λt' k=>fin t' k⟩)
  |int i ti=>
   cases pu with
   |none=>exact S9 (l:=some (i,ti)) (u:=none) (st:=none) ⟨os,hos,hcs,hds⟩ rfl (Tc ⟨Nc (Txt.slice_le z _ _) hz,λt' k=>fin t' k⟩)
   |int j tj=>exact S9 (l:=some (i,ti)) (u:=some (j,tj)) (st:=none) ⟨os,hos,hcs,hds⟩ rfl (Tc ⟨Nc (Txt.slice_le z _ _) hz,λt' k=>fin t' k⟩)
 |_=>cases hg
noncomputable def aM:av->R (cR):=λ_=>.ok none
noncomputable def ug:D->Option (cR)
 |.int i=>some (some i)
 |_=>none
noncomputable def aY(f:FX):av->R (cR):=λρ=>(f ρ).bind λd=>rO (ug d)
noncomputable def Mv(X:Cx)(F:av->R cR):TO:=λσ H Q=>∃O ρ,dz X.K O H ρ σ/\fG X σ O H (F ρ) λo=>∀H',aZ H H'->Q o H'
noncomputable def FO(X:Cx)(e:Option RH)(F:av->R cR):Prop:=PO X e (Mv X F)
noncomputable def aS(f:FX)(l h:av->R cR):FX:=λρ=>(f ρ).bind λa=>(l ρ).bind λlo=>(h ρ).bind λhi=>rO (jd a lo hi)
end
end TG
namespace TG
open PySem PySem.Spec L2
variable[aC]
noncomputable def Ew(K:Qw)(g:List D->bM):aH->Hp->VK->Prop:=λxs H Q=>∃O ds d,dq H O/\aX K (hid H O) ds xs/\g ds=some d/\∀v H',aZ H H'->cz K (hid H' O) d v->Q v H'
theorem nA{K:Qw}{g:List D->bM}:wI K (Ew K g) g:=λds d xs O H Q hO hg hd q=>⟨O,ds,d,hO,hd,hg,q⟩
section
variable{X:Cx}{x:Str}{p pos:Pos}{e:RH}{es:bA}{id T:String}{g:List D->bM}{f:aW}
noncomputable def cO:List D->bM
 |[.lst xs]=>some (.int xs.length)
 |[.tup xs]=>some (.int xs.length)
 |[.str x]=>if small x.length then some (.int x.length)else none
 |_=>none
theorem yt:gA X (.builtin "len") (Ew X.K cO):=by
 rintro pins s σ H xs us Q I r ⟨O,ds,d,hO,hd,hg,q⟩;unfold cO at hg;split at hg
 ·rename_i ys;cases hg;obtain⟨v,ev,h1⟩:=hd.one;rw[cn]at h1;obtain⟨p,vs,ep,g1,g2⟩:=h1;exact ku pins s σ H xs us Q I r ⟨p,vs,by rw[ev,ep],.inl ((aO H O).seq g1),q _ H (aZ.refl H) (eZ.mpr (by rw[g2.length]))⟩
 ·rename_i ys;cases hg;obtain⟨v,ev,h1⟩:=hd.one;rw[b7]at h1;obtain⟨p,vs,ep,g1,g2⟩:=h1;exact ku pins s σ H xs us Q I r ⟨p,vs,by rw[ev,ep],.inr (b9 (aO H O) g1),q _ H (aZ.refl H) (eZ.mpr (by rw[g2.length]))⟩
 ·rename_i z;obtain⟨h1,h2⟩:=bE hg;subst h2;obtain⟨v,ev,h1'⟩:=hd.one;exact qS pins s σ H xs us Q I r ⟨z,by rw[ev,fg.mp h1'],cU h1,q _ H (aZ.refl H) (eZ.mpr rfl)⟩
 ·cases hg
noncomputable def cE:List D->bM
 |[.lst xs]=>some (.tup xs)
 |[.tup xs]=>some (.tup xs)
 |_=>none
theorem sv:gA X (.type "tuple") (Ew X.K cE):=by
 rintro pins s σ H xs us Q I r ⟨O,ds,d,hO,hd,hg,q⟩;unfold cE at hg;split at hg
 ·rename_i ys;cases hg;obtain⟨v,ev,h1⟩:=hd.one;rw[cn]at h1;obtain⟨p,vs,ep,g1,g2⟩:=h1;exact jD pins s σ H xs us Q I r ⟨p,vs,by rw[ev,ep],.inl ⟨(aO H O).seq g1,λl hl=>q _ _ (cJ hl _) (eA hO hl g2)⟩⟩
 ·rename_i ys;cases hg;obtain⟨v,ev,h1⟩:=hd.one;have h0:=h1;rw[b7]at h1;obtain⟨p,vs,ep,g1,g2⟩:=h1;rw[ep]at h0;exact jD pins s σ H xs us Q I r ⟨p,vs,by rw[ev,ep],.inr ⟨b9 (aO H O) g1,q _ H (aZ.refl H) h0⟩⟩
 ·cases hg
noncomputable def Ih:List D->bM
 |[.int i,.int j]=>some (.int (if j>i then j else i))
 |_=>none
noncomputable def IK:List D->bM
 |[.int i,.int j]=>some (.int (if j<i then j else i))
 |_=>none
noncomputable def pO:List D->bM
 |[.int i]=>some (.int i)
 |[.bl k]=>some (.int (if k then 1 else 0))
 |_=>none
theorem vh:gA X (.type "int") (Ew X.K pO):=by
 rintro pins s σ H xs us Q I r ⟨O,ds,d,hO,hd,hg,q⟩;unfold pO at hg;split at hg
 ·rename_i i;cases hg;obtain⟨v,ev,h1⟩:=hd.one;exact pW pins s σ H xs us Q I r (.inl ⟨i,by rw[ev,eZ.mp h1],q _ H (aZ.refl H) (eZ.mpr rfl)⟩)
 ·rename_i k;cases hg;obtain⟨v,ev,h1⟩:=hd.one;exact pW pins s σ H xs us Q I r (.inr ⟨k,by rw[ev,ia.mp h1],q _ H (aZ.refl H) (eZ.mpr rfl)⟩)
 ·cases hg
noncomputable def GA:D->String
 |.non=>"NoneType"
 |.bl _=>"bool"
 |.int _=>"int"
 |.str _=>"str"
 |.tup _=>"tuple"
 |.lst _=>"list"
 |.dct _ _=>"dict"
 |_=>""
noncomputable def B6(T:String)(d:D):Bool:=match d with
 |.bl _=>T=="bool"||T=="int"
 |.non=>T=="NoneType"
 |.int _=>T=="int"
 |.str _=>T=="str"
 |.tup _=>T=="tuple"
 |.lst _=>T=="list"
 |.dct _ _=>T=="dict"
 |_=>false
noncomputable def uj(K:Qw)(T:String):Prop:=∀d:D,top d=true->QQ K (.type (GA d)) (.type T)=some (B6 T d)
noncomputable def La(K:Qw)(T:String):aH->Hp->VK->Prop:=λxs H Q=>∃O x d,xs=[x,.ty T]/\top d=true/\cz K (hid H O) d x/\Q (.bl (B6 T d)) H
theorem BC(ok:uj X.K T):gA X (.builtin "isinstance") (La X.K T):=by
 rintro pins s σ H xs us Q I r ⟨O,x,d,ex,td,hd,q⟩;subst ex;obtain⟨u,w',rfl,rx,rt⟩:=vals2 r;cases rt;have e:=ok d td;have fin:∀tk,EP X pins σ Q (.bool (B6 T d)) {s with toks:=tk}:=λtk=>⟨.bl _,H,I.tok _,rfl,q⟩
 cases dZ I td (hd.mono (aO H O)) rx with
 |non=>exact QR PySem.W.kitx_none I.kIn True.intro e (λz=>nomatch z) fin
 |bl b=>exact QR PySem.W.kitx_bool I.kIn True.intro e (λz=>nomatch z) fin
 |int i t=>exact QR PySem.W.kitx_int I.kIn True.intro e (λz=>nomatch z) fin
 |str y t=>exact QR PySem.W.kitx_str I.kIn True.intro e (λz=>nomatch z) fin
 |tup h rv t=>
  obtain⟨o,h1,h2,_⟩:=t;exact QR PySem.W.kitx_tuple I.kIn ⟨o,h1,h2⟩ e (λz=>nomatch z) fin
 |lst h rv t=>
  obtain⟨o,h1,h2,_⟩:=t;exact QR PySem.W.kitx_list I.kIn ⟨o,h1,h2⟩ e (λz=>nomatch z) fin
theorem Aj:RU "isinstance"=some (.builtin "isinstance"):=by first|rfl|decide +kernel
noncomputable def yn(T:String)(d:D):bM:=if top d then some (.bl (B6 T d))else none
noncomputable def oh(T:String)(f:FX):FX:=f1 (yn T) f
end
section
variable{X:Cx}{a:RH}{f:FX}{pos:Pos}
noncomputable def isNon:D->Bool
 |.non=>true
 |_=>false
theorem p9{K:Qw}{H:Hp}{d:D}{v:V}(h:cz K H d v):decide (v=.non)=isNon d:=by
 cases d with
 |non=>rw[hV.mp h];rfl
 |bl b=>rw[ia.mp h];rfl
 |int i=>rw[eZ.mp h];rfl
 |str x=>rw[fg.mp h];rfl
 |tup xs=>obtain⟨_,_,e,_⟩:=b7.mp h;rw[e];rfl
 |lst xs=>obtain⟨_,_,e,_⟩:=cn.mp h;rw[e];rfl
 |dct _ _=>obtain⟨_,_,e,_⟩:=JP.mp h;rw[e];rfl
 |obj _ _ _=>obtain⟨_,_,e,_⟩:=Dz.mp h;rw[e];rfl
 |exc _ _ _=>obtain⟨_,_,e,_⟩:=JG.mp h;rw[e];rfl
noncomputable def J3(d:D):bM:=some (.bl (isNon d))
noncomputable def HN(d:D):bM:=some (.bl (!isNon d))
noncomputable def mr(f:FX):FX:=f1 J3 f
noncomputable def lY(f:FX):FX:=f1 HN f
theorem wJ:∀σ H Q,tF X (mr f) σ H Q->tF X f σ H λv H'=>Q (.bl (decide (v=.non))) H':=λσ H Q ⟨O,ρ,E,hF⟩=>⟨O,ρ,E,(fG.bind hF).imp λa hF v H1 s1 d1=>by
 obtain⟨d,e,q⟩:=fG.rO hF;cases e;rw[p9 d1];exact q _ H1 s1 (ia.mpr rfl)⟩
theorem sQ:∀σ H Q,tF X (lY f) σ H Q->tF X f σ H λv H'=>Q (.bl (!decide (v=.non))) H':=λσ H Q ⟨O,ρ,E,hF⟩=>⟨O,ρ,E,(fG.bind hF).imp λa hF v H1 s1 d1=>by
 obtain⟨d,e,q⟩:=fG.rO hF;cases e;rw[p9 d1];exact q _ H1 s1 (ia.mpr rfl)⟩
end
noncomputable def Walk(K:Qw)(Hd:Hp)(J:It)(ds:List D):Prop:=
 ∀(Hn:Hp)(O':aF)(i:Nat),dq Hn O'->aZ Hd (hid Hn O')->(∀d,ds[i]?=some d->J.go i Hn/\∀x H2,J.yld i Hn x H2->aZ Hn H2/\cz K (hid H2 O') d x)/\(i=ds.length->J.stop i Hn)
noncomputable def Lf(X:Cx)(G:aW):TI:=λσ H RR=>∃O ρ,dz X.K O H ρ σ/\fG X σ O H (G ρ) λds=>∀J H1,aZ H H1->Walk X.K (hid H1 O) J ds->RR J H1
noncomputable def FI(X:Cx)(tg iter:RH)(G:aW):Prop:=PI X tg iter (Lf X G)
noncomputable def nV:D->Option (List D)
 |.lst xs=>some xs
 |.tup xs=>some xs
 |_=>none
noncomputable def bO(f:FX):aW:=λρ=>(f ρ).bind λd=>rO (nV d)
section
variable{X:Cx}{tg:RH}
theorem yd{K:Qw}{Hd:Hp}{a:RG}{ds:List D}{vs:aH}(h:jR K Hd a vs)(g:aX K Hd ds vs):Walk K Hd (LI K a) ds:=λHn O' i hO s=>
  have s':aZ Hd Hn:=s.trans (aO Hn O')
  ⟨fun d e=>by
    obtain⟨v,ev,dv⟩:=g.get e;refine⟨⟨vs,v,s'.seq h,ev⟩,λx H2 ⟨e2,y⟩=>?_⟩;have q:=y vs (s'.seq h);rw[ev]at q;cases q;subst e2;exact⟨aZ.refl _,dv.mono s⟩,
   λhl=>⟨vs,s'.seq h,by rw[<-g.length];exact Ny hl.symm⟩⟩
theorem BQ{K:Qw}{Hd:Hp}{a:RG}{ds:List D}{vs:aH}(h:Hd a=some (.tup vs))(g:aX K Hd ds vs):Walk K Hd (Lv K a) ds:=λHn O' i hO s=>
  have s':aZ Hd Hn:=s.trans (aO Hn O')
  ⟨fun d e=>by
    obtain⟨v,ev,dv⟩:=g.get e;refine⟨⟨vs,v,b9 s' h,ev⟩,λx H2 ⟨e2,y⟩=>?_⟩;have q:=y vs (b9 s' h);rw[ev]at q;cases q;subst e2;exact⟨aZ.refl _,dv.mono s⟩,
   λhl=>⟨vs,b9 s' h,by rw[<-g.length];exact Ny hl.symm⟩⟩
noncomputable def bJ(lo:Int)(n:Nat):List D:=(List.range n).map λ(k:Nat)=>D.int (lo+(k:Int))
theorem oG(lo:Int)(n:Nat):(bJ lo n).length=n:=by unfold bJ;rw[Nx,Ou]
theorem vp{K:Qw}{Hd:Hp}(lo:Int)(n:Nat):Walk K Hd (Js lo n) (bJ lo n):=λHn O' i hO s=>
  ⟨fun d e=>by
    unfold bJ at e;rw[NM]at e;cases hi:(List.range n)[i]? with
    |none=>rw[hi]at e;cases e
    |some k=>
      rw[hi]at e;cases e;have hlt:i<n:=by
        have:=(List.getElem?_eq_some_iff.mp hi).1
        rwa [Ou]at this
      have ek:k=i:=by
        rw[Ox hlt]at hi;exact(Option.some.inj hi).symm
      subst ek;exact⟨hlt,λx H2 ⟨e1,e2⟩=>by subst e1;exact⟨aZ.refl _,eZ.mpr e2⟩⟩,
   λhl=>by rw[oG]at hl;exact Ny hl.symm⟩
noncomputable def okR(j:Int):Bool:=decide (-(2^62)<=j/\j<2^62)
noncomputable def gu:List D->Option (List D)
 |[.int j]=>if okR j then some (bJ 0 j.toNat)else none
 |_=>none
noncomputable def vG:List D->Option (List D)
 |[.int i,.int j]=>if okR i&&okR j then some (bJ i (j-i).toNat)else none
 |_=>none
noncomputable def bh(f:aW):aW:=λρ=>(f ρ).bind λds=>rO (gu ds)
noncomputable def Ep(f:aW):aW:=λρ=>(f ρ).bind λds=>rO (vG ds)
end
noncomputable abbrev GF:=D->av->Option av
noncomputable def JB(K:Qw)(g:GF):TG:=λv σ H Q=>∃O ρ d ρ',dz K O H ρ σ/\cz K (hid H O) d v/\g d ρ=some ρ'/\∀σ',dz K O H ρ' σ'->(∀(i:Nat) x,ρ'[i]?=some (some x)->(∀d,x≠.val d)->σ'[i]?=σ[i]?/\ρ[i]?=some (some x))->Q σ' H
noncomputable def FG(X:Cx)(tg:RH)(g:GF):Prop:=PG X tg (JB X.K g)
noncomputable def setV(i:Nat)(d:D)(ρ:av):av:=ρ.set i (some (.val d))
theorem bp{α:Type}{l:List α}{i j:Nat}{a b:α}(h:(l.set i a)[j]?=some b):(j=i/\b=a)\/(j≠i/\l[j]?=some b):=by
 by_cases e:j=i
 ·subst e;left;have hj:j<(l.set j a).length:=(List.getElem?_eq_some_iff.mp h).1;rw[Oy]at hj;rw[Nk hj]at h;exact⟨rfl,(Option.some.inj h).symm⟩
 ·right;rw[Nm (Ne.symm e)]at h;exact⟨e,h⟩
theorem dz.setV{K:Qw}{O:aF}{H:Hp}{ρ:av}{σ:St}(E:dz K O H ρ σ){i:Nat}{d:D}{v:V}(hi:i<σ.length)(hd:cz K (hid H O) d v):dz K O H (setV i d ρ) (σ.set i (some v)):=
  ⟨fun j d' e=>by
    rcases bp e with⟨hj,eq⟩|⟨ne,eq⟩
    ·cases eq;rw[hj];exact⟨v,Nk hi,hd⟩
    · obtain⟨w,e1,e2⟩:=E.val j d' eq
      exact⟨w,by rw[Nm (Ne.symm ne)];exact e1,e2⟩,
   λj xs e=>by
    rcases bp e with⟨_,eq⟩|⟨ne,eq⟩
    ·cases eq
    · obtain⟨a,e1,e2⟩:=E.own j xs eq
      exact⟨a,by rw[Nm (Ne.symm ne)];exact e1,e2⟩,
   λj k xs ys a e1 e2 e3 e4=>by
    rcases bp e1 with⟨_,q1⟩|⟨ne1,q1⟩
    ·cases q1
    · rcases bp e2 with⟨_,q2⟩|⟨ne2,q2⟩
      ·cases q2
      · rw[Nm (Ne.symm ne1)]at e3
        rw[Nm (Ne.symm ne2)]at e4;exact E.one j k xs ys a q1 q2 e3 e4,E.all⟩
section
variable{X:Cx}{pos:Pos}
noncomputable def gN(i:Nat):GF:=λd ρ=>some (setV i d ρ)
noncomputable abbrev BZ:=List D->av->Option av
noncomputable def K3(K:Qw)(g:BZ):EZ:=λvs σ H Q=>∃O ρ ds ρ',dz K O H ρ σ/\aX K (hid H O) ds vs/\g ds ρ=some ρ'/\∀σ',dz K O H ρ' σ'->(∀(i:Nat) x,ρ'[i]?=some (some x)->(∀d,x≠.val d)->σ'[i]?=σ[i]?/\ρ[i]?=some (some x))->Q σ' H
noncomputable def MH(X:Cx)(ts:bA)(g:BZ):Prop:=I0 X ts (K3 X.K g)
noncomputable def ED:BZ:=λds ρ=>match ds with
 |[]=>some ρ
 |_=>none
noncomputable def Ag(g:GF)(h:BZ):BZ:=λds ρ=>match ds with
 |d::r=>(g d ρ).bind λρ1=>h r ρ1
 |_=>none
noncomputable def gT(n:Nat)(g:BZ):GF:=λd ρ=>match d with
 |.tup xs=>if xs.length=n then g xs ρ else none
 |_=>none
end
noncomputable def uy{α:Type}(r:R α):R α:=match r with
 |.ok a=>.ok a
 |.error _=>un
theorem AK{α:Type}{r:R α}{a:α}(h:uy r=.ok a):r=.ok a:=by
 cases r with
 |ok b=>exact h
 |error z=>cases h
noncomputable def inB(ix:fH)(ρ:av):av:=ix.map λo=>match o with
 |some i=>match ρ[i]? with
  |some (some (.val d))=>some (.val d)
  |_=>none
 |none=>none
noncomputable def oY(ρ:av)(g:GF)(C:bF)(Fe:FX):List D->R (List D)
 |[]=>.ok []
 |d::ds=>(rO (g d ρ)).bind λρ1=>(uy (C ρ1)).bind λc=>if c then(uy (Fe ρ1)).bind λv=>(oY ρ g C Fe ds).bind λr=>.ok (v::r)else oY ρ g C Fe ds
theorem j0(ρ:av)(g:GF)(C:bF)(Fe:FX)(d:D)(ds:List D):oY ρ g C Fe (d::ds)=(rO (g d ρ)).bind λρ1=>(uy (C ρ1)).bind λc=>if c then(uy (Fe ρ1)).bind λv=>(oY ρ g C Fe ds).bind λr=>.ok (v::r)else oY ρ g C Fe ds:=rfl
noncomputable def eQ(ix:fH)(G:aW)(g:GF)(C:bF)(Fe:FX):FX:=λρ=>(G ρ).bind λds=>if small ds.length then uy ((oY (inB ix ρ) g C Fe ds).bind λr=>.ok (.lst r))else un
noncomputable def L0(X:Cx)(ifs:bA)(F:bF):Prop:=G3 X ifs (Jx X F)
noncomputable def bo:bF:=λ_=>.ok true
theorem kx{ix:fH}{ρ:av}{j:Nat}{x:S}(e:(inB ix ρ)[j]?=some (some x)):∃i d,ix[j]?=some (some i)/\ρ[i]?=some (some (.val d))/\x=.val d:=by
 unfold inB at e;rw[NM]at e;cases q:ix[j]? with
 |none=>rw[q]at e;cases e
 |some o=>
  rw[q]at e;cases o with
  |none=>cases e
  |some i=>
   have e':(match ρ[i]? with|some (some (.val d))=>some (S.val d)|_=>none)=some x:=Option.some.inj e;split at e'
   ·rename_i d hd;cases e';exact⟨i,d,rfl,hd,rfl⟩
   ·cases e'
theorem B3{K:Qw}{O:aF}{H:Hp}{ρ:av}{σ:St}(ix:fH)(E:dz K O H ρ σ):dz K O H (inB ix ρ) (inBlock ix σ):=by
 refine⟨λj d e=>?_,λj xs e=>?_,λj k xs ys a e=>?_,E.all⟩
 ·obtain⟨i,d',q1,q2,q3⟩:=kx e;cases q3;obtain⟨v,e1,e2⟩:=E.val i d q2;refine⟨v,?_,e2⟩;unfold inBlock;rw[NM,q1];show some ((σ[i]?).getD none)=some (some v);rw[e1];rfl
 ·obtain⟨_,_,_,_,q3⟩:=kx e;cases q3
 ·obtain⟨_,_,_,_,q3⟩:=kx e;cases q3
theorem sJ{H:Hp}{O:aF}{p:RG}{o:HO}(hp:H p=none):aZ (hid H O) (hid (upd H p o) (p::O)):=λb u h=>by
 unfold hid at h ⊢;by_cases hb:b∈O
 ·rw[if_pos hb]at h;cases h
 ·rw[if_neg hb]at h;have ne:=aQ h hp;rw[if_neg (by intro z;rcases List.mem_cons.mp z with z|z;exact ne z;exact hb z),ay ne];exact h
theorem dz.hideNew{K:Qw}{O:aF}{H:Hp}{ρ:av}{σ:St}{p:RG}{o:HO}(m:oB o)(E:dz K O H ρ σ)(hp:H p=none):dz K (p::O) (upd H p o) ρ σ:=by
 have s:aZ (hid H O) (hid (upd H p o) (p::O)):=sJ hp;refine⟨λi d e=>let ⟨v,a,b⟩:=E.val i d e;⟨v,a,b.mono s⟩,λi xs e=>?_,E.one,(E.all.same (cJ hp o)).cons aK m⟩;obtain⟨a,e1,e2,e3⟩:=E.own i xs e;obtain⟨u,hu⟩:=e3.some;exact⟨a,e1,Ni _ e2,e3.mono (by rw[ay (aQ hu hp)]) s⟩
theorem dz.rewrite{K:Qw}{O:aF}{H:Hp}{ρ:av}{σ:St}{p:RG}{o:HO}(m:oB o)(E:dz K O H ρ σ)(hp:p∈O)(hs:∀(i:Nat) xs,ρ[i]?=some (some (.own xs))->σ[i]?≠some (some (.ref p))):dz K O (upd H p o) ρ σ:=by
 have s:aZ (hid H O) (hid (upd H p o) O):=mR hp;refine⟨λi d e=>let ⟨v,a,b⟩:=E.val i d e;⟨v,a,b.mono s⟩,λi xs e=>?_,E.one,E.all.upd hp m⟩;obtain⟨a,e1,e2,e3⟩:=E.own i xs e;have ne:a≠p:=λz=>hs i xs e (by rw[<-z];exact e1);exact⟨a,e1,e2,e3.mono (by rw[ay ne]) s⟩
theorem dz.forget{K:Qw}{O:aF}{H:Hp}{ρ ρ':av}{σ:St}(E:dz K O H ρ σ)(h:∀(i:Nat) x,ρ'[i]?=some (some x)->ρ[i]?=some (some x)):dz K O H ρ' σ:=
 ⟨λi d e=>E.val i d (h i _ e),λi xs e=>E.own i xs (h i _ e),λi j xs ys a e1 e2=>E.one i j xs ys a (h i _ e1) (h j _ e2),E.all⟩
noncomputable def Fills(ρ:av)(g:GF):Prop:=∀d ρ1,g d ρ=some ρ1->∀(i:Nat) x,ρ[i]?=some (some x)->ρ1[i]?=some (some x)
theorem pQ(ix:fH)(ρ:av):∀(i:Nat) xs,(inB ix ρ)[i]?≠some (some (.own xs)):=by
 intro j xs e;obtain⟨_,_,_,_,q3⟩:=kx e;cases q3
theorem HR{α:Type}{o:Option α}{a:α}(h:rO o=.ok a):o=some a:=by
 cases o with
 |none=>cases h
 |some b=>cases h;rfl
end TG
namespace TG
open PySem PySem.Spec L2
variable[aC]
section
variable{X:Cx}{elt tg iter:RH}{ifs:bA}{scope:RW}{pos:Pos}{N:au}{ix:fH}{G:aW}{g:GF}{C:bF}{Fe:FX}
structure mq(ix:fH)(g:GF):Prop where
 fill:∀ρ,Fills (inB ix ρ) g
 own:∀ρ d ρ1,g d (inB ix ρ)=some ρ1->∀(i:Nat) xs,ρ1[i]?≠some (some (.own xs))
theorem tx{ρ:av}{i:Nat}(h:ix[i]?=some none):∀x,(inB ix ρ)[i]?≠some (some x):=λx e=>by
 obtain⟨_,_,q,_⟩:=kx e;rw[h]at q;cases q
theorem jk{i:Nat}(h:ix[i]?=some none):mq ix (gN i):=
  ⟨fun ρ d ρ1 e j x q=>by
    cases e;by_cases z:j=i
    ·subst z;exact absurd q (tx h x)
    ·unfold setV;rw[Nm (Ne.symm z)];exact q,
   λρ d ρ1 e j xs q=>by
    cases e;rcases bp q with⟨_,z⟩|⟨_,z⟩
    ·cases z
    ·exact pQ ix ρ j xs z⟩
noncomputable def B5(ix:fH)(is:List Nat):Bool:=is.all λi=>match ix[i]? with
 |some none=>true
 |_=>false
noncomputable def o9:List Nat->BZ
 |[]=>ED
 |i::is=>Ag (gN i) (o9 is)
theorem wB:∀(is:List Nat)(ds:List D)(ρ ρ1:av),o9 is ds ρ=some ρ1->∀(k:Nat)(x:S),ρ1[k]?=some (some x)->(k∈is/\∃d,x=.val d)\/ρ[k]?=some (some x)
 |[],ds,ρ,ρ1,h,k,x,e=>by
  cases ds with
  |nil=>cases h;exact .inr e
  |cons _ _=>cases h
 |i::is,ds,ρ,ρ1,h,k,x,e=>by
  cases ds with
  |nil=>cases h
  |cons d ds=>
   rcases wB is ds (setV i d ρ) ρ1 h k x e with⟨a,b⟩|q
   ·exact .inl ⟨Ni _ a,b⟩
   ·rcases bp q with⟨z,w⟩|⟨_,w⟩
    ·exact .inl ⟨by rw[z];exact Nh,d,Option.some.inj w⟩
    ·exact .inr w
theorem tN:∀(is:List Nat)(ds:List D)(ρ ρ1:av),o9 is ds ρ=some ρ1->∀(k:Nat)(x:S),k∉is->ρ[k]?=some (some x)->ρ1[k]?=some (some x)
 |[],ds,ρ,ρ1,h,k,x,_,e=>by
  cases ds with
  |nil=>cases h;exact e
  |cons _ _=>cases h
 |i::is,ds,ρ,ρ1,h,k,x,n,e=>by
  cases ds with
  |nil=>cases h
  |cons d ds=>
   refine tN is ds (setV i d ρ) ρ1 h k x (λz=>n (Ni _ z)) ?_;unfold setV;rw[Nm (λz=>n (by rw[z];exact Nh))];exact e
theorem gW{is:List Nat}{n:Nat}(h:B5 ix is=true):mq ix (gT n (o9 is)):=by
 have hn:∀i∈is,ix[i]?=some none:=λi hi=>by
  have:=List.all_eq_true.mp h i hi
  cases e:ix[i]? with
  |none=>rw[e]at this;cases this
  |some o=>cases o with
   |none=>rfl
   |some _=>rw[e]at this;cases this
 have shape:∀ρ d ρ1,gT n (o9 is) d ρ=some ρ1->∃ds,o9 is ds ρ=some ρ1:=λρ d ρ1 e=>by
  cases d with
  |tup xs=>
   have e':(if xs.length=n then o9 is xs ρ else none)=some ρ1:=e;by_cases hl:xs.length=n
   ·rw[if_pos hl]at e';exact⟨xs,e'⟩
   ·rw[if_neg hl]at e';cases e'
  |_=>cases e
 refine⟨λρ d ρ1 e k x q=>?_,λρ d ρ1 e k xs q=>?_⟩
 ·obtain⟨ds,e⟩:=shape _ d ρ1 e;exact tN is ds _ ρ1 e k x (λz=>tx (hn k z) x q) q
 ·obtain⟨ds,e⟩:=shape _ d ρ1 e;rcases wB is ds _ ρ1 e k _ q with⟨_,d,z⟩|z
  ·cases z
  ·exact pQ ix ρ k xs z
structure j7(X:Cx)(scope:RW)(N:au)(ix:fH):Prop where
 cell:∀y∈scope.names,y.2≠.cell
 kind:scope.kind=.function
 names:∀y∈scope.names,y.2=.local->scope.names.lookup y.1=some .local
 free:∀y∈scope.names,y.2=.free->X.env.scope.names.lookup y.1=some .cell\/X.env.scope.names.lookup y.1=some .free
 ix:qj X.N N scope.names ix=true
noncomputable def jr(XS:nY)(XN:au)(scope:RW)(N:au)(ix:fH):Bool:=
 scope.names.all (λy=>decide (y.2≠.cell))&&decide (scope.kind=.function)&&scope.names.all (λy=>decide (y.2≠.local)||decide (scope.names.lookup y.1=some .local)) &&
  scope.names.all (λy=>decide (y.2≠.free)||(decide (XS.lookup y.1=some .cell)||decide (XS.lookup y.1=some .free)))&&qj XN N scope.names ix
theorem j7.of(h:jr X.env.scope.names X.N scope N ix=true):j7 X scope N ix:=by
 unfold jr at h;simp only[NU]at h;obtain⟨⟨⟨⟨h1,h2⟩,h3⟩,h4⟩,h5⟩:=h;refine⟨λy hy=>of_decide_eq_true (List.all_eq_true.mp h1 y hy),of_decide_eq_true h2,λy hy e=>?_,λy hy e=>?_,h5⟩
 ·rcases Oh _ _ ▸ List.all_eq_true.mp h3 y hy with q|q
  ·exact absurd e (of_decide_eq_true q)
  ·exact of_decide_eq_true q
 ·rcases Oh _ _ ▸ List.all_eq_true.mp h4 y hy with q|q
  ·exact absurd e (of_decide_eq_true q)
  ·rcases Oh _ _ ▸ q with q|q
   ·exact .inl (of_decide_eq_true q)
   ·exact .inr (of_decide_eq_true q)
noncomputable def LX(X:Cx)(scope:RW)(N:au)(tg elt:RH)(ifs:bA)(g:GF)(C:bF)(Fe:FX):Prop:=
 ∀cl C' fp s H E,FG (ca X scope N cl C' fp s H E) tg g/\L0 (ca X scope N cl C' fp s H E) ifs C/\FE (ca X scope N cl C' fp s H E) elt Fe
noncomputable def GU(K:Qw)(F:bF):TT:=λσ H Q=>∃O ρ b,dz K O H ρ σ/\F ρ=.ok b/\∀H',aZ H H'->Q b H'
noncomputable def Kv(K:Qw)(F:FX):TE:=λσ H Q=>∃O ρ d,dz K O H ρ σ/\F ρ=.ok d/\∀v H',aZ H H'->cz K (hid H' O) d v->Q v H'
theorem LX.k(hb:LX X scope N tg elt ifs g C Fe):∀cl C' fp s H E,PG (ca X scope N cl C' fp s H E) tg (JB X.K g)/\G3 (ca X scope N cl C' fp s H E) ifs (GU X.K C)/\PE (ca X scope N cl C' fp s H E) elt (Kv X.K Fe):=λcl C' fp s H E=>by
 obtain⟨h1,h2,h3⟩:=hb cl C' fp s H E;refine⟨h1,λpins s σ H Q I ⟨O,ρ,b,e1,e2,q⟩=>h2 pins s σ H Q I ⟨O,ρ,e1,by rw[e2];exact q⟩,λpins s σ H Q I ⟨O,ρ,d,e1,e2,q⟩=>h3 pins s σ H Q I ⟨O,ρ,e1,by rw[e2];exact q⟩⟩
noncomputable def KI(X:Cx)(F:FX):TE:=λσ H Q=>∃O ρ,dz X.K O H ρ σ/\fG X σ O H (F ρ) λd=>∀D H' total acc,d=.lst total->aZ H H'->H D=none->H' D=some (.lst acc)->aX X.K (hid H' (D::O)) total acc->Q (.ref D) H'
theorem LC{F:FX}:∀σ H Q,tF X F σ H Q->KI X F σ H Q:=λσ H Q ⟨O,ρ,E,hF⟩=>⟨O,ρ,E,hF.imp λd q D H' total acc e sm hD hD' dn=>by
 subst e;have DO:D∉O:=E.all.not hD;exact q _ H' sm (cn.mpr ⟨D,acc,rfl,jR.of (by rw[iT DO];exact hD'),dn.mono (gJ λa ha=>Ni _ ha)⟩)⟩
theorem zJ(tk:mq ix g):∀σ H Q,KI X (eQ ix G g C Fe) σ H Q->JH (Lf X G) (JB X.K g) (GU X.K C) (Kv X.K Fe) ix σ H Q:=λσ H Q ⟨O,ρ,E,hF⟩=>by
 refine⟨O,ρ,E,(fG.bind hF).imp λds hF=>?_⟩;have hz:small ds.length=true:=by
  cases e:small ds.length with
  |true=>rfl
  |false=>rw[e]at hF;exact hF.elim
 rw[hz,if_pos rfl]at hF;cases hL:oY (inB ix ρ) g C Fe ds with
 |error z=>rw[hL]at hF;exact hF.elim
 |ok total=>
 rw[hL]at hF;have q:∀D H' total' acc,TG.D.lst total=.lst total'->aZ H H'->H D=none->H' D=some (.lst acc)->aX X.K (hid H' (D::O)) total' acc->Q (.ref D) H':=hF;have e2:=hL;have hfill:=tk.fill;have hown:=tk.own;refine λJ H1 s1 wk D hD=>?_;have E1:dz X.K (D::O) (upd H1 D (.lst [])) (inB ix ρ) (inBlock ix σ):=((B3 ix E).same s1).hideNew trivial hD;have DO:D∉O:=(E.all.same s1).not hD;refine⟨λi m σ' H'=>m=ds.length-i/\i<=ds.length/\aZ H1 H'/\dz X.K (D::O) H' (inB ix ρ) σ'/\∃acc dn rest,H' D=some (.lst acc)/\acc.length<=i/\aX X.K (hid H' (D::O)) dn acc/\oY (inB ix ρ) g C Fe (ds.drop i)=.ok rest/\dn++rest=total,
  ⟨ds.length,by rw[Ow],NA _,cJ hD _,E1,[],[],total,aK,Nq _,cD.mpr rfl,by rw[N7];exact e2,rfl⟩,?_⟩
 rintro i m σ' H' ⟨rfl,hi,sm,E',acc,dn,rest,hacc,hlen,hdn,hrest,htot⟩;have sH:aZ (hid H1 O) (hid H' (D::O)):=λb o h=>by
  have h2:=sm b o (aO H1 O b o h);unfold hid at h ⊢;by_cases hb:b∈O
  ·rw[if_pos hb]at h;cases h
  ·rw[if_neg hb]at h;have ne:b≠D:=aQ h hD;rw[if_neg (by intro z;rcases List.mem_cons.mp z with z|z;exact ne z;exact hb z)];exact h2
 by_cases hlt:i<ds.length
 ·right;obtain⟨go,yl⟩:=(wk H' (D::O) i E'.all sH).1 ds[i] (by simp[hlt]);refine⟨go,λx H2 y=>?_⟩;obtain⟨s2,dx'⟩:=yl x H2 y;have E':=E'.same s2;have sm:=sm.trans s2;have hacc:=s2 _ _ hacc;have hdn:=hdn.mono (cw s2);rw[Oz hlt,j0]at hrest;obtain⟨ρ1,g1,hrest⟩:=mZ hrest;have g1:=HR g1;obtain⟨c,c1,hrest⟩:=mZ hrest;have c1:=AK c1;refine⟨D::O,inB ix ρ,ds[i],ρ1,E',dx',g1,λσ3 E3 _=>?_⟩;refine⟨D::O,ρ1,c,E3,c1,λH4 s4=>?_⟩;have E4:=E3.same s4;have back:∀{H5:Hp},dz X.K (D::O) H5 ρ1 σ3->dz X.K (D::O) H5 (inB ix ρ) σ3:=λz=>z.forget λj x e=>hfill ρ _ _ g1 j x e;cases c with
  |true=>
   refine qs ?_;rw[if_pos rfl]at hrest;obtain⟨v,v1,hrest⟩:=mZ hrest;have v1:=AK v1;obtain⟨r,r1,hrest⟩:=mZ hrest;cases hrest;refine⟨D::O,ρ1,v,E4,v1,λw H5 s5 dw=>?_⟩;have s45:=s4.trans s5;have ha5:H5 D=some (.lst acc):=s45 _ _ hacc;have hzl:ds.length<RO:=Nat.lt_of_le_of_lt (of_decide_eq_true hz) (by decide);refine⟨acc,ha5,by omega,ds.length-(i+1),by omega,rfl,hlt,?_,?_,acc++[w],dn++[v],r,aK,by rw[NR,NX];omega,?_,r1,by rw[OA];exact htot⟩
   ·intro b o h;rw[ay (aQ h hD)];exact s45 _ _ (sm _ _ h)
   ·exact back ((E3.same s45).rewrite trivial Nh λj xs e=>absurd e (hown ρ _ _ g1 j xs))
   ·have s6:aZ (hid H5 (D::O)) (hid (upd H5 D (.lst (acc++[w]))) (D::O)):=mR Nh;exact(hdn.mono ((cw s45).trans s6)).snoc (dw.mono s6)
  |false=>
   refine qH ?_;rw[if_neg Nn]at hrest;exact⟨ds.length-(i+1),by omega,rfl,hlt,sm.trans s4,back E4,acc,dn,rest,s4 _ _ hacc,by omega,hdn.mono (cw s4),hrest,htot⟩
 ·left;have ei:i=ds.length:=by omega
  subst ei;refine⟨(wk H' (D::O) ds.length E'.all sH).2 rfl,?_⟩;rw[List.drop_length]at hrest;cases hrest;rw[NB]at htot;subst htot;exact q D H' _ acc rfl (s1.trans sm) (s1.free hD) hacc hdn
theorem EH(tk:mq ix g):∀σ H Q,tF X (eQ ix G g C Fe) σ H Q->JH (Lf X G) (JB X.K g) (GU X.K C) (Kv X.K Fe) ix σ H Q:=λσ H Q h=>zJ tk σ H Q (LC σ H Q h)
end
structure Ks where
 nx:av->R D
 bk:av->R D:=λ_=>un
 ct:av->R D:=λ_=>un
 ex:Ex->av->R D:=λx _=>.error (some x)
noncomputable abbrev bU:=Ks->av->R D
noncomputable def ll{α:Type}(r:R α)(k:Ks)(ρ:av)(f:α->R D):R D:=match r with
 |.ok a=>f a
 |.error (some x)=>k.ex x ρ
 |.error none=>un
structure Base(Hb:Hp)(Ob:aF)(H:Hp)(O:aF):Prop where
 same:aZ Hb H
 sub:∀a∈Ob,a∈O
 new:∀a∈O,a∈Ob\/Hb a=none
noncomputable def BE(K:Qw)(H:Hp)(O:aF):aF->List D->Prop
 |[],[]=>True
 |b::bs,x::xs=>iN K H O b x/\BE K H O bs xs
 |_,_=>False
noncomputable def wf(K:Qw)(H:Hp)(O:aF)(a:RG)(bs:aF)(d:D):Prop:=
 ∃xs,BE K H O bs xs/\((d=.lst xs/\H a=some (.lst (bs.map .ref)))\/(∃kvs:List (List Key×V),d=.dct (kvs.map λp=>.tup (p.1.map rH)) xs/\H a=some (.dT kvs)/\kvs.map (·.2)=bs.map .ref)\/(d=.dct [] xs/\bs=[]/\H a=some (.dK [])))
noncomputable def Bz(K:Qw)(Hb:Hp)(Ob O:aF)(H:Hp)(ρ:av)(σ:St)(i:Nat)(d:D):Prop:=
 ∃a bs,σ[i]?=some (some (.ref a))/\wf K H O a bs d/\(a::bs).Nodup/\(∀b∈a::bs,b∈O/\Hb b=none/\b∉Ob/\∀(j:Nat) d',ρ[j]?=some (some (.own d'))->σ[j]?≠some (some (.ref b)))/\∀(j:Nat) d',ρ[j]?=some (some (.nest d'))->j=i
theorem BE.mono{K:Qw}{H H':Hp}{O O':aF}(s:aZ (hid H O) (hid H' O')):∀{bs:aF}{xs:List D},BE K H O bs xs->(∀b∈bs,(∃o,H b=some o)->H' b=H b)->BE K H' O' bs xs
 |[],[],_,_=>trivial
 |b::bs,x::xs,h,e=>⟨h.1.mono (e b Nh h.1.some).symm s,BE.mono s h.2 λb' hb=>e b' (Ni _ hb)⟩
 |[],_::_,h,_=>h.elim
 |_::_,[],h,_=>h.elim
theorem BE.some{K:Qw}{H:Hp}{O:aF}:∀{bs:aF}{xs:List D},BE K H O bs xs->∀b∈bs,∃o,H b=some o
 |[],_,_,_,hb=>nomatch hb
 |b::bs,x::xs,h,b',hb=>by
  rcases List.mem_cons.mp hb with z|z
  ·rw[z];exact h.1.some
  ·exact BE.some h.2 b' z
 |_::_,[],h,_,_=>h.elim
theorem wf.some{K:Qw}{H:Hp}{O:aF}{a:RG}{bs:aF}{d:D}(h:wf K H O a bs d):∀b∈a::bs,∃o,H b=some o:=λb hb=>by
 obtain⟨xs,h1,h2⟩:=h;rcases List.mem_cons.mp hb with z|z
 ·rw[z];rcases h2 with⟨_,q⟩|⟨_,_,q,_⟩|⟨_,_,q⟩<;>exact⟨_,q⟩
 ·exact h1.some b z
theorem wf.mono{K:Qw}{H H':Hp}{O O':aF}{a:RG}{bs:aF}{d:D}(h:wf K H O a bs d)(s:aZ (hid H O) (hid H' O'))(e:∀b∈a::bs,(∃o,H b=Option.some o)->H' b=H b):wf K H' O' a bs d:=by
 have ea:=e a Nh (h.some a Nh);obtain⟨xs,h1,h2⟩:=h;refine⟨xs,h1.mono s λb hb=>e b (Ni _ hb),?_⟩;rw[ea];exact h2
theorem Bz.to{K:Qw}{Hb Hb':Hp}{Ob O O':aF}{H H':Hp}{ρ ρ':av}{σ σ':St}{i:Nat}{d:D}(h:Bz K Hb Ob O H ρ σ i d)(hσ:σ'[i]?=σ[i]?)(s:aZ (hid H O) (hid H' O'))
  (k:∀b,b∈O->Hb b=none->b∉Ob->(∀(j:Nat) d',ρ[j]?=some (some (.own d'))->σ[j]?≠some (some (.ref b)))->(∃o,H b=some o)->H' b=H b/\b∈O'/\Hb' b=none/\∀(j:Nat) d',ρ'[j]?=some (some (.own d'))->σ'[j]?≠some (some (.ref b)))
  (n:∀(j:Nat) d',ρ'[j]?=some (some (.nest d'))->∃d2,ρ[j]?=some (some (.nest d2))):Bz K Hb' Ob O' H' ρ' σ' i d:=by
 obtain⟨a,bs,h1,h2,h3,h4,h5⟩:=h;refine⟨a,bs,hσ.trans h1,h2.mono s λb hb ho=>?_,h3,λb hb=>?_,λj d' q=>?_⟩
 ·obtain⟨q1,q2,q3,q4⟩:=h4 b hb;exact(k b q1 q2 q3 q4 ho).1
 ·obtain⟨q1,q2,q3,q4⟩:=h4 b hb;obtain⟨_,w2,w3,w4⟩:=k b q1 q2 q3 q4 (h2.some b hb);exact⟨w2,w3,q3,w4⟩
 ·obtain⟨d2,q⟩:=n j d' q;exact h5 j d2 q
structure dS(K:Qw)(Hb:Hp)(Ob O:aF)(H:Hp)(ρ:av)(σ:St):Prop where
 env:dz K O H ρ σ
 base:Base Hb Ob H O
 mine:∀(i:Nat) xs a,ρ[i]?=some (some (.own xs))->σ[i]?=some (some (.ref a))->Hb a=none/\a∉Ob
 nst:∀(i:Nat) d,ρ[i]?=some (some (.nest d))->Bz K Hb Ob O H ρ σ i d
theorem Base.same'{Hb:Hp}{Ob:aF}{H H':Hp}{O:aF}(b:Base Hb Ob H O)(s:aZ H H'):Base Hb Ob H' O:=⟨b.same.trans s,b.sub,b.new⟩
theorem dS.same{K:Qw}{Hb:Hp}{Ob O:aF}{H H':Hp}{ρ:av}{σ:St}(h:dS K Hb Ob O H ρ σ)(s:aZ H H'):dS K Hb Ob O H' ρ σ:=⟨h.env.same s,h.base.same' s,h.mine,λi d q=>(h.nst i d q).to rfl (cw s) (λb q1 q2 q3 q4 ⟨o,ho⟩=>⟨by rw[ho,s _ _ ho],q1,q2,q4⟩) λj d' z=>⟨d',z⟩⟩
theorem dS.after{K:Qw}{Hb:Hp}{Ob O:aF}{H:Hp}{ρ ρ':av}{σ σ':St}(S:dS K Hb Ob O H ρ σ)(E':dz K O H ρ' σ')(own:∀(i:Nat) x,ρ'[i]?=some (some x)->(∀d,x≠.val d)->σ'[i]?=σ[i]?/\ρ[i]?=some (some x)):dS K Hb Ob O H ρ' σ':=
 ⟨E',S.base,fun i xs a q1 q2=>by
  obtain⟨w1,w2⟩:=own i _ q1 (λ_ z=>nomatch z);rw[w1]at q2;exact S.mine i xs a w2 q2,λi d q=>by
  obtain⟨w1,w2⟩:=own i _ q (λ_ z=>nomatch z);refine(S.nst i d w2).to w1 (λ_ _ z=>z) (λb q1 q2 q3 q4 _=>⟨rfl,q1,q2,λl d' w=>?_⟩) λl d' w=>⟨d',(own l _ w (λ_ z=>nomatch z)).2⟩
  obtain⟨z1,z2⟩:=own l _ w (λ_ z=>nomatch z);rw[z1];exact q4 l d' z2⟩
structure Jn(X:Cx)(Hb:Hp)(Ob:aF)(E:Ends)(k:Ks)(r:R D):Prop where
 ne:r≠un
 nx:∀O ρ σ H,dS X.K Hb Ob O H ρ σ->k.nx ρ=r->E.nx σ H
 bk:∀O ρ σ H,dS X.K Hb Ob O H ρ σ->k.bk ρ=r->E.bk σ H
 ct:∀O ρ σ H,dS X.K Hb Ob O H ρ σ->k.ct ρ=r->E.ct σ H
 rt:∀d O v H,r=.ok d->Base Hb Ob H O->cz X.K (hid H O) d v->E.rt v H
 ex:∀O ρ σ H x,dS X.K Hb Ob O H ρ σ->k.ex x ρ=r->HB X σ O H x
noncomputable def JN(X:Cx)(Hb:Hp)(Ob:aF)(F:bU):TS:=λE σ H=>∃O ρ k r,dS X.K Hb Ob O H ρ σ/\F k ρ=r/\Jn X Hb Ob E k r
noncomputable def FS(X:Cx)(st:RJ)(F:bU):Prop:=∀Hb Ob,PS X st (JN X Hb Ob F)
noncomputable def Ic(X:Cx)(st:dM)(F:bU):Prop:=∀Hb Ob,oV X st (JN X Hb Ob F)
theorem fG.on{X:Cx}{Hb:Hp}{Ob O:aF}{H:Hp}{ρ:av}{σ:St}{E:Ends}{k:Ks}{r:R D}{α:Type}{fr:R α}{G:α->R D}{Q:α->Prop}(h:ll fr k ρ G=r)(hk:Jn X Hb Ob E k r)(S:dS X.K Hb Ob O H ρ σ)(q:∀a,G a=r->Q a):fG X σ O H fr Q:=by
 match fr,h with
 |.ok a,h=>exact q a h
 |.error (some x),h=>exact hk.ex O ρ σ H x S h
 |.error none,h=>exact absurd h.symm hk.ne
section
variable{X:Cx}{st:RJ}{rest body:dM}{pos:Pos}
noncomputable def bz:bU:=λk ρ=>k.nx ρ
noncomputable def aq(F1 F2:bU):bU:=λk ρ=>F1 {k with nx:=F2 k} ρ
noncomputable def bu(f:FX):bU:=λk ρ=>ll (f ρ) k ρ .ok
noncomputable def Iw:bU:=λ_ _=>.ok .non
noncomputable def qc(f:FX):bU:=λk ρ=>ll (f ρ) k ρ λ_=>k.nx ρ
noncomputable def eN(c:bF)(A B:bU):bU:=λk ρ=>ll (c ρ) k ρ λb=>if b then A k ρ else B k ρ
noncomputable def aL(i:Nat)(f:FX):bU:=λk ρ=>ll (f ρ) k ρ λd=>k.nx (setV i d ρ)
theorem dS.setV{K:Qw}{Hb:Hp}{Ob O:aF}{H:Hp}{ρ:av}{σ:St}(E:dS K Hb Ob O H ρ σ){i:Nat}{d:D}{v:V}(hi:i<σ.length)(hd:cz K (hid H O) d v):dS K Hb Ob O H (setV i d ρ) (σ.set i (some v)):=
  ⟨E.env.setV hi hd,E.base,fun j xs a e1 e2=>by
    rcases bp e1 with⟨_,q⟩|⟨ne,q⟩
    ·cases q
    · rw[Nm (Ne.symm ne)]at e2
      exact E.mine j xs a q e2,
   λj dn e=>by
    rcases bp e with⟨_,q⟩|⟨ne,q⟩
    ·cases q
    · refine(E.nst j dn q).to (Nm (Ne.symm ne)) (λ_ _ z=>z) (λb q1 q2 q3 q4 _=>⟨rfl,q1,q2,λl d' w=>?_⟩) λl d' w=>?_
      · rcases bp w with⟨_,z⟩|⟨nl,z⟩
        ·cases z
        ·rw[Nm (Ne.symm nl)];exact q4 l d' z
      · rcases bp w with⟨_,z⟩|⟨_,z⟩
        ·cases z
        ·exact⟨d',z⟩⟩
theorem pU{f:FX}{i:Nat}(hi:i<X.N.length)(h:PS X st (CH (tF X f) (oW i))):FS X st (aL i f):=λHb Ob pins s σ H E I ⟨O,ρ,k,r,S,hF,hk⟩=>
 h pins s σ H E I ⟨O,ρ,S.env,fG.on hF hk S λd e v H1 s1 d1=>hk.nx O _ _ H1 ((S.same s1).setV (by rw[I.len];exact hi) d1) e⟩
noncomputable def kill(is:List Nat)(ρ:av):av:=is.foldl (λρ i=>ρ.set i none) ρ
theorem gO:∀(is:List Nat)(ρ:av)(i:Nat)(x:S),(kill is ρ)[i]?=some (some x)->ρ[i]?=some (some x)
 |[],ρ,i,x,e=>e
 |j::is,ρ,i,x,e=>by
  rcases bp (gO is (ρ.set j none) i x e)with⟨_,q⟩|⟨_,q⟩
  ·cases q
  ·exact q
theorem dS.kill{K:Qw}{Hb:Hp}{Ob O:aF}{H:Hp}{ρ:av}{σ:St}(E:dS K Hb Ob O H ρ σ)(is:List Nat):dS K Hb Ob O H (kill is ρ) σ:=
 ⟨E.env.forget (gO is ρ),E.base,λi xs a e1 e2=>E.mine i xs a (gO is ρ i _ e1) e2,λi d q=>(E.nst i d (gO is ρ i _ q)).to rfl (λ_ _ z=>z) (λb q1 q2 q3 q4 _=>⟨rfl,q1,q2,λl d' w=>q4 l d' (gO is ρ l _ w)⟩) λl d' w=>⟨d',gO is ρ l _ w⟩⟩
noncomputable def dB(is:List Nat)(F:bU):bU:=λk ρ=>F k (kill is ρ)
end
noncomputable def eY(g:GF)(B:bU)(k:Ks):List D->av->R D
 |[],ρ=>k.nx ρ
 |d::ds,ρ=>(rO (g d ρ)).bind λρ1=>B ⟨eY g B k ds,k.nx,eY g B k ds,k.ex⟩ ρ1
noncomputable def iP(G:aW)(g:GF)(B:bU):bU:=λk ρ=>ll (G ρ) k ρ λds=>eY g B k ds ρ
noncomputable def lb(H:Hp)(O Ob:aF):Hp:=λb=>if b∈O/\b∉Ob then none else H b
theorem rk{H:Hp}{O Ob:aF}{b:RG}(h1:b∈O)(h2:b∉Ob):lb H O Ob b=none:=by unfold lb;rw[if_pos ⟨h1,h2⟩]
theorem Dt{H:Hp}{O Ob:aF}{b:RG}{o:HO}(h:lb H O Ob b=some o):H b=some o/\¬(b∈O/\b∉Ob):=by
 unfold lb at h;split at h
 ·cases h
 ·rename_i n;exact⟨h,n⟩
theorem AJ{H:Hp}{O Ob:aF}{b:RG}{o:HO}(h:H b=some o)(n:¬(b∈O/\b∉Ob)):lb H O Ob b=some o:=by unfold lb;rw[if_neg n];exact h
theorem Base.loop{Hb:Hp}{Ob:aF}{H:Hp}{O:aF}(b:Base Hb Ob H O):Base (lb H O Ob) Ob H O:=
 ⟨fun c o h=>(Dt h).1,b.sub,fun a ha=>by
  by_cases h:a∈Ob
  ·exact .inl h
  ·exact .inr (rk ha h)⟩
theorem Base.back{Hb:Hp}{Ob:aF}{H H':Hp}{O O':aF}(b:Base Hb Ob H O)(b':Base (lb H O Ob) Ob H' O'):Base Hb Ob H' O':=by
 have up:aZ Hb (lb H O Ob):=λc o h=>AJ (b.same c o h) λ⟨z1,z2⟩=>by
  rcases b.new c z1 with z|z
  ·exact z2 z
  ·rw[z]at h;cases h
 exact⟨up.trans b'.same,b'.sub,λa ha=>(b'.new a ha).imp id up.free⟩
theorem dS.loop{K:Qw}{Hb:Hp}{Ob O:aF}{H:Hp}{ρ:av}{σ:St}(E:dS K Hb Ob O H ρ σ):dS K (lb H O Ob) Ob O H ρ σ:=
 ⟨E.env,E.base.loop,fun i xs a e1 e2=>by
  obtain⟨_,n⟩:=E.mine i xs a e1 e2;obtain⟨a',e3,e4,_⟩:=E.env.own i xs e1;rw[e2]at e3;cases e3;exact⟨rk e4 n,n⟩,λi d q=>(E.nst i d q).to rfl (λ_ _ z=>z) (λb q1 q2 q3 q4 _=>⟨rfl,q1,rk q1 q3,q4⟩) λl d' w=>⟨d',w⟩⟩
theorem dS.back{K:Qw}{Hb:Hp}{Ob O O':aF}{H H':Hp}{ρ':av}{σ':St}(b:Base Hb Ob H O)(E:dS K (lb H O Ob) Ob O' H' ρ' σ'):dS K Hb Ob O' H' ρ' σ':=
 have up:aZ Hb (lb H O Ob):=λc o h=>AJ (b.same c o h) λ⟨z1,z2⟩=>by
  rcases b.new c z1 with z|z
  ·exact z2 z
  ·rw[z]at h;cases h
 ⟨E.env,b.back E.base,fun i xs a e1 e2=>by
  obtain⟨z,n⟩:=E.mine i xs a e1 e2;exact⟨up.free z,n⟩,λi d q=>(E.nst i d q).to rfl (λ_ _ z=>z) (λb q1 q2 q3 q4 _=>⟨rfl,q1,up.free q2,q4⟩) λl d' w=>⟨d',w⟩⟩
theorem zg{Hb:Hp}{Ob O O':aF}{H H':Hp}(b:Base Hb Ob H O)(b':Base (lb H O Ob) Ob H' O'):aZ (hid H O) (hid H' O'):=λc o h=>by
 unfold hid at h ⊢;by_cases hc:c∈O
 ·rw[if_pos hc]at h;cases h
 ·rw[if_neg hc]at h;have h1:lb H O Ob c=some o:=AJ h λz=>hc z.1;rw[if_neg]
  ·exact b'.same _ _ h1
  ·intro z;rcases b'.new c z with z|z
   ·exact hc (b.sub c z)
   ·rw[h1]at z;cases z
theorem Jn.loop{X:Cx}{Hb:Hp}{Ob O:aF}{H:Hp}{E E':Ends}{k k':Ks}{r:R D}(hk:Jn X Hb Ob E k r)(b:Base Hb Ob H O)(hn:∀O' ρ' σ' H',dS X.K (lb H O Ob) Ob O' H' ρ' σ'->k'.nx ρ'=r->E'.nx σ' H')(hc:∀O' ρ' σ' H',dS X.K (lb H O Ob) Ob O' H' ρ' σ'->k'.ct ρ'=r->E'.ct σ' H')
    (eb:k'.bk=k.nx) (ee:k'.ex=k.ex) (Eb:E'.bk=E.nx) (Er:E'.rt=E.rt):Jn X (lb H O Ob) Ob E' k' r:=
  ⟨hk.ne,hn,fun O' ρ' σ' H' S e=>by rw [Eb]; exact hk.nx O' ρ' σ' H' (S.back b) (by rw [<- eb]; exact e),hc,fun d O' v H' e b' dv=>by rw [Er]; exact hk.rt d O' v H' e (b.back b') dv,
   λO' ρ' σ' H' x S e=>hk.ex O' ρ' σ' H' x (S.back b) (by rw[<-ee];exact e)⟩
section
variable{X:Cx}{st:RJ}{rest body:dM}{pos:Pos}
noncomputable def eM(c:bF)(B:bU)(k:Ks):Nat->av->R D
 |0,_=>un
 |n+1,ρ=>ll (c ρ) k ρ λb=>if b then B ⟨eM c B k n,k.nx,eM c B k n,k.ex⟩ ρ else k.nx ρ
noncomputable def nO(n:Nat)(c:bF)(B:bU):bU:=λk ρ=>eM c B k n ρ
end
end TG
namespace TG
open PySem PySem.Spec L2
variable[aC]
theorem dS.setO{K:Qw}{Hb:Hp}{Ob O:aF}{H:Hp}{ρ:av}{σ:St}(E:dS K Hb Ob O H ρ σ){i:Nat}{d d':D}{a:RG}{o:HO}(hi:ρ[i]?=some (some (.own d)))(ha:σ[i]?=some (some (.ref a)))(m:oB o)(new:iN K (upd H a o) O a d'):
  dS K Hb Ob O (upd H a o) (ρ.set i (some (.own d'))) σ:=by
 obtain⟨a',ha',haO,hat⟩:=E.env.own i d hi;rw[ha]at ha';cases ha';obtain⟨m1,m2⟩:=E.mine i d a hi ha;have s:aZ (hid H O) (hid (upd H a o) O):=mR haO;have own:∀(j:Nat) ys,(ρ.set i (some (.own d')))[j]?=some (some (.own ys))->∃ys',ρ[j]?=some (some (.own ys')):=λj ys q=>by
  rcases bp q with⟨hj,_⟩|⟨_,q⟩
  ·rw[hj];exact⟨d,hi⟩
  ·exact⟨ys,q⟩
 refine⟨⟨λj d1 e=>?_,λj ys e=>?_,λj l ys zs b q1 q2 q3 q4=>?_,E.env.all.upd haO m⟩,⟨λb u h=>?_,E.base.sub,E.base.new⟩,λj ys b q1 q2=>?_,λj dn q=>?_⟩
 ·rcases bp e with⟨_,q⟩|⟨ne,q⟩
  ·cases q
  ·obtain⟨w,q1,q2⟩:=E.env.val j d1 q;exact⟨w,q1,q2.mono s⟩
 ·rcases bp e with⟨hj,q⟩|⟨ne,q⟩
  ·cases q;rw[hj];exact⟨a,ha,haO,new⟩
  ·obtain⟨b,q1,q2,q3⟩:=E.env.own j ys q;have nb:b≠a:=λz=>ne (E.env.one j i ys d a q hi (by rw[<-z];exact q1) ha);exact⟨b,q1,q2,q3.mono (by rw[ay nb]) s⟩
 ·obtain⟨_,q1'⟩:=own j ys q1;obtain⟨_,q2'⟩:=own l zs q2;exact E.env.one j l _ _ b q1' q2' q3 q4
 ·have nb:b≠a:=λz=>by rw[z,m1]at h;cases h
  rw[ay nb];exact E.base.same b u h
 ·obtain⟨ys',q⟩:=own j ys q1;exact E.mine j ys' b q q2
 ·have q:ρ[j]?=some (some (.nest dn)):=by
   rcases bp q with⟨_,z⟩|⟨_,z⟩
   ·cases z
   ·exact z
  refine(E.nst j dn q).to rfl s (λb q1 q2 q3 q4 _=>⟨ay λz=>q4 i d hi (by rw[z];exact ha),q1,q2,λl d1 w=>?_⟩) λl d1 w=>?_
  ·obtain⟨_,w'⟩:=own l d1 w;exact q4 l _ w'
  ·rcases bp w with⟨_,z⟩|⟨_,z⟩
   ·cases z
   ·exact⟨d1,z⟩
theorem dS.setNew{K:Qw}{Hb:Hp}{Ob O:aF}{H H':Hp}{ρ:av}{σ:St}(E:dS K Hb Ob O H ρ σ){i:Nat}{d:D}{p:RG}(hi:i<σ.length)(sm:aZ H H')(hp:H p=none)(m:∃o,H' p=some o/\oB o)(new:iN K H' (p::O) p d):
  dS K Hb Ob (p::O) H' (ρ.set i (some (.own d))) (σ.set i (some (.ref p))):=by
 have hpO:p∉O:=E.env.all.not hp;have s:aZ (hid H O) (hid H' (p::O)):=λb o h=>by
  unfold hid at h ⊢;by_cases hb:b∈O
  ·rw[if_pos hb]at h;cases h
  ·rw[if_neg hb]at h;have ne:=aQ h hp;rw[if_neg (by intro z;rcases List.mem_cons.mp z with z|z;exact ne z;exact hb z)];exact sm _ _ h
 have other:∀(j:Nat) xs,ρ[j]?=some (some (.own xs))->σ[j]?≠some (some (.ref p)):=λj xs e z=>by
  obtain⟨a,e1,e2,e3⟩:=E.env.own j xs e;rw[z]at e1;cases e1;obtain⟨o,e3⟩:=e3.some;rw[hp]at e3;cases e3
 refine⟨⟨λj d' e=>?_,λj xs e=>?_,λj k xs ys a e1 e2 e3 e4=>?_,⟨(E.env.all.same sm).1,λa ha=>?_⟩⟩,⟨E.base.same.trans sm,λa ha=>Ni _ (E.base.sub a ha),λa ha=>?_⟩,λj xs a e1 e2=>?_,λj dn e=>?_⟩
 ·rcases bp e with⟨_,q⟩|⟨ne,q⟩
  ·cases q
  ·obtain⟨v,q1,q2⟩:=E.env.val j d' q;exact⟨v,by rw[Nm (Ne.symm ne)];exact q1,q2.mono s⟩
 ·rcases bp e with⟨hj,q⟩|⟨ne,q⟩
  ·cases q;rw[hj];exact⟨p,Nk hi,Nh,new⟩
  ·obtain⟨a,q1,q2,q3⟩:=E.env.own j xs q;obtain⟨o,ho⟩:=q3.some;exact⟨a,by rw[Nm (Ne.symm ne)];exact q1,Ni _ q2,q3.mono (wF sm ho) s⟩
 ·rcases bp e1 with⟨hj,q1⟩|⟨nj,q1⟩
  ·rcases bp e2 with⟨hk,q2⟩|⟨nk,q2⟩
   ·exact hj.trans hk.symm
   ·rw[hj,Nk hi]at e3;cases e3;rw[Nm (Ne.symm nk)]at e4;exact absurd e4 (other k ys q2)
  ·rcases bp e2 with⟨hk,q2⟩|⟨nk,q2⟩
   ·rw[hk,Nk hi]at e4;cases e4;rw[Nm (Ne.symm nj)]at e3;exact absurd e3 (other j xs q1)
   ·rw[Nm (Ne.symm nj)]at e3;rw[Nm (Ne.symm nk)]at e4;exact E.env.one j k xs ys a q1 q2 e3 e4
 ·rcases List.mem_cons.mp ha with rfl|ha
  ·exact m
  ·exact(E.env.all.same sm).2 a ha
 ·rcases List.mem_cons.mp ha with rfl|ha
  ·exact .inr (E.base.same.free hp)
  ·exact E.base.new a ha
 ·rcases bp e1 with⟨hj,q1⟩|⟨nj,q1⟩
  ·rw[hj,Nk hi]at e2;cases e2;exact⟨E.base.same.free hp,λz=>hpO (E.base.sub p z)⟩
  ·rw[Nm (Ne.symm nj)]at e2;exact E.mine j xs a q1 e2
 ·rcases bp e with⟨_,q⟩|⟨ne,q⟩
  ·cases q
  ·refine(E.nst j dn q).to (Nm (Ne.symm ne)) s (λb q1 q2 q3 q4 ⟨o,ho⟩=>⟨by rw[ho,sm _ _ ho],Ni _ q1,q2,λl d1 w=>?_⟩) λl d1 w=>?_
   ·rcases bp w with⟨hl,z⟩|⟨nl,z⟩
    ·rw[hl,Nk hi];intro z;cases z;rw[hp]at ho;cases ho
    ·rw[Nm (Ne.symm nl)];exact q4 l d1 z
   ·rcases bp w with⟨_,z⟩|⟨_,z⟩
    ·cases z
    ·exact⟨d1,z⟩
noncomputable def K5(X:Cx)(F:FX):TE:=λσ H Q=>∃O ρ,dz X.K O H ρ σ/\fG X σ O H (F ρ) λd=>∀p H',aZ H H'->H p=none->(∃o,H' p=some o/\oB o)->iN X.K H' (p::O) p d->Q (.ref p) H'
noncomputable def FN(X:Cx)(e:RH)(F:FX):Prop:=PE X e (K5 X F)
section
variable{X:Cx}{pos:Pos}
theorem sN{K:Qw}{H:Hp}{O:aF}{p:RG}{ds:List D}{vs:aH}(hp:H p=none)(d:aX K (hid H O) ds vs):iN K (upd H p (.lst vs)) (p::O) p (.lst ds):=⟨_,vs,aK,rfl,d.mono (sJ hp)⟩
noncomputable def jc(i:Nat)(f:FX):bU:=λk ρ=>ll (f ρ) k ρ λd=>k.nx (ρ.set i (some (.own d)))
theorem pD{st:RJ}{f:FX}{i:Nat}(hi:i<X.N.length)(h:PS X st (CH (K5 X f) (oW i))):FS X st (jc i f):=λHb Ob pins s σ H E I ⟨O,ρ,k,r,S,hF,hk⟩=>
 h pins s σ H E I ⟨O,ρ,S.env,fG.on hF hk S λd e p H1 s1 hp m o=>hk.nx _ _ _ H1 (S.setNew (by rw[I.len];exact hi) s1 hp m o) e⟩
end
theorem EW{X:Cx}{F:FX}:∀σ H Q,K5 X F σ H Q->KI X F σ H Q:=λσ H Q ⟨O,ρ,E,hF⟩=>⟨O,ρ,E,hF.imp λd q D H' total acc e sm hD hD' dn=>by
 subst e;exact q D H' sm hD ⟨_,hD',trivial⟩ ⟨_,acc,hD',rfl,dn⟩⟩
noncomputable def p8(i:Nat)(u:List D->List D->Option (List D))(f:aW):bU:=λk ρ=>match ρ[i]? with
 |some (some (.own (.lst xs)))=>ll (f ρ) k ρ λds=>(rO (u xs ds)).bind λys=>k.nx (ρ.set i (some (.own (.lst ys))))
 |_=>un
noncomputable def Af(K:Qw)(r:V->aH->Hp->VK->Prop)(u:List D->List D->Option (List D)):Prop:=
 ∀(H:Hp)(O:aF)(a:RG)(xs ys as:List D)(ws vs:aH)(Q:VK),dq H O->a∈O->H a=some (.lst ws)->aX K (hid H O) xs ws->aX K (hid H O) as vs->u xs as=some ys->(∀ws' v,aX K (hid H O) ys ws'->Q v (upd H a (.lst ws')))->r (.ref a) vs H Q
theorem tM{K:Qw}{H:Hp}{O:aF}{a:RG}{ys:List D}{ws:aH}(ha:a∈O)(h:aX K (hid H O) ys ws):iN K (upd H a (.lst ws)) O a (.lst ys):=⟨_,ws,aK,rfl,h.mono (mR ha)⟩
noncomputable def gI(xs:List D)(ds:List D):Option (List D):=match ds with
 |[y]=>if small (xs.length+1)then some (xs++[y])else none
 |_=>none
theorem yc{K:Qw}:Af K wc gI:=λH O a xs ys as ws vs Q hO haO ha dx da hu q=>by
 unfold gI at hu;split at hu
 ·rename_i y;obtain⟨h1,h2⟩:=bE hu;subst h2;obtain⟨v,rfl,dv⟩:=da.one
  have:=cU h1
  rw[dx.length]at this;exact⟨a,ws,v,rfl,rfl,ha,by omega,q _ _ (dx.snoc dv)⟩
 ·cases hu
noncomputable def xI(xs:List D)(ds:List D):Option (List D):=match ds with
 |[.int i,y]=>if decide (0<=i/\i<=xs.length)&&small (xs.length+1)then some (xs.take i.toNat++y::xs.drop i.toNat)else none
 |_=>none
noncomputable def wK:V->aH->Hp->VK->Prop:=λx vs H Q=>∃l xs i y,x=.ref l/\vs=[.int i,y]/\H l=some (.lst xs)/\0<=i/\i<=xs.length/\xs.length<100001/\Q .non (upd H l (.lst (xs.take i.toNat++y::xs.drop i.toNat)))
theorem x9{X:Cx}:JT X "list.insert" wK:=by
 intro pins s σ H x vs v us Q I rx rv h;obtain⟨l,xs,i,y,rfl,rfl,hH,h0,h1,hz,q⟩:=h;cases rx;obtain⟨u1,u,rfl,r1,ru⟩:=rv.two;obtain⟨t,rfl⟩:=r1;obtain⟨z,its,n,r,hl,e⟩:=I.lstM hH;have hfit:¬(!Builtin.List.listFitsIndex i)=true:=by
  have e:Builtin.List.listFitsIndex i=true:=by
   unfold Builtin.List.listFitsIndex;rw[NU];exact⟨decide_eq_true ‹0›,decide_eq_true ‹0›⟩
  rw[e];decide
 refine call_meets F.slot_list_insert ⟨_,e,rfl⟩ F.entry_list_insert (F.args_list_insert_3 _ _ _) (AutoSeq1.list_insert_list_int_val_1 l its.toArray n i t u hfit (by rw[Nt];omega)) ⟨e,?_⟩;refine⟨.non,_,I.lset (its':=its.take i.toNat++u::its.drop i.toNat) hH e ?_ ((r.take _).append (.cons ru (r.drop _))) ?_,rfl,q⟩
 ·have e1:(if i<0 then(i+(its.toArray.size:Int)).toNat else min i.toNat its.toArray.size)=i.toNat:=by
   rw[if_neg ‹0›,Nt];omega
  show(its.toArray.extract 0 (if i<0 then(i+(its.toArray.size:Int)).toNat else min i.toNat its.toArray.size)).push u++its.toArray.extract (if i<0 then(i+(its.toArray.size:Int)).toNat else min i.toNat its.toArray.size)=_;rw[e1];apply Array.ext';simp[OB]
 ·rw[NR,NE,Nv,NT,Sl];omega
theorem xJ{K:Qw}:Af K wK xI:=λH O a xs ys as ws vs Q hO haO ha dx da hu q=>by
 unfold xI at hu;split at hu
 ·rename_i i y;obtain⟨h1,h2⟩:=bE hu;subst h2;rw[NU]at h1;obtain⟨i0,i1⟩:=of_decide_eq_true h1.1;have hz:xs.length+1<=100000:=of_decide_eq_true h1.2;obtain⟨v,w,rfl,dv,dw⟩:=da.two;have hl:=dx.length;refine⟨a,ws,i,w,rfl,by rw[eZ.mp dv],ha,i0,by omega,by omega,q _ _ ?_⟩;exact(dx.take _).append (bH.mpr ⟨w,_,rfl,dw,dx.drop _⟩)
 ·cases hu
noncomputable def frz(i:Nat)(ρ:av):av:=match ρ[i]? with
 |some (some (.own d))=>setV i d ρ
 |_=>ρ
theorem dz.frz{K:Qw}{O:aF}{H:Hp}{ρ:av}{σ:St}(E:dz K O H ρ σ)(i:Nat):∃O',dz K O' H (frz i ρ) σ/\(∀b∈O',b∈O)/\∀b∈O,b∉O'->∃d,ρ[i]?=some (some (.own d))/\σ[i]?=some (some (.ref b)):=by
 unfold TG.frz;split
 ·rename_i d hd;obtain⟨a,ha,haO,hat⟩:=E.own i d hd;have sub:∀b∈O.filter (λb=>decide (b≠a)),b∈O:=λb hb=>(List.mem_filter.mp hb).1;have s:aZ (hid H O) (hid H (O.filter λb=>decide (b≠a))):=gJ sub;have na:a∉O.filter λb=>decide (b≠a):=λz=>absurd rfl (of_decide_eq_true (List.mem_filter.mp z).2);refine⟨O.filter λb=>decide (b≠a),⟨λj d' e=>?_,λj ys e=>?_,λj l ys zs b q1 q2 q3 q4=>?_,⟨E.all.1,λb hb=>E.all.2 b (sub b hb)⟩⟩,sub,λb hb nb=>?_⟩
  ·rcases bp e with⟨hj,q⟩|⟨ne,q⟩
   ·cases q;rw[hj];exact⟨.ref a,ha,hat.den s na⟩
   ·obtain⟨w,q1,q2⟩:=E.val j d' q;exact⟨w,q1,q2.mono s⟩
  ·rcases bp e with⟨_,q⟩|⟨ne,q⟩
   ·cases q
   ·obtain⟨b,q1,q2,q3⟩:=E.own j ys q;have nb:b≠a:=λz=>ne (E.one j i ys d a q hd (by rw[<-z];exact q1) ha);exact⟨b,q1,List.mem_filter.mpr ⟨q2,decide_eq_true nb⟩,q3.mono rfl s⟩
  ·rcases bp q1 with⟨_,q⟩|⟨_,q⟩
   ·cases q
   ·rcases bp q2 with⟨_,q'⟩|⟨_,q'⟩
    ·cases q'
    ·exact E.one j l ys zs b q q' q3 q4
  ·by_cases z:b=a
   ·exact⟨d,hd,by rw[z];exact ha⟩
   ·exact absurd (List.mem_filter.mpr ⟨hb,decide_eq_true z⟩) nb
 ·exact⟨O,E,λ_ z=>z,λb hb nb=>absurd hb nb⟩
theorem dS.frz{K:Qw}{Hb:Hp}{Ob O:aF}{H:Hp}{ρ:av}{σ:St}(E:dS K Hb Ob O H ρ σ)(i:Nat):∃O',dS K Hb Ob O' H (frz i ρ) σ:=by
 obtain⟨O',E',sub,gone⟩:=E.env.frz i;refine⟨O',E',⟨E.base.same,λa ha=>?_,λa ha=>E.base.new a (sub a ha)⟩,λj xs a q1 q2=>?_,λj dn q1=>?_⟩
 ·by_cases z:a∈O'
  ·exact z
  ·obtain⟨d,e1,e2⟩:=gone a (E.base.sub a ha) z;exact absurd ha (E.mine i d a e1 e2).2
 ·have q:ρ[j]?=some (some (.own xs)):=by
   unfold TG.frz at q1;split at q1
   ·rcases bp q1 with⟨_,q⟩|⟨_,q⟩
    ·cases q
    ·exact q
   ·exact q1
  exact E.mine j xs a q q2
 ·have bk:∀(l:Nat) x,(TG.frz i ρ)[l]?=some (some x)->(∀d,x≠.val d)->ρ[l]?=some (some x):=λl x e nv=>by
   unfold TG.frz at e;split at e
   ·rcases bp e with⟨_,q⟩|⟨_,q⟩
    ·cases q;exact absurd rfl (nv _)
    ·exact q
   ·exact e
  refine(E.nst j dn (bk j _ q1 (λ_ z=>nomatch z))).to rfl (gJ sub) (λb w1 w2 w3 w4 _=>⟨rfl,?_,w2,λl d1 w=>w4 l d1 (bk l _ w (λ_ z=>nomatch z))⟩) λl d1 w=>⟨d1,bk l _ w (λ_ z=>nomatch z)⟩
  by_cases z:b∈O'
  ·exact z
  ·obtain⟨d,e1,e2⟩:=gone b w1 z;exact absurd e2 (w4 i d e1)
noncomputable def jM(i:Nat)(F:bU):bU:=λk ρ=>F k (frz i ρ)
mutual
noncomputable def lf:D->Bool
 |.tup xs=>yz xs
 |.lst _=>false
 |.dct _ _=>false
 |.obj _ _ vs=>yz vs
 |.exc _ _ _=>false
 |_=>true
noncomputable def yz:List D->Bool
 |[]=>true
 |x::xs=>lf x&&yz xs
end
mutual
theorem AW{K:Qw}{H:Hp}{O O':aF}(hO:dq H O):∀{d:D}{v:V},lf d=true->cz K (hid H O') d v->cz K (hid H O) d v
 |.non,_,_,h=>by unfold cz at h ⊢;exact h
 |.bl _,_,_,h=>by unfold cz at h ⊢;exact h
 |.int _,_,_,h=>by unfold cz at h ⊢;exact h
 |.str _,_,_,h=>by unfold cz at h ⊢;exact h
 |.lst _,_,l,_=>by unfold lf at l;cases l
 |.dct _ _,_,l,_=>by unfold lf at l;cases l
 |.exc _ _ _,_,l,_=>by unfold lf at l;cases l
 |.obj c fs xs,_,l,h=>by
  unfold lf at l;rw[Dz]at h ⊢;obtain⟨a,ws,e,h1,hl,C,dx,hc,ha⟩:=h;refine⟨a,ws,e,rm hO l h1,hl,C,dx,hc,?_⟩;have q':=aO H O' a _ ha;rw[iT λz=>by obtain⟨u,e1,e2⟩:=hO.2 a z;rw[q']at e1;cases e1;exact e2.elim];exact q'
 |.tup xs,_,l,h=>by
  unfold lf at l;rw[b7]at h ⊢;obtain⟨a,vs,e,h1,h2⟩:=h;refine⟨a,vs,e,?_,rm hO l h2⟩;have key:∀{o:HO},hid H O' a=some o->¬oB o->hid H O a=some o:=λ{o} q n=>by
   have q':=aO H O' a o q;rw[iT λz=>by obtain⟨u,e1,e2⟩:=hO.2 a z;rw[q']at e1;cases e1;exact n e2];exact q'
  exact key h1 λz=>z.elim
theorem rm{K:Qw}{H:Hp}{O O':aF}(hO:dq H O):∀{ds:List D}{vs:aH},yz ds=true->aX K (hid H O') ds vs->aX K (hid H O) ds vs
 |[],_,_,h=>by rw[cD]at h ⊢;exact h
 |x::xs,_,l,h=>by
  unfold yz at l;rw[NU]at l;rw[bH]at h ⊢;obtain⟨v,r,e,h1,h2⟩:=h;exact⟨v,r,e,AW hO l.1 h1,rm hO l.2 h2⟩
end
noncomputable def frzs(is:List Nat)(ρ:av):av:=is.foldl (λρ i=>frz i ρ) ρ
theorem dz.frzs{K:Qw}{H:Hp}{σ:St}:∀(is:List Nat){O:aF}{ρ:av},dz K O H ρ σ->∃O',dz K O' H (frzs is ρ) σ
 |[],O,_,E=>⟨O,E⟩
 |i::is,_,_,E=>by
  obtain⟨O',E',_⟩:=E.frz i;exact dz.frzs is E'
noncomputable def jC(is:List Nat)(f:FX):FX:=λρ=>(uy (f (frzs is ρ))).bind λd=>if lf d then .ok d else un
noncomputable def dy(is:List Nat)(f:bF):bF:=λρ=>uy (f (frzs is ρ))
end TG
namespace TG
open PySem PySem.Spec L2
variable[aC]
noncomputable def xP(K:Qw)(n:Nat)(g:cP):Sp:=λvs H Q E=>∃O ds,vs.length=n/\dq H O/\aX K (hid H O) ds vs/\match g ds with
 |.ok d=>∀v H',aZ H H'->cz K (hid H' O) d v->Q v H'
 |.error (some x)=>KH K H O x E
 |.error none=>False
section
variable{X:Cx}{k:Nat}{f C:RG}{fd:SD}{ps:au}{sp:Sp}{x m:Str}{p pos apos:Pos}{e o:RH}{es:bA}{ta:TE}{t:TA}
theorem qm{pins:bn}{σ:St}{H:Hp}{s:RK}{Q:VK}{E:XK}{us:aU}{vs:aH}(F:fP X.prog X.w X.K X.mg X.base (iH X.prog X.w) k f fd ps sp)(hr:eI k X.A)(hb:Binds X.K fd ps [])(hx:iY (iH X.prog X.w) X σ E)
  (I:Inv X pins σ H s) (r:Vals vs us) (h:sp vs H Q E):RY (model X.prog X.w) X.A (call (.ref f) us) (EP X pins σ Q) X.xe s:=by
 have hl:(us++[]).length=ps.length:=by rw[NB,<-r.length];exact F.len _ _ _ _ h
 have hb':=hb s us I.kIn hl;rw[NB]at hb';refine SG (SH (F.run X.A X.stack s H ⟨us,[]⟩ us vs Q E hr I.env0 hb' r h) λr s' hq=>?_);cases r with
 |error e=>exact hx pins H s e s' I hq
 |ok fl=>
  cases fl with
  |ret u=>exact I.after hq
  |next=>exact False.elim hq
  |brk=>exact False.elim hq
  |cont=>exact False.elim hq
noncomputable def Ay(X:Cx)(sp:Sp)(t:TA):TE:=λσ H Q=>t σ H λvs H1=>∃E,iY (iH X.prog X.w) X σ E/\sp vs H1 Q E
theorem Aw(F:fP X.prog X.w X.K X.mg X.base (iH X.prog X.w) k f fd ps sp)(hr:eI k X.A)(hg:Gl X x)(hm:X.mg x=some (.ref f))(hk:QJ X.K (.ref f)=true)(hb:Binds X.K fd ps [])
  (ha:PA X (e::es) t) (hdb:(x==("__debug__":Str))=false:=by decide) (he:RZ (e::es) X.env=(false,eval e X.env)::RZ es X.env:=by rfl) (hpl:(backTo pos (RZ es X.env)).any (·.1)=false:=by rfl):
  PE X (.Call (.Name x p) (e::es) [] pos) (Ay X sp t):=by
 intro pins s σ H Q I h;refine SJ (jt I hg hm ?_ hdb);refine QK (h₀:=X.base) I.ok.mod.kin hk (cN (ha pos pins s σ H _ I h) λus s1 ⟨vs,H1,I1,r,E,hx,q⟩=>⟨I1.kIn,?_⟩) he hpl;exact qm F hr hb hx I1 r q
theorem xK{n:Nat}{g:cP}{f:aW}(hn:∀ds,g ds≠un->ds.length=n):∀σ H Q,tF X (fR g f) σ H Q->Ay X (xP X.K n g) (LA X f) σ H Q:=λσ H Q ⟨O,ρ,E,hF⟩=>
 ⟨O,ρ,E,(fG.bind hF).imp fun ds hF vs H1 s1 d1=>by
  cases hg:g ds with
  |ok d=>
   rw[hg]at hF;refine⟨E0,vH,O,ds,by rw[<-d1.length];exact hn ds (by rw[hg];intro z;cases z),E.all.same s1,d1,?_⟩;rw[hg];exact λv H2 s2 d2=>hF v H2 (s1.trans s2) d2
  |error z=>
   rw[hg]at hF;cases z with
   |none=>exact hF.elim
   |some x=>
    refine⟨wL X O H1 x,wA (HB.mono hF s1),O,ds,by rw[<-d1.length];exact hn ds (by rw[hg];intro z;cases z),E.all.same s1,d1,?_⟩;rw[hg];exact tV⟩
end
noncomputable def Callee(P:RM)(w:RL)(K:Qw)(mg:bP)(base:RN)(k:Nat)(x:Str)(ps:au)(g:cP):Prop:=
 ∃f fd,fP P w K mg base (iH P w) k f fd ps (xP K ps.length g)/\Binds K fd ps []/\QJ K (.ref f)=true/\mg x=some (.ref f)
noncomputable def Ar(n:Nat)(g:cP):Prop:=∀ds,g ds≠un->ds.length=n
noncomputable def K0:Ks:={nx:=λ_=>.ok .non}
noncomputable def env0(n:Nat)(ds:List D):av:=ds.map (λd=>some (.val d))++List.replicate (n-ds.length) none
noncomputable def ao(B:bU)(np n:Nat):cP:=λds=>if ds.length=np then B K0 (env0 n ds)else un
theorem jL{B:bU}{np n:Nat}:Ar np (ao B np n):=λds h=>by
 unfold ao at h;split at h
 ·assumption
 ·exact absurd rfl h
theorem fY{n:Nat}{ds:List D}(i:Nat)(x:S)(e:(env0 n ds)[i]?=some (some x)):∃d,ds[i]?=some d/\x=.val d:=by
 unfold env0 at e;by_cases hi:i<ds.length
 ·rw[NK (by rw[Nx];exact hi),NM,Od hi]at e;have e':some (S.val ds[i])=some x:=Option.some.inj e;exact⟨ds[i],by rw[Od hi],(Option.some.inj e').symm⟩
 ·rw[NF (by rw[Nx];omega),Nx,NI]at e;split at e
  ·cases e
  ·cases e
theorem nW{K:Qw}{O:aF}{H:Hp}{N:au}{ds:List D}{vs:aH}(hO:dq H O)(h:aX K (hid H O) ds vs):dz K O H (env0 N.length ds) (L2.start N vs):=by
 refine⟨λi d e=>?_,λi xs e=>?_,λi j xs ys a e=>?_,hO⟩
 ·obtain⟨d',e1,e2⟩:=fY i _ e;cases e2;obtain⟨v,e3,e4⟩:=h.get e1;refine⟨v,?_,e4⟩;unfold L2.start;have hi:i<vs.length:=(List.getElem?_eq_some_iff.mp e3).1;rw[NK (by rw[Nx];exact hi),NM,e3];rfl
 ·obtain⟨d',_,e2⟩:=fY i _ e;cases e2
 ·obtain⟨d',_,e2⟩:=fY i _ e;cases e2
section
variable{P:RM}{w:RL}{K:Qw}{mg:bP}{base:RN}
structure BodyOk(P:RM)(w:RL)(K:Qw)(mg:bP)(base:RN)(k:Nat)(N:au)(qual:Str)(st:RJ)(f:RG)(B:bU):Prop where
 h:∀(cdv:RE)(A:RV)(outer:List Env)(s:RK)(H:Hp)(E:XK),eI k (A.deeper (Ru qual (aw st) s.heap.objs.size f cdv))->R9 (model P w) (A.deeper (Ru qual (aw st) s.heap.objs.size f cdv)) (Ru qual (aw st) s.heap.objs.size f cdv) (fO (iH P w) P w K mg base N qual (aw st) f cdv A outer s H E).xe->
  Ic (fO (iH P w) P w K mg base N qual (aw st) f cdv A outer s H E) (cT st) B
theorem KW{x qual:Str}{st:RJ}{f:RG}{fd:SD}{N ps:au}{k:Nat}{sp:Sp}{CX:vd}(F:ou K x qual st f fd)(S:cx N ps (aw st))(len:∀vs H Q E,sp vs H Q E->vs.length=ps.length)
  (hbody:∀ (cdv:RE) (A:RV) (outer:List Env) (s:RK) (H:Hp) (vs:aH) (Q:VK) (E:XK),eI k (A.deeper (Ru qual (aw st) s.heap.objs.size f cdv))->sp vs H Q E ->
   ∃t,oV (fO CX P w K mg base N qual (aw st) f cdv A outer s H E) (cT st) t/\t {nx:=λ_ H'=>Q .non H',rt:=Q} (L2.start N vs) H):fP P w K mg base CX (k+1) f fd ps sp:=by
 obtain⟨oc,od,kV,doc,pm,an,cdv,ct,osl,rfl,lk,hcd⟩:=F.ex;exact A2 lk hcd S len λA outer s H vs Q E hr hsp=>hbody cdv A outer s H vs Q E hr hsp
theorem fP.any{CX:vd}{k:Nat}{f:RG}{fd:SD}{ps:au}{sp:Sp}(F:fP P w K mg base Im k f fd ps sp):fP P w K mg base CX k f fd ps sp:=
 ⟨F.len,fun A outer s H args us vs Q E hr he hb hv hs=>SH (F.run A outer s H args us vs Q E hr he hb hv hs) fun r s' h=>by
  cases r with
  |error e=>exact False.elim h
  |ok fl=>cases fl<;>exact h⟩
theorem qe{x qual:Str}{st:RJ}{f:RG}{fd:SD}{N ps:au}{k:Nat}{B:bU}(F:ou K x qual st f fd)(SC:cx N ps (aw st))(hb:BodyOk P w K mg base k N qual st f B):
  fP P w K mg base (iH P w) (k+1) f fd ps (xP K ps.length (ao B ps.length N.length)):=by
 refine KW F SC (λvs H Q E h=>?_) λcdv A outer s H vs Q E hr h=>?_
 ·obtain⟨O,ds,h1,_⟩:=h;exact h1
 ·obtain⟨O,ds,h1,h2,h3,h4⟩:=h;have hl:ds.length=ps.length:=h3.length.trans h1;have e4:ao B ps.length N.length ds=B K0 (env0 N.length ds):=by unfold ao;rw[if_pos hl]
  rw[e4]at h4;refine⟨_,hb.h cdv A outer s H E hr PassesOwn.leaving H O,O,env0 N.length ds,K0,_,⟨nW h2 h3,⟨aZ.refl H,λ_ z=>z,λa z=>.inl z⟩,λi xs a e=>?_,λi d e=>by obtain⟨d',_,e2⟩:=fY i _ e;cases e2⟩,rfl,?_⟩
  ·obtain⟨d',_,e2⟩:=fY i _ e;cases e2
  ·generalize B K0 (env0 N.length ds)=r at h4;refine⟨λz=>by rw[z]at h4;exact h4,λO' ρ' σ' H' S e=>?_,λO' ρ' σ' H' S e=>?_,λO' ρ' σ' H' S e=>?_,λd O' v H' e b dv=>?_,λO' ρ' σ' H' x S e=>?_⟩
   ·have e:(.ok .non:R D)=r:=e;subst e;exact h4 .non H' S.base.same (hV.mpr rfl)
   ·have e:(un:R D)=r:=e;subst e;exact h4.elim
   ·have e:(un:R D)=r:=e;subst e;exact h4.elim
   ·subst e;exact h4 v H' b.same (dv.mono (gJ b.sub))
   ·have e:(.error (some x):R D)=r:=e;subst e;exact By h4 S.base.same S.base.sub
theorem x8{x qual:Str}{st:RJ}{f:RG}{fd:SD}{N ps:au}{k:Nat}{B:bU}(F:ou K x qual st f fd)(b:Binds K fd ps [])(m:mg x=some (.ref f))(SC:cx N ps (aw st))(hb:BodyOk P w K mg base k N qual st f B):
  Callee P w K mg base (k+1) x ps (ao B ps.length N.length):=⟨f,fd,qe F SC hb,b,F.kp,m⟩
theorem sI{x qual:Str}{st:RJ}{f:RG}{fd:SD}{ps:au}(k:Nat)(F:ou K x qual st f fd)(b:Binds K fd ps [])(m:mg x=some (.ref f)):Callee P w K mg base k x ps (λ_=>un):=by
 have no:∀vs H Q E,¬xP K ps.length (λ_=>un) vs H Q E:=λvs H Q E ⟨O,ds,_,_,_,e⟩=>e;exact⟨f,fd,⟨λvs H Q E h=>absurd h (no vs H Q E),λA outer s H args us vs Q E _ _ _ _ h=>absurd h (no vs H Q E)⟩,b,F.kp,m⟩
end
theorem mF{K:Qw}{T:String}(h1:QQ K (.type "NoneType") (.type T)=some (T=="NoneType"))(h2:QQ K (.type "bool") (.type T)=some (T=="bool"||T=="int"))(h3:QQ K (.type "int") (.type T)=some (T=="int"))(h4:QQ K (.type "str") (.type T)=some (T=="str"))
  (h5:QQ K (.type "tuple") (.type T)=some (T=="tuple")) (h6:QQ K (.type "list") (.type T)=some (T=="list")):uj K T:=λd hd=>by
 cases d with
 |dct _ _=>cases hd
 |obj _ _ _=>cases hd
 |exc _ _ _=>cases hd
 |non=>exact h1
 |bl _=>exact h2
 |int _=>exact h3
 |str _=>exact h4
 |tup _=>exact h5
 |lst _=>exact h6
theorem zN{K:Qw}:uj K "int":=mF rfl rfl rfl rfl rfl rfl
theorem xD{K:Qw}:uj K "bool":=mF rfl rfl rfl rfl rfl rfl
theorem As{K:Qw}:uj K "str":=mF rfl rfl rfl rfl rfl rfl
theorem uc{K:Qw}:uj K "tuple":=mF rfl rfl rfl rfl rfl rfl
end TG
namespace TG
open PySem PySem.Spec L2
variable[aC]
section
variable{X:Cx}{a b c:RH}{fa fb fc:FX}{pos:Pos}
theorem Gd{r:V->Hp->VK->Prop}{g:D->bM}(s:Dy X.K r g):∀σ H Q,tF X (f1 g fa) σ H Q->LV r (tF X fa) σ H Q:=λσ H Q ⟨O,ρ,E,hF⟩=>⟨O,ρ,E,(fG.bind hF).imp λa hF x H1 s1 d1=>by
 obtain⟨d,e,q⟩:=fG.rO hF;exact s a d x O H1 Q (E.all.same s1) e d1 λv H2 s2 d2=>q v H2 (s1.trans s2) d2⟩
noncomputable def iu(g g':D->D->bM)(fa fb fc:FX):FX:=λρ=>(fa ρ).bind λx=>(fb ρ).bind λy=>(rO (g x y)).bind λz=>u9 z ((fc ρ).bind λw=>rO (g' y w))
theorem pY{r r':R2}{g g':D->D->bM}(s:de X.K r g)(s':de X.K r' g'):∀σ H Q,tF X (iu g g' fa fb fc) σ H Q->vt r r' (tF X fa) (tF X fb) (tF X fc) σ H Q:=λσ H Q ⟨O,ρ,E,hF⟩=>
 ⟨O,ρ,E,(fG.bind hF).imp fun x hF v1 H1 s1 d1=>⟨O,ρ,E.same s1,((fG.bind hF).mono s1).imp fun y hF v2 H2 s2 d2=>by
  obtain⟨z,e3,hF⟩:=fG.rO (fG.bind hF);refine s x y z v1 v2 O H2 _ (E.all.same (s1.trans s2)) e3 (d1.mono (cw s2)) d2 λv3 H3 s3 d3=>?_;cases z with
  |bl k=>
   refine⟨k,ia.mp d3,?_⟩;cases k with
   |false=>exact qH (hF _ H3 ((s1.trans s2).trans s3) (ia.mpr rfl))
   |true=>
    refine qs ⟨O,ρ,E.same ((s1.trans s2).trans s3),((fG.bind (show fG X σ O H ((fc ρ).bind λw=>rO (g' y w)) _ from hF)).mono ((s1.trans s2).trans s3)).imp λw hF v4 H4 s4 d4=>?_⟩;obtain⟨d,e5,q⟩:=fG.rO hF;exact s' y w d v2 v4 O H4 Q (E.all.same (((s1.trans s2).trans s3).trans s4)) e5 (d2.mono (cw (s3.trans s4))) d4 λv5 H5 s5 d5=>q v5 H5 ((((s1.trans s2).trans s3).trans s4).trans s5) d5
  |_=>exact hF.elim⟩⟩
noncomputable def Fq:D->bM
 |.int i=>some (.int (-i))
 |_=>none
noncomputable def jH(f:FX):FX:=f1 Fq f
noncomputable def M7:List D->bM
 |[.int i]=>if decide (i.natAbs.log2<1920)then some (.str (toString i))else none
 |_=>none
noncomputable def zt:D->bM
 |.str x=>if small x.length then some (.str (Txt.upper x))else none
 |_=>none
noncomputable def Fy(f:FX):FX:=f1 zt f
noncomputable def HD:D->bM
 |.lst xs=>some (.lst xs.reverse)
 |.tup xs=>some (.tup xs.reverse)
 |_=>none
noncomputable def KR(f:FX):FX:=f1 HD f
noncomputable def allB:List D->Option Bool
 |[]=>some true
 |.bl b::r=>(allB r).bind λc=>some (b&&c)
 |_=>none
noncomputable def ua:List D->bM
 |[.lst xs]=>(allB xs).bind λb=>some (.bl b)
 |_=>none
theorem tT:∀{xs:List D}{b:Bool},allB xs=some b->∃bs:cy,xs=bs.map .bl/\b=bs.all id
 |[],b,h=>by cases h;exact⟨[],rfl,rfl⟩
 |.bl x::r,b,h=>by
  obtain⟨c,e1,e2⟩:=bind_some (show((allB r).bind λc=>some (x&&c))=some b from h);cases e2;obtain⟨bs,e3,e4⟩:=tT e1;exact⟨x::bs,by rw[Nw,e3],by rw[Oa,e4];rfl⟩
 |.non::_,_,h=>by cases h
 |.int _::_,_,h=>by cases h
 |.str _::_,_,h=>by cases h
 |.tup _::_,_,h=>by cases h
 |.lst _::_,_,h=>by cases h
 |.dct _ _::_,_,h=>by cases h
 |.obj _ _ _::_,_,h=>by cases h
 |.exc _ _ _::_,_,h=>by cases h
theorem jP{K:Qw}{H:Hp}:∀{bs:cy}{vs:aH}{us:aU},aX K H (bs.map .bl) vs->Vals vs us->us=bs.map Value.bool
 |[],vs,us,h,r=>by
  rw[NY,cD]at h;subst h;cases r;rfl
 |b::bs,vs,us,h,r=>by
  rw[Nw,bH]at h;obtain⟨v,r',e,h1,h2⟩:=h;subst e;cases r with
  |cons q1 q2=>
   rw[ia]at h1;subst h1;cases q1;rw[Nw,jP h2 q2]
theorem range_all(bs:cy):((List.range bs.length).all λi=>(bs[i]?).getD true)=bs.all id:=by
 induction bs with
 |nil=>rfl
 |cons b bs ih=>
  rw[Nv,Oc,Oa,List.all_map,Oa,<-ih];rfl
theorem yM(hc:X.calm=true):gA X (.builtin "all") (Ew X.K ua):=by
 rintro pins s σ H xs us Q I r ⟨O,ds,d,hO,hd,hg,q⟩;unfold ua at hg;split at hg
 ·rename_i ys;obtain⟨bv,e1,e2⟩:=bind_some hg;cases e2;obtain⟨bs,eb,ev⟩:=tT e1;subst eb ev;obtain⟨v,evv,h1⟩:=hd.one;subst evv;obtain⟨p,vs,ep,g1,g2⟩:=cn.mp h1;subst ep;obtain⟨u,eu,ru⟩:=vals1 r;subst eu;cases ru;obtain⟨its,rv,pl,hz⟩:=I.list ((aO H O).seq g1);have ei:=jP g2 rv;have hl:=pl.isList;have hlt:p<s.heap.objs.size:=by obtain⟨_,e,_⟩:=hl;exact Rf e
  refine call_all_walk (Sg hl ?_);refine⟨s.heap.objs.size,[s.heap.objs.size,p],[s.heap.objs.size],its.toArray.size,_,_,λi=>(bs[i]?).getD true,rfl,Walks.list (A:=X.A.in1) (I.ok.hd hc) _ p (Nb hlt) its.toArray,
   ⟨⟨_,Rj _ rfl,rfl,rfl⟩,hl.push _⟩,λi v s' Q' E' hP hQ=>?_,λh' tk hk=>?_⟩
  ·have e:bs[i]?.map Value.bool=some v:=by
    rw[<-NM,<-ei]
    simpa using hP
   cases eb:bs[i]? with
   |none=>rw[eb]at e;cases e
   |some b=>
    rw[eb]at e;cases e;simp only[eb,OC]at hQ;exact R7 hQ
  ·have e:((List.range its.toArray.size).all λi=>(bs[i]?).getD true)=bs.all id:=by
    have:its.toArray.size=bs.length:=(by rw[Nt,ei,Nx]);rw[this];exact range_all bs
   rw[e];have k:∀b x,s.heap.get? b=some x->h'.get? b=some x:=λb x e=>hk b x (λhm=>by rw[List.mem_singleton.mp hm]at e;exact M9 _ (Rf e)) (Ri _ e);exact⟨.bl _,H,I.kept k,rfl,q _ H (aZ.refl H) (ia.mpr rfl)⟩
 ·cases hg
end
end TG
namespace ZI
open PySem PySem.Spec PyProof.Rows
section
variable{prog:RM}{w:RL}{A:RV}{E:RE->RK->Prop}{s:RK}
theorem uZ{it t:RG}{i:Nat}{its:Array RE}{x:RE}{Q:RE->RK->Prop}(hit:s.heap.IsTupleIter it t i)(ht:s.heap.IsTuple t its)(hx:its[i]?=some x)
  (hQ:∀g,g.IsTupleIter it t (i+1)->Rh it s.heap g->Q x {s with heap:=g}):RY (model prog w) A (Builtin.SmallTypes.nextOf (.ref it)) Q E s:=by
 obtain⟨ob,h1,h2,h3⟩:=id hit;obtain⟨ol,g1,_,n,g2⟩:=ht;unfold Builtin.SmallTypes.nextOf;refine Sd (SY (name:=Str.ofString "__next__") hit.typeIs F.slot_tuple_iterator_next (SZ F.slot_tuple_iterator_next hit.typeIs F.entry_tuple_iterator_next ?_ (F.args_tuple_iterator_next_1 _)));show RY _ _ (field (.ref it) 0 >>= _) _ _ s;refine Sd (SV h1 h3 (x:=.ref t) rfl ?_);show RY _ _ (if(Value.ref t==Value.none)=true then _ else _) _ _ s;rw[if_neg (show¬((Value.ref t==Value.none)=true)from λz=>Nn z)];show RY _ _ (field (.ref it) 1 >>= _) _ _ s;refine Sd (SV h1 h3 (x:=.int i 0) rfl ?_);show RY _ _ (seqItems? (.ref t) >>= _) _ _ s;refine Sd (Td g1 g2 ?_);simp only[NS,hx];refine Sd (wpAny_setField h1 h3 (by simp) (Sb ⟨x,rfl,Sb (hQ _ ⟨_,Rn _ h1 (Obj.isFreed_of_fields (Obj.data_mapFields h3 _)),(Obj.cls_mapFields ..).trans h2,by rw[Obj.data_mapFields h3];simp[rawInt]⟩ (Heap.SameBut.update ..))⟩))
theorem yj{it t:RG}{i:Nat}{its:Array RE}{Q:RE->RK->Prop}(hh:A.handled=none)(hit:s.heap.IsTupleIter it t i)(ht:s.heap.IsTuple t its)(hx:its[i]?=none)
  (hE:∀g e,Heap.ExtBut it s.heap g->(∃o,g.get? e=some o/\o.cls=.type "StopIteration")->E (.ref e) {s with heap:=g}):RY (model prog w) A (Builtin.SmallTypes.nextOf (.ref it)) Q E s:=by
 obtain⟨ob,h1,h2,h3⟩:=id hit;obtain⟨ol,g1,_,n,g2⟩:=ht;unfold Builtin.SmallTypes.nextOf;refine Sd (SY (name:=Str.ofString "__next__") hit.typeIs F.slot_tuple_iterator_next (SZ F.slot_tuple_iterator_next hit.typeIs F.entry_tuple_iterator_next ?_ (F.args_tuple_iterator_next_1 _)));show RY _ _ (field (.ref it) 0 >>= _) _ _ s;refine Sd (SV h1 h3 (x:=.ref t) rfl ?_);show RY _ _ (if(Value.ref t==Value.none)=true then _ else _) _ _ s;rw[if_neg (show¬((Value.ref t==Value.none)=true)from λz=>Nn z)];show RY _ _ (field (.ref it) 1 >>= _) _ _ s;refine Sd (SV h1 h3 (x:=.int i 0) rfl ?_);show RY _ _ (seqItems? (.ref t) >>= _) _ _ s;refine Sd (Td g1 g2 ?_);simp only[NS,hx];refine Sd (S8 (Sd (wpAny_setField h1 h3 (by simp) ?_)));show RY _ _ (newExc (.type "StopIteration") [] >>= _) _ _ _;refine Sd ?_;simp only[newExc,newTuple];refine Sd (S3 ?_ (by size_fits));refine Sd (m:=firstArgMember _ _) (Te (a:=Value.none) (by first|rfl|(simp only[firstArgMember];rfl)) ?_);refine S3 ?_ (by size_fits);simp only[raiseNew];refine Sd (wpAny_handled ?_)
 first|rw[show A.in1.handled=none from hh]|rw[hh]
 refine Sd (Sb (wpAny_throw ?_));exact hE _ _ (((Heap.SameBut.update ..).extBut.push _).push _) ⟨_,Rj _ rfl,rfl⟩
end
theorem HH{prog:RM}{w:RL}{A:RV}(hh:A.handled=none)(it t:RG)(hne:t≠it)(its:Array RE):Draws prog w A it [it,t] its.size (λi v=>its[i]?=some v) (λi h=>h.IsTupleIter it t i/\h.IsTuple t its)where
 live:=λi h ⟨⟨o,e,_⟩,_⟩=>⟨o,e⟩
 frame:=λi h h' ⟨x,y⟩ k=>⟨x.at λo e=>k it (by simp) o e,let ⟨o,e,r⟩:=y;⟨o,k t (by simp) o e,r⟩⟩
 item:=λi s Q E hi ⟨x,y⟩ hQ=>uZ x y (Array.getElem?_eq_getElem hi) λg hg hs=>hQ _ g s.toks (Array.getElem?_eq_getElem hi) ⟨hg,let ⟨o,e,r⟩:=y;⟨o,(hs.2 t hne).trans e,r⟩⟩ hs
 done:=λs Q E ⟨x,y⟩ hE=>yj hh x y (by simp) hE
structure Apart(z TI TO i1 i2:RG)(fp1 fp2:List RG):Prop where
 a1:TI≠z
 a2:TO≠z
 a3:TI≠TO
 b1:z∉fp1
 b2:TO∉fp1
 b3:i2∉fp1
 c1:z∉fp2
 c2:TO∉fp2
 c3:i1∉fp2
 d1:TI≠i1
 d2:TI≠i2
 e1:i1∈fp1
 e2:i2∈fp2
section
variable{prog:RM}{w:RL}{A:RV}{E:RE->RK->Prop}{s:RK}{z TI TO i1 i2:RG}{fp1 fp2:List RG}{n1 n2 i:Nat}{P1 P2:Nat->RE->Prop}{S1 S2:Nat->RN->Prop}{a b:RE}
theorem next_item{Q:RE->RK->Prop}(Ap:Apart z TI TO i1 i2 fp1 fp2)(D1:Draws prog w A i1 fp1 n1 P1 S1)(D2:Draws prog w A i2 fp2 n2 P2 S2)(hz:Tf s.heap z TI TO .none)(hTI:Tg s.heap TI (.ref i1) (.ref i2))(hTO:Tg s.heap TO a b)(st1:S1 i s.heap)(st2:S2 i s.heap)(l1:i<n1)(l2:i<n2)
  (hQ:∀ x y g tk,P1 i x->P2 i y->Tf g z TI TO (rawInt s.heap.objs.size)->Tg g TO x y->S1 (i+1) g->S2 (i+1) g->Tg g s.heap.objs.size x y->g.objs.size=s.heap.objs.size+1 ->
   (∀c o,c≠z->c≠TO->c≠i1->c≠i2->s.heap.get? c=some o->g.get? c=some o)->Q (.ref s.heap.objs.size) {s with heap:=g,toks:=tk}):
  RY (model prog w) A (Builtin.«zip.__next__» ⟨[.ref z],[]⟩) (λfin s'=>∃v,fin=.done (.ret v)/\Q v s') E s:=by
 have n1z:i1≠z:=λe=>Ap.b1 (e ▸ Ap.e1);have n2z:i2≠z:=λe=>Ap.c1 (e ▸ Ap.e2);have n1T:i1≠TO:=λe=>Ap.b2 (e ▸ Ap.e1);have n2T:i2≠TO:=λe=>Ap.c2 (e ▸ Ap.e2);show RY _ _ (field (.ref z) 2 >>= _) _ _ _;refine Sd (SV hz rfl (x:=.bool false) rfl ?_);show RY _ _ (field (.ref z) 3 >>= _) _ _ _;refine Sd (SV hz rfl (x:=.ref TI) rfl ?_);refine Sd (Td hTI rfl ?_);show RY _ _ (Builtin.SmallTypes.ownedTupleIsFree (.ref z) >>= _) _ _ _;refine Sd ?_;unfold Builtin.SmallTypes.ownedTupleIsFree;refine Sd (SV hz rfl (x:=.none) rfl (Sb ?_));simp only[if_true];refine Sd (S8 ?_);refine Sd (SV hz rfl (x:=.ref TO) rfl ?_);refine Sd (Th hz (by simp) λg1 hz1 k1=>?_);have hz1:Tf g1 z TI TO .ellipsis:=hz1;refine Sd ?_;simp only[List.zipIdx_cons,List.zipIdx_nil,N0,List.forIn_nil];refine Sd (Sd (Ti ?_));show RY _ _ (Builtin.SmallTypes.nextOf (.ref i1) >>= _) _ _ _;have q1:S1 i g1:=D1.frame _ _ _ st1 λb hb o e=>k1.extBut _ _ (λz'=>Ap.b1 (z' ▸ hb)) e;refine Sd (D1.item i {s with heap:=g1} _ _ l1 q1 λx g2 tk2 p1 q2 k2=>Sb ?_);have t2:Tg g2 TO a b:=k2.extBut _ _ n1T.symm (k1.extBut _ _ Ap.a2 hTO);refine Sd (Td t2 rfl ?_);refine Sd (Tj t2 λg3 t3 k3=>?_);have t3:Tg g3 TO x b:=t3;refine Sd (Tl (Sb ?_));refine Sd (Sd (Ti ?_));show RY _ _ (Builtin.SmallTypes.nextOf (.ref i2) >>= _) _ _ _;have q3:S2 i g3:=D2.frame _ _ _ st2 λb hb o e=>k3.extBut _ _ (λz'=>Ap.c2 (z' ▸ hb)) (k2.extBut _ _ (λz'=>Ap.c3 (z' ▸ hb)) (k1.extBut _ _ (λz'=>Ap.c1 (z' ▸ hb)) e));refine Sd (D2.item i {s with heap:=g3,toks:=tk2} _ _ l2 q3 λy g4 tk4 p2 q4 k4=>Sb ?_);have t4:Tg g4 TO x b:=k4.extBut _ _ n2T.symm t3;refine Sd (Td t4 rfl ?_);refine Sd (Tj t4 λg5 t5 k5=>?_);have t5:Tg g5 TO x y:=t5;refine Sd (Tl (Sb (Sb ?_)));refine Sd (Td t5 rfl ?_);refine Sd (wpAny_newTuple ?_);have hsz:g5.objs.size=s.heap.objs.size:=by rw[k5.1,k4.1,k3.1,k2.1,k1.1]
 have hz5:Tf g5 z TI TO .ellipsis:=k5.extBut _ _ Ap.a2.symm (k4.extBut _ _ n2z.symm (k3.extBut _ _ Ap.a2.symm (k2.extBut _ _ n1z.symm hz1)));have k15:∀c o,c≠z->c≠TO->c≠i1->c≠i2->s.heap.get? c=some o->g5.get? c=some o:=λc o c1 c2 c3 c4 e=>k5.extBut _ _ c2 (k4.extBut _ _ c4 (k3.extBut _ _ c2 (k2.extBut _ _ c3 (k1.extBut _ _ c1 e))));have r1:S1 (i+1) g5:=D1.frame _ _ _ q2 λb hb o e=>k5.extBut _ _ (λz'=>Ap.b2 (z' ▸ hb)) (k4.extBut _ _ (λz'=>Ap.b3 (z' ▸ hb)) (k3.extBut _ _ (λz'=>Ap.b2 (z' ▸ hb)) e));have r2:S2 (i+1) g5:=D2.frame _ _ _ q4 λb hb o e=>k5.extBut _ _ (λz'=>Ap.c2 (z' ▸ hb)) e;have lz:z<g5.objs.size:=Rf hz5;show RY _ _ (Builtin.SmallTypes.ownedTupleHandOut (.ref z) (.ref g5.objs.size) >>= _) _ _ _;refine Sd ?_;unfold Builtin.SmallTypes.ownedTupleHandOut;have hz6:Tf (g5.push {cls:=.type "tuple",data:=.seq #[x,y]}) z TI TO .ellipsis:=Ri _ hz5;refine Sd (Th hz6 (by simp) λg7 hz7 k7=>?_);have hz7:Tf g7 z TI TO (rawInt g5.objs.size):=hz7;refine Th hz7 (by simp) λg8 hz8 k8=>?_;have hz8:Tf g8 z TI TO (rawInt g5.objs.size):=hz8;have up:∀c o,c≠z->g5.get? c=some o->g8.get? c=some o:=λc o c1 e=>k8.extBut _ _ c1 (k7.extBut _ _ c1 (Ri _ e));have t8:Tg g8 g5.objs.size x y:=k8.extBut _ _ (Np lz) (k7.extBut _ _ (Np lz) (Rj _ rfl));have s8:g8.objs.size=g5.objs.size+1:=by rw[k8.1,k7.1,Rl]
 rw[hsz]at hz8 t8 s8;refine Sb ⟨_,rfl,?_⟩;show Q (.ref g5.objs.size) _;rw[hsz];exact hQ x y g8 tk4 p1 p2 hz8 (up _ _ Ap.a2 t5) (D1.frame _ _ _ r1 λb hb o e=>up b o (λz'=>Ap.b1 (z' ▸ hb)) e) (D2.frame _ _ _ r2 λb hb o e=>up b o (λz'=>Ap.c1 (z' ▸ hb)) e) t8 s8 λc o c1 c2 c3 c4 e=>up c o c1 (k15 c o c1 c2 c3 c4 e)
theorem next_end{Q:Fin->RK->Prop}(Ap:Apart z TI TO i1 i2 fp1 fp2)(D1:Draws prog w A i1 fp1 n1 P1 S1)(D2:Draws prog w A i2 fp2 n2 P2 S2)(hz:Tf s.heap z TI TO .none)(hTI:Tg s.heap TI (.ref i1) (.ref i2))(hTO:Tg s.heap TO a b)(st1:S1 i s.heap)(st2:S2 i s.heap)(hend:i=n1\/(i<n1/\i=n2))
  (hE:∀g e tk,(∀c o,c≠z->c≠TO->c≠i1->c≠i2->s.heap.get? c=some o->g.get? c=some o)->(∃o,g.get? e=some o/\o.cls=.type "StopIteration")->E (.ref e) {s with heap:=g,toks:=tk}):
  RY (model prog w) A (Builtin.«zip.__next__» ⟨[.ref z],[]⟩) Q E s:=by
 have n1z:i1≠z:=λe=>Ap.b1 (e ▸ Ap.e1);have n2z:i2≠z:=λe=>Ap.c1 (e ▸ Ap.e2);have n1T:i1≠TO:=λe=>Ap.b2 (e ▸ Ap.e1);show RY _ _ (field (.ref z) 2 >>= _) _ _ _;refine Sd (SV hz rfl (x:=.bool false) rfl ?_);show RY _ _ (field (.ref z) 3 >>= _) _ _ _;refine Sd (SV hz rfl (x:=.ref TI) rfl ?_);refine Sd (Td hTI rfl ?_);show RY _ _ (Builtin.SmallTypes.ownedTupleIsFree (.ref z) >>= _) _ _ _;refine Sd ?_;unfold Builtin.SmallTypes.ownedTupleIsFree;refine Sd (SV hz rfl (x:=.none) rfl (Sb ?_));simp only[if_true];refine Sd (S8 ?_);refine Sd (SV hz rfl (x:=.ref TO) rfl ?_);refine Sd (Th hz (by simp) λg1 hz1 k1=>?_);have hz1:Tf g1 z TI TO .ellipsis:=hz1;refine Sd ?_;simp only[List.zipIdx_cons,List.zipIdx_nil,N0,List.forIn_nil];refine Sd (Sd (Ti ?_));show RY _ _ (Builtin.SmallTypes.nextOf (.ref i1) >>= _) _ _ _;have q1:S1 i g1:=D1.frame _ _ _ st1 λb hb o e=>k1.extBut _ _ (λz'=>Ap.b1 (z' ▸ hb)) e;rcases hend with hend|⟨l1,hend⟩
 ·subst hend;refine Sd (D1.done {s with heap:=g1} _ _ q1 λg2 e k2 he=>?_);obtain⟨oe,hoe,hce⟩:=he;have hz2:Tf g2 z TI TO .ellipsis:=k2 _ _ n1z.symm hz1;have hez:e≠z:=λx=>by rw[x,hz2]at hoe;cases hoe;simp at hce
  exact Th hz2 (by simp) λg3 _ k3=>hE g3 e s.toks (λc o c1 _ c3 _ x=>k3.extBut _ _ c1 (k2 _ _ c3 (k1.extBut _ _ c1 x))) ⟨oe,k3.extBut _ _ hez hoe,hce⟩
 ·refine Sd (D1.item i {s with heap:=g1} _ _ l1 q1 λx g2 tk2 p1 q2 k2=>Sb ?_);have t2:Tg g2 TO a b:=k2.extBut _ _ n1T.symm (k1.extBut _ _ Ap.a2 hTO);refine Sd (Td t2 rfl ?_);refine Sd (Tj t2 λg3 t3 k3=>?_);refine Sd (Tl (Sb ?_));refine Sd (Sd (Ti ?_));show RY _ _ (Builtin.SmallTypes.nextOf (.ref i2) >>= _) _ _ _;have q3:S2 i g3:=D2.frame _ _ _ st2 λb hb o e=>k3.extBut _ _ (λz'=>Ap.c2 (z' ▸ hb)) (k2.extBut _ _ (λz'=>Ap.c3 (z' ▸ hb)) (k1.extBut _ _ (λz'=>Ap.c1 (z' ▸ hb)) e));subst hend;refine Sd (D2.done {s with heap:=g3,toks:=tk2} _ _ q3 λg4 e k4 he=>?_);obtain⟨oe,hoe,hce⟩:=he;have hz4:Tf g4 z TI TO .ellipsis:=k4 _ _ n2z.symm (k3.extBut _ _ Ap.a2.symm (k2.extBut _ _ n1z.symm hz1));have hez:e≠z:=λx=>by rw[x,hz4]at hoe;cases hoe;simp at hce
  exact Th hz4 (by simp) λg5 _ k5=>hE g5 e tk2 (λc o c1 c2 c3 c4 x=>k5.extBut _ _ c1 (k4 _ _ c4 (k3.extBut _ _ c2 (k2.extBut _ _ c3 (k1.extBut _ _ c1 x))))) ⟨oe,k5.extBut _ _ hez hoe,hce⟩
end
noncomputable def SQ(b:Bool)(h:RN)(l:RG)(xs:Array RE):Prop:=if b then h.IsList l xs else h.IsTuple l xs
noncomputable def SI(b:Bool)(h:RN)(i l:RG)(k:Nat):Prop:=if b then h.IsListIter i l k else h.IsTupleIter i l k
noncomputable def Jq(b:Bool):String:=if b then"list_iterator"else"tuple_iterator"
theorem SQ.keep{b:Bool}{h h':RN}{l:RG}{xs:Array RE}(x:SQ b h l xs)(k:∀o,h.get? l=some o->h'.get? l=some o):SQ b h' l xs:=by
 cases b with
 |true=>exact Heap.IsList.at x k
 |false=>obtain⟨o,e,r⟩:=(show h.IsTuple l xs from x);exact(show h'.IsTuple l xs from⟨o,k o e,r⟩)
theorem SI.keep{b:Bool}{h h':RN}{i l:RG}{n:Nat}(x:SI b h i l n)(k:∀o,h.get? i=some o->h'.get? i=some o):SI b h' i l n:=by
 cases b with
 |true=>exact Heap.IsListIter.at x k
 |false=>exact Heap.IsTupleIter.at x k
theorem SQ.lt{b:Bool}{h:RN}{l:RG}{xs:Array RE}(x:SQ b h l xs):l<h.objs.size:=by
 cases b with
 |true=>obtain⟨o,e,_⟩:=(show h.IsList l xs from x);exact Rf e
 |false=>obtain⟨o,e,_⟩:=(show h.IsTuple l xs from x);exact Rf e
theorem SI.get{b:Bool}{h:RN}{i l:RG}{n:Nat}(x:SI b h i l n):∃o,h.get? i=some o/\∀v,o.data≠.cell v:=by
 cases b with
 |true=>obtain⟨o,e,_,d⟩:=(show h.IsListIter i l n from x);exact⟨o,e,λv z=>by rw[d]at z;cases z⟩
 |false=>obtain⟨o,e,_,d⟩:=(show h.IsTupleIter i l n from x);exact⟨o,e,λv z=>by rw[d]at z;cases z⟩
theorem SI.new{b:Bool}{h:RN}{l:RG}:SI b (h.push {cls:=.type (Jq b),data:=.fields #[.ref l,.int 0 0]}) h.objs.size l 0:=by
 cases b with
 |true=>exact⟨_,Rj _ rfl,rfl,rfl⟩
 |false=>exact⟨_,Rj _ rfl,rfl,rfl⟩
theorem om{b:Bool}{prog:RM}{w:RL}{A:RV}{E:RE->RK->Prop}{s:RK}{l:RG}{xs:Array RE}{Q:RE->RK->Prop}(h:SQ b s.heap l xs)
  (hQ:Q (.ref s.heap.objs.size) {s with heap:=s.heap.push {cls:=.type (Jq b),data:=.fields #[.ref l,.int 0 0]}}):RY (model prog w) A (pyIter (.ref l)) Q E s:=by
 cases b with
 |true=>exact Sg h hQ
 |false=>exact wpAny_pyIter_tuple h hQ
theorem jn{prog:RM}{w:RL}{A:RV}(b:Bool)(hh:A.handled=none)(it l:RG)(hne:l≠it)(its:Array RE):Draws prog w A it [it,l] its.size (λi v=>its[i]?=some v) (λi h=>SI b h it l i/\SQ b h l its):=by
 cases b with
 |true=>exact Draws.list hh it l hne its
 |false=>exact HH hh it l hne its
noncomputable abbrev yN(b1:Bool)(h:RN)(l1:RG):RN:=h.push {cls:=.type (Jq b1),data:=.fields #[.ref l1,.int 0 0]}
noncomputable abbrev HX(b1 b2:Bool)(h:RN)(l1 l2:RG):RN:=(yN b1 h l1).push {cls:=.type (Jq b2),data:=.fields #[.ref l2,.int 0 0]}
noncomputable abbrev JE(b1 b2:Bool)(h:RN)(l1 l2:RG):RN:=(HX b1 b2 h l1 l2).push {cls:=.type "tuple",data:=.seq #[.ref h.objs.size,.ref (yN b1 h l1).objs.size]}
noncomputable abbrev Jw(b1 b2:Bool)(h:RN)(l1 l2:RG):RN:=(JE b1 b2 h l1 l2).push {cls:=.type "tuple",data:=.seq #[.none,.none]}
noncomputable abbrev Ez(b1 b2:Bool)(h:RN)(l1 l2:RG):RN:=(Jw b1 b2 h l1 l2).push {cls:=.type "zip",data:=.fields #[.none,.bool false,.bool false,.ref (HX b1 b2 h l1 l2).objs.size,.ref (JE b1 b2 h l1 l2).objs.size]}
theorem AD(b1 b2:Bool)(l1 l2:RG)(xs ys:Array RE):Meets (Builtin.«zip.__new__» ⟨[.type "zip",.ref l1,.ref l2],[]⟩) (λ_ R s=>SQ b1 s.heap l1 xs/\SQ b2 s.heap l2 ys/\R (.ok (.ret (.ref (Jw b1 b2 s.heap l1 l2).objs.size))) {s with heap:=Ez b1 b2 s.heap l1 l2}):=
 .of_wp λprog w A R s h=>by
  obtain⟨hp,g,d,tk,os⟩:=s;obtain⟨q1,q2,h⟩:=h;have hsub:=sub_zip;have e1:SQ b1 (Shared.heap ⟨hp,g,d,tk,os⟩) l1 xs:=q1;have e2:SQ b2 (Shared.heap ⟨yN b1 hp l1,g,d,tk,os⟩) l2 ys:=q2.keep λo e=>Ri _ e
  wp_walk using om e1,om e2
  exact⟨_,rfl,h⟩
theorem Az{prog:RM}{w:RL}{A:RV}{E:RE->RK->Prop}{s:RK}{b1 b2:Bool}{l1 l2:RG}{xs ys:Array RE}{Q:RE->RK->Prop}(h1:SQ b1 s.heap l1 xs)(h2:SQ b2 s.heap l2 ys)
  (h:∀ g,Tf g (s.heap.objs.size+4) (s.heap.objs.size+2) (s.heap.objs.size+3) .none->Tg g (s.heap.objs.size+2) (.ref s.heap.objs.size) (.ref (s.heap.objs.size+1))->Tg g (s.heap.objs.size+3) .none .none->SI b1 g s.heap.objs.size l1 0->SI b2 g (s.heap.objs.size+1) l2 0 ->
   (∀c o,s.heap.get? c=some o->g.get? c=some o)->Q (.ref (s.heap.objs.size+4)) {s with heap:=g}):RY (model prog w) A (call (.type "zip") [.ref l1,.ref l2]) Q E s:=by
 refine callType_new F.called_zip (by decide) (F.typeCall_zip_2 _ _) (F.newCall_zip_2 _ _) (λobj=>F.args_object_init_3 obj _ _) F.entry_zip_new (AD b1 b2 l1 l2 xs ys) ⟨h1,h2,?_⟩;have z1:(yN b1 s.heap l1).objs.size=s.heap.objs.size+1:=Rl ..
 have z2:(HX b1 b2 s.heap l1 l2).objs.size=s.heap.objs.size+2:=by rw[Rl,z1]
 have z3:(JE b1 b2 s.heap l1 l2).objs.size=s.heap.objs.size+3:=by rw[Rl,z2]
 have z4:(Jw b1 b2 s.heap l1 l2).objs.size=s.heap.objs.size+4:=by rw[Rl,z3]
 have u1:∀c o,(yN b1 s.heap l1).get? c=some o->(Ez b1 b2 s.heap l1 l2).get? c=some o:=λc o e=>Ri _ (Ri _ (Ri _ (Ri _ e)));have u2:∀c o,(HX b1 b2 s.heap l1 l2).get? c=some o->(Ez b1 b2 s.heap l1 l2).get? c=some o:=λc o e=>Ri _ (Ri _ (Ri _ e));have g5:(Ez b1 b2 s.heap l1 l2).get? (Jw b1 b2 s.heap l1 l2).objs.size=some _:=Rj _ rfl;have g4:(Ez b1 b2 s.heap l1 l2).get? (JE b1 b2 s.heap l1 l2).objs.size=some _:=Ri _ (Rj _ rfl);have g3:(Ez b1 b2 s.heap l1 l2).get? (HX b1 b2 s.heap l1 l2).objs.size=some _:=Ri _ (Ri _ (Rj _ rfl));have g2:SI b2 (Ez b1 b2 s.heap l1 l2) (yN b1 s.heap l1).objs.size l2 0:=SI.keep (SI.new (h:=yN b1 s.heap l1)) λo e=>u2 _ o e;have g1:SI b1 (Ez b1 b2 s.heap l1 l2) s.heap.objs.size l1 0:=SI.keep SI.new λo e=>u1 _ o e;show _/\_;rw[z2,z3,z4]at g5;rw[z1,z2]at g3;rw[z3]at g4;rw[z1]at g2;rw[z4];exact⟨⟨_,g5,rfl⟩,h _ g5 g3 g4 g1 g2 λc o e=>u1 c o (Ri _ e)⟩
theorem xV(b : Bool)(l : RG)(xs : Array RE): Meets (Builtin.«enumerate.__new__» ⟨[.type "enumerate", .ref l], []⟩) (fun _ R s => SQ b s.heap l xs /\
      R (.ok (.ret (.ref (yN b s.heap l).objs.size))) {s with heap:=(yN b s.heap l).push {cls:=.type "enumerate",data:=.fields #[.none,.bool false,.ref s.heap.objs.size,rawInt 0,.none,.none]}}):=
  .of_wp λprog w A R s h=>by
    obtain⟨hp,g,d,tk,os⟩:=s;obtain⟨q1,h⟩:=h;have hsub:=sub_enumerate;have e1:SQ b (Shared.heap ⟨hp,g,d,tk,os⟩) l xs:=q1
    wp_walk using om e1
    refine wpAny_stack_any λst=>Sb ?_;split
    · rename_i c _ _ _ _ _
      cases(c==Value.type "enumerate")<;>(wp_walk using om e1;exact⟨_,rfl,h⟩)
    · wp_walk using om e1
      exact⟨_,rfl,h⟩
end ZI
namespace TG
open PySem PySem.Spec L2 ZI
variable[aC]
section
variable{X:Cx}{pins:bn}{σ:St}{H:Hp}{s:RK}{h':RN}
theorem Inv.turnedL{ch:aF}{p:RG}{o:HO}{t':Nat}(I:Inv X pins σ H s)(hf:∀b∈ch,oJ X pins H b)(k:∀b u,b∉ch->s.heap.get? b=some u->h'.get? b=some u)(hp:s.heap.objs.size<=p)(new:dE X.prog X.w (upd H p o) h' p o):
  Inv X pins σ (upd H p o) {s with heap:=h',toks:=t'}:=by
 have hn:=I.hok.fresh hp;have nch:∀b u,H b=some u->b∉ch:=λb u e z=>by rw[(hf b z).1]at e;cases e
 refine I.step (g':=s.gens) (d':=s.drawn) (ch:=ch) (λb hb=>?_) (λb o _ _ hc e _=>k b o hc e) (λb o _ _ hc e _=>⟨o.slots,k b o hc e⟩) (λb u _ q n=>by rw[ay (Nb (M8 (Rf q) hp))];exact n)
  (λb o hc e=>⟨o,k b o hc e⟩) (λb xs q=>by rw[ay (aQ q hn)];exact q) (λb u xs q=>by rw[ay (aQ q hn)];exact q) (λb ps q=>⟨#[],by rw[ay (aQ q hn),q];simp⟩) (λm hm=>?_) (λb u e=>?_) I.bare
 ·obtain⟨_,f1,_,f3,f4,f5⟩:=hf b hb;exact⟨f3,f1,f4,f5⟩
 ·obtain⟨o,es,ep,ho,r⟩:=hm;exact⟨o,es,ep,k _ o (λz=>(hf _ z).2.1 rfl) ho,r⟩
 ·by_cases hb:b=p
  ·subst hb;rw[aK]at e;cases e;exact new
  ·rw[ay hb]at e;refine(I.hok b u e).stay (λc v hc q=>k c v ?_ q) (λc q=>by rw[ay (aQ q hn)];exact q) λc xs q=>by rw[ay (aQ q hn)];exact q
   rcases hc with z|z
   ·rw[z];exact nch b u e
   ·exact nch c _ z
theorem Inv.turned0{ch:aF}{t':Nat}(I:Inv X pins σ H s)(hf:∀b∈ch,oJ X pins H b)(k:∀b u,b∉ch->s.heap.get? b=some u->h'.get? b=some u):Inv X pins σ H {s with heap:=h',toks:=t'}:=by
 have nch:∀b u,H b=some u->b∉ch:=λb u e z=>by rw[(hf b z).1]at e;cases e
 refine I.step (g':=s.gens) (d':=s.drawn) (ch:=ch) (λb hb=>?_) (λb o _ _ hc e _=>k b o hc e) (λb o _ _ hc e _=>⟨o.slots,k b o hc e⟩) (λ_ _ _ _ n=>n)
  (λb o hc e=>⟨o,k b o hc e⟩) (λ_ _ e=>e) (λ_ _ _ e=>e) (λb ps e=>⟨#[],by rw[e];simp⟩) (λm hm=>?_) (λb u e=>?_) I.bare
 ·obtain⟨_,f1,_,f3,f4,f5⟩:=hf b hb;exact⟨f3,f1,f4,f5⟩
 ·obtain⟨o,es,ep,ho,r⟩:=hm;exact⟨o,es,ep,k _ o (λz=>(hf _ z).2.1 rfl) ho,r⟩
 ·refine(I.hok b u e).stay (λc v hc q=>k c v ?_ q) (λ_ q=>q) λ_ _ q=>q;rcases hc with z|z
  ·rw[z];exact nch b u e
  ·exact nch c _ z
end
noncomputable def SX(K:Qw)(b:Bool)(H:Hp)(a:RG)(xs:aH):Prop:=if b then jR K H a xs else lZ K H a xs
theorem SX.same{K:Qw}{b:Bool}{H H':Hp}{a:RG}{xs:aH}(e:aZ H H')(h:SX K b H a xs):SX K b H' a xs:=by
 cases b with
 |true=>exact e.seq (show jR K H a xs from h)
 |false=>exact xg e (show lZ K H a xs from h)
section
variable{X:Cx}{pins:bn}{σ:St}{H:Hp}{s:RK}
theorem Inv.sx(I:Inv X pins σ H s){b:Bool}{a:RG}{xs:aH}(h:SX X.K b H a xs):∃its:aU,Vals xs its/\SQ b s.heap a its.toArray/\xs.length<=RO:=by
 cases b with
 |true=>obtain⟨its,r,p,z⟩:=I.list (show jR X.K H a xs from h);exact⟨its,r,p.isList,z⟩
 |false=>obtain⟨its,r,p,z⟩:=I.tuple (show lZ X.K H a xs from h);exact⟨its,r,p,z⟩
theorem Inv.sx_inj(I:Inv X pins σ H s){b:Bool}{a:RG}{xs ys:aH}(h:SX X.K b H a xs)(h':SX X.K b H a ys):xs=ys:=by
 cases b with
 |true=>exact I.list_inj h h'
 |false=>exact I.tuple_inj h h'
end
noncomputable def LY(K:Qw)(b1 b2:Bool)(a1 a2:RG):It:=
  ⟨fun i H=>∃ xs ys,SX K b1 H a1 xs/\SX K b2 H a2 ys/\i < xs.length/\i < ys.length,
   λi H v H'=>∃p x y,v=.ref p/\H p=none/\H'=upd H p (.tup [x,y])/\(∀xs,SX K b1 H a1 xs->xs[i]?=some x)/\∀ys,SX K b2 H a2 ys->ys[i]?=some y,
   λi H=>∃xs ys,SX K b1 H a1 xs/\SX K b2 H a2 ys/\(i=xs.length\/(i<xs.length/\i=ys.length))⟩
theorem zB{P:RM}{w:RL}{K:Qw}{es:bA}{k:Nat}{pos:Pos}{b1 b2:Bool}{a1 a2 z TI TO i1 i2:RG}(Ap:Apart z TI TO i1 i2 [i1,a1] [i2,a2])(n1:a1≠i1)(n2:a2≠i2)(n3:z≠i1)(n4:z≠i2):Turn P w K (.Tuple es k pos) (LY K b1 b2 a1 a2) [z,TI,TO,i1,i2] z
  (λi h=>Tf h z TI TO .none/\Tg h TI (.ref i1) (.ref i2)/\(∃a b,Tg h TO a b)/\SI b1 h i1 a1 i/\SI b2 h i2 a2 i)where
 mem:=by simp
 obj:=λi h ⟨hz,hI,⟨a,b,hO⟩,s1,s2⟩ c hc=>by
  simp only[OD,OG,or_false]at hc;rcases hc with rfl|rfl|rfl|rfl|rfl
  ·exact⟨_,hz,λv q=>by cases q⟩
  ·exact⟨_,hI,λv q=>by cases q⟩
  ·exact⟨_,hO,λv q=>by cases q⟩
  ·exact s1.get
  ·exact s2.get
 keep:=λi h h' ⟨hz,hI,⟨a,b,hO⟩,s1,s2⟩ kp=>⟨kp z (by simp) _ hz,kp TI (by simp) _ hI,⟨a,b,kp TO (by simp) _ hO⟩,s1.keep λo e=>kp i1 (by simp) o e,s2.keep λo e=>kp i2 (by simp) o e⟩
 item:=by
  rintro X hP hw hK hc i pins s σ H E I hf ⟨hz,hI,⟨a,b,hO⟩,s1,s2⟩ hg;subst hP hw hK;obtain⟨xs,ys,g1,g2,l1,l2⟩:=hg;obtain⟨its1,r1,q1,z1⟩:=Inv.sx I g1;obtain⟨its2,r2,q2,z2⟩:=Inv.sx I g2;have hh:X.A.in1.handled=none:=I.ok.hd hc;have hT:s.TypeIs (.ref z) "zip":=⟨_,hz,rfl⟩
  unfold pyNext;refine Sd (Tn (SY (name:=Str.ofString "__next__") hT F.slot_zip_next (SZ F.slot_zip_next hT F.entry_zip_next
   (next_item Ap (jn (A:=X.A.in1) b1 hh i1 a1 n1 its1.toArray) (jn (A:=X.A.in1) b2 hh i2 a2 n2 its2.toArray) hz hI hO ⟨s1,q1⟩ ⟨s2,q2⟩ (by rw[Nt,<-r1.length];exact l1) (by rw[Nt,<-r2.length];exact l2) λu v g tk p1 p2 hz' hO' t1 t2 hp sz kp=>?_) (F.args_zip_next_1 _))))
  have e1:its1[i]?=some u:=by simpa using p1
  have e2:its2[i]?=some v:=by simpa using p2
  have hx:∃x,xs[i]?=some x/\RelV x u:=by
   obtain⟨u',hu,ru⟩:=r1.get (i:=i) (x:=xs[i]) (by simp[l1]);rw[e1]at hu;cases hu;exact⟨xs[i],by simp[l1],ru⟩
  have hy:∃y,ys[i]?=some y/\RelV y v:=by
   obtain⟨u',hu,ru⟩:=r2.get (i:=i) (x:=ys[i]) (by simp[l2]);rw[e2]at hu;cases hu;exact⟨ys[i],by simp[l2],ru⟩
  obtain⟨x,ex,rx⟩:=hx;obtain⟨y,ey,ry⟩:=hy;refine Sb ⟨_,rfl,?_⟩;refine wpAny_letOwnedTupleGo_zip hz' λg' hz2 sb=>?_;have hpz:s.heap.objs.size≠z:=Np (Rf hz);have hp':Tg g' s.heap.objs.size u v:=sb.extBut _ _ hpz hp;have I':Inv X pins σ (upd H s.heap.objs.size (.tup [x,y])) {s with heap:=g',toks:=tk}:=Inv.turnedL (ch:=[z,TI,TO,i1,i2]) I hf (λc o hc e=>by
   simp only[OD,OG,or_false,not_or]at hc;exact sb.extBut _ _ hc.1 (kp c o hc.1 hc.2.2.1 hc.2.2.2.1 hc.2.2.2.2 e)) (Nq _) ⟨by show 2<=RO;decide,[u,v],.cons rx (.cons ry .nil),_,hp',rfl,_,rfl⟩
  have fr:H s.heap.objs.size=none:=I.fresh;have ne:∀c∈[z,TI,TO,i1,i2],c≠s.heap.objs.size:=λc hc e=>by
   simp only[OD,OG,or_false]at hc;rcases hc with rfl|rfl|rfl|rfl|rfl
   ·exact hpz e.symm
   ·exact absurd (Rf hI) (by rw[e];exact M9 _)
   ·exact absurd (Rf hO) (by rw[e];exact M9 _)
   ·obtain⟨o,q,_⟩:=s1.get;exact absurd (Rf q) (by rw[e];exact M9 _)
   ·obtain⟨o,q,_⟩:=s2.get;exact absurd (Rf q) (by rw[e];exact M9 _)
  refine⟨.ref s.heap.objs.size,_,I',rfl,⟨_,x,y,rfl,fr,rfl,λxs' h=>by rw[Inv.sx_inj I h g1];exact ex,λys' h=>by rw[Inv.sx_inj I h g2];exact ey⟩,⟨hz2,?_,⟨u,v,sb.extBut _ _ Ap.a2 hO'⟩,?_,?_⟩,λc hc=>by rw[ay (ne c hc)];exact(hf c hc).1⟩
  ·exact sb.extBut _ _ Ap.a1 (kp TI _ Ap.a1 Ap.a3 Ap.d1 Ap.d2 hI)
  ·exact t1.1.keep λo e=>sb.extBut _ _ n3.symm e
  ·exact t2.1.keep λo e=>sb.extBut _ _ n4.symm e
 done:=by
  rintro X hP hw hK hc i pins s σ H E I hf ⟨hz,hI,⟨a,b,hO⟩,s1,s2⟩ hg;subst hP hw hK;obtain⟨xs,ys,g1,g2,hl⟩:=hg;obtain⟨its1,r1,q1,z1⟩:=Inv.sx I g1;obtain⟨its2,r2,q2,z2⟩:=Inv.sx I g2;have hh:X.A.in1.handled=none:=I.ok.hd hc;have hT:s.TypeIs (.ref z) "zip":=⟨_,hz,rfl⟩
  unfold pyNext;refine Sd (Tn (SY (name:=Str.ofString "__next__") hT F.slot_zip_next (SZ F.slot_zip_next hT F.entry_zip_next
   (next_end (i:=i) Ap (jn (A:=X.A.in1) b1 hh i1 a1 n1 its1.toArray) (jn (A:=X.A.in1) b2 hh i2 a2 n2 its2.toArray) hz hI hO ⟨s1,q1⟩ ⟨s2,q2⟩ (by rw[Nt,Nt,<-r1.length,<-r2.length];exact hl) λg e tk kp he=>?_) (F.args_zip_next_1 _))))
  obtain⟨o,ho,hce⟩:=he;refine Sd (wpAny_isInstance (T:="StopIteration") (b:=true) ⟨o,ho,hce⟩ isSubtype_stop ?_);refine Sb ⟨rfl,Inv.turned0 (ch:=[z,TI,TO,i1,i2]) I hf λc o hc e=>?_⟩;simp only[OD,OG,or_false,not_or]at hc;exact kp c o hc.1 hc.2.2.1 hc.2.2.2.1 hc.2.2.2.2 e
 self:=λ_ _ _ _ _ ⟨hz,_⟩ h=>wpAny_pyIter_zip hz h
noncomputable def Cp:D->Option (Bool×List D)
 |.lst xs=>some (true,xs)
 |.tup xs=>some (false,xs)
 |_=>none
theorem nq{K:Qw}{H:Hp}{d:D}{b:Bool}{xs:List D}{v:V}(e:Cp d=some (b,xs))(h:cz K H d v):∃a vs,v=.ref a/\SX K b H a vs/\aX K H xs vs:=by
 cases d with
 |lst ys=>cases e;exact cn.mp h
 |tup ys=>cases e;obtain⟨a,vs,e1,e2,e3⟩:=b7.mp h;exact⟨a,vs,e1,lZ.of e2,e3⟩
 |_=>cases e
noncomputable def ka:List D->List D->List D
 |x::xs,y::ys=>.tup [x,y]::ka xs ys
 |_,_=>[]
theorem je:∀xs ys:List D,(ka xs ys).length=min xs.length ys.length
 |[],_=>by simp[ka]
 |_::_,[]=>by simp[ka]
 |x::xs,y::ys=>by
  rw[ka,Nv,je xs ys,Nv,Nv];omega
theorem nF:∀{xs ys:List D}{i:Nat}{d:D},(ka xs ys)[i]?=some d->∃x y,xs[i]?=some x/\ys[i]?=some y/\d=.tup [x,y]
 |[],_,i,d,h=>by simp[ka]at h
 |_::_,[],i,d,h=>by simp[ka]at h
 |x::xs,y::ys,0,d,h=>by
  rw[ka,OH]at h;cases h;exact⟨x,y,rfl,rfl,rfl⟩
 |x::xs,y::ys,i+1,d,h=>by
  rw[ka,OI]at h;obtain⟨a,b,h1,h2,h3⟩:=nF h;exact⟨a,b,by rw[OI];exact h1,by rw[OI];exact h2,h3⟩
theorem AQ{K:Qw}{Hd:Hp}{b1 b2:Bool}{a1 a2:RG}{ds es:List D}{vs ws:aH}(h1:SX K b1 Hd a1 vs)(g1:aX K Hd ds vs)(h2:SX K b2 Hd a2 ws)(g2:aX K Hd es ws):Walk K Hd (LY K b1 b2 a1 a2) (ka ds es):=λHn O' i hO sm=>
  have s':aZ Hd Hn:=sm.trans (aO Hn O')
  ⟨fun d e=>by
    obtain⟨x,y,e1,e2,rfl⟩:=nF e;have l1:i<ds.length:=(List.getElem?_eq_some_iff.mp e1).1;have l2:i<es.length:=(List.getElem?_eq_some_iff.mp e2).1;obtain⟨v,ev,dv⟩:=g1.get e1;obtain⟨w,ew,dw⟩:=g2.get e2;refine⟨⟨vs,ws,h1.same s',h2.same s',by rw[<-g1.length];exact l1,by rw[<-g2.length];exact l2⟩,λu H2 ⟨p,x',y',eu,hp,eH,q1,q2⟩=>?_⟩;have z1:=q1 vs (h1.same s');rw[ev]at z1;cases z1;have z2:=q2 ws (h2.same s');rw[ew]at z2;cases z2;subst eH eu;exact⟨cJ hp _,eA hO hp (bH.mpr ⟨v,_,rfl,dv.mono sm,bH.mpr ⟨w,_,rfl,dw.mono sm,cD.mpr rfl⟩⟩)⟩,
   λhl=>by
    rw[je]at hl;refine⟨vs,ws,h1.same s',h2.same s',?_⟩;rw[<-g1.length,<-g2.length]
    omega⟩
noncomputable def xE:List D->Option (List D)
 |[a,b]=>(Cp a).bind λx=>(Cp b).bind λy=>some (ka x.2 y.2)
 |_=>none
noncomputable def xM(f:aW):aW:=λρ=>(f ρ).bind λds=>rO (xE ds)
section
variable{X:Cx}
theorem GI{a b c:RG}(h1:a≠b)(h2:a≠c):a∉[b,c]:=λh=>by
 rcases List.mem_cons.mp h with z|z
 ·exact h1 z
 ·exact h2 (List.mem_singleton.mp z)
theorem yv{n a1 a2:RG}(h1:a1<n)(h2:a2<n):Apart (n+4) (n+2) (n+3) n (n+1) [n,a1] [n+1,a2]:=by
 have lt:∀{a b:Nat},a<b->(b:RG)≠(a:RG):=λh=>Np h;have lt':∀{a b:Nat},a<b->(a:RG)≠(b:RG):=λh=>Nb h;have g:∀k:Nat,a1<n+k:=λk=>M8 h1 (OJ _ _);have g':∀k:Nat,a2<n+k:=λk=>M8 h2 (OJ _ _);have p:∀{j k:Nat},j<k->n+j<n+k:=λh=>OL h n;have p0:∀{k:Nat},0<k->n<n+k:=λh=>OM h;exact⟨lt' (p (by decide)),lt' (p (by decide)),lt' (p (by decide)),GI (lt (p0 (by decide))) (lt (g 4)),GI (lt (p0 (by decide))) (lt (g 3)),GI (lt (p0 (by decide))) (lt (g 1)),
  GI (lt (p (by decide))) (lt (g' 4)),GI (lt (p (by decide))) (lt (g' 3)),GI (lt' (p0 (by decide))) (lt h2),lt (p0 (by decide)),lt (p (by decide)),Nh,Nh⟩
theorem HF{pins:bn}{s:RK}{σ:St}{H:Hp}{O:aF}{es:bA}{k:Nat}{tpos:Pos}{ds r:List D}{vs:aH}{us:aU}{RR:It->Hp->Prop}(I:Inv X pins σ H s)(hc:xE ds=some r)(d1:aX X.K (hid H O) ds vs)(rv:Vals vs us)(q:∀J,Walk X.K (hid H O) J r->RR J H):
  RY (model X.prog X.w) X.A (call (.type "zip") us) (λv s1=>RY (model X.prog X.w) X.A (pyIter v) (PIE X pins σ (.Tuple es k tpos) RR) X.xe s1) X.xe s:=by
 unfold xE at hc;split at hc
 ·rename_i a b;obtain⟨⟨b1,xs⟩,e1,hc⟩:=bind_some hc;obtain⟨⟨b2,ys⟩,e2,hc⟩:=bind_some hc;cases hc;obtain⟨va,vb,rfl,da,db⟩:=d1.two;obtain⟨u1,u2,rfl,r1,r2⟩:=vals2 rv;obtain⟨a1,ws1,rfl,x1,y1⟩:=nq e1 da;obtain⟨a2,ws2,rfl,x2,y2⟩:=nq e2 db;cases r1;cases r2;obtain⟨its1,rr1,q1,_⟩:=Inv.sx I (x1.same (aO H O));obtain⟨its2,rr2,q2,_⟩:=Inv.sx I (x2.same (aO H O));refine Az q1 q2 λg hz hI hO s1 s2 kp=>wpAny_pyIter_zip hz ?_;have Ap:=yv q1.lt q2.lt;refine⟨_,_,_,_,H,rfl,I.kept (t':=s.toks) kp,zB (b1:=b1) (b2:=b2) Ap (Nb q1.lt) (Nb (M8 q2.lt (OJ _ 1))) (Np (OM (by decide))) (Np (OL (by decide) _)),⟨hz,hI,⟨_,_,hO⟩,s1,s2⟩,λb hb=>?_,q _ (AQ x1 y1 x2 y2)⟩;have le:s.heap.objs.size<=b:=by
   simp only[OD,OG,or_false]at hb;rcases hb with rfl|rfl|rfl|rfl|rfl
   ·exact OJ _ _
   ·exact OJ _ _
   ·exact OJ _ _
   ·exact Nq _
   ·exact OJ _ _
  exact I.fpOk le (I.hok.fresh le)
 ·cases hc
end
noncomputable def LZ(K:Qw)(b:Bool)(a:RG):It:=
  ⟨fun i H=>∃ xs,SX K b H a xs/\i < xs.length,
   λi H v H'=>∃p x,v=.ref p/\H p=none/\H'=upd H p (.tup [.int i,x])/\∀xs,SX K b H a xs->xs[i]?=some x,
   λi H=>∃xs,SX K b H a xs/\i=xs.length⟩
theorem ye{P:RM}{w:RL}{K:Qw}{es:bA}{k:Nat}{pos:Pos}{b:Bool}{a e it:RG}(n1:a≠it)(n2:e≠it)(n3:e≠a):Turn P w K (.Tuple es k pos) (LZ K b a) [e,it] e (λi h=>(∃old,IsEnum h e it i old)/\SI b h it a i)where
 mem:=by simp
 obj:=λi h ⟨⟨old,he⟩,s1⟩ c hc=>by
  simp only[OD,OG,or_false]at hc;rcases hc with rfl|rfl
  ·exact⟨_,he,λv q=>by cases q⟩
  ·exact s1.get
 keep:=λi h h' ⟨⟨old,he⟩,s1⟩ kp=>⟨⟨old,kp e (by simp) _ he⟩,s1.keep λo q=>kp it (by simp) o q⟩
 item:=by
  rintro X hP hw hK hc i pins s σ H E I hf ⟨⟨old,he⟩,s1⟩ hg;subst hP hw hK;obtain⟨xs,g1,l1⟩:=hg;obtain⟨its,r1,q1,z1⟩:=Inv.sx I g1;have hh:X.A.in1.handled=none:=I.ok.hd hc;refine wpAny_pyNext_enum_itemD (jn (A:=X.A.in1) b hh it a n1 its.toArray) he ⟨s1,q1⟩ (by rw[Nt,<-r1.length];exact l1) n2 (GI n2 n3) λu g tk p1 ho t1 hp sz kp=>?_;have e1:its[i]?=some u:=by simpa using p1
  obtain⟨u',hu,ru⟩:=r1.get (i:=i) (x:=xs[i]) (by simp[l1]);rw[e1]at hu;cases hu;refine⟨_,rfl,wpAny_letOwnedTupleGo_enum ho λg' he' sb=>?_⟩;have hpe:s.heap.objs.size≠e:=Np (Rf he);have hp':=sb.extBut _ _ hpe hp;have I':Inv X pins σ (upd H s.heap.objs.size (.tup [.int i,xs[i]])) {s with heap:=g',toks:=tk+1}:=Inv.turnedL (ch:=[e,it]) I hf (λc o hc q=>by
   simp only[OD,OG,or_false,not_or]at hc;exact sb.extBut _ _ hc.1 (kp c o hc.1 hc.2 q)) (Nq _) ⟨by show 2<=RO;decide,[.int i tk,u],.cons ⟨_,rfl⟩ (.cons ru .nil),_,hp',rfl,_,rfl⟩
  have ne:∀c∈[e,it],c≠s.heap.objs.size:=λc hc q=>by
   simp only[OD,OG,or_false]at hc;rcases hc with rfl|rfl
   ·exact hpe q.symm
   ·obtain⟨o,q',_⟩:=s1.get;exact absurd (Rf q') (by rw[q];exact M9 _)
  refine⟨.ref s.heap.objs.size,_,I',rfl,⟨_,xs[i],rfl,I.fresh,rfl,λxs' h=>by rw[Inv.sx_inj I h g1];simp[l1]⟩,⟨⟨u,?_⟩,t1.1.keep λo q=>sb.extBut _ _ n2.symm q⟩,λc hc=>by rw[ay (ne c hc)];exact(hf c hc).1⟩;have ei:((i+1:Nat):Int)=(i:Int)+1:=by omega
  rw[ei];exact he'
 done:=by
  rintro X hP hw hK hc i pins s σ H E I hf ⟨⟨old,he⟩,s1⟩ hg;subst hP hw hK;obtain⟨xs,g1,l1⟩:=hg;obtain⟨its,r1,q1,z1⟩:=Inv.sx I g1;have hh:X.A.in1.handled=none:=I.ok.hd hc;have el:i=its.toArray.size:=by rw[Nt,<-r1.length];exact l1
  refine wpAny_pyNext_enum_endD (jn (A:=X.A.in1) b hh it a n1 its.toArray) he ⟨by rw[<-el];exact s1,q1⟩ λg kp=>⟨rfl,Inv.turned0 (ch:=[e,it]) I hf λc o hc q=>?_⟩
  simp only[OD,OG,or_false,not_or]at hc;exact kp c o hc.2 q
 self:=λ_ _ _ _ _ ⟨⟨old,he⟩,_⟩ h=>wpAny_pyIter_enum he h
noncomputable def fD(i:Nat):List D->List D
 |[]=>[]
 |x::xs=>.tup [.int i,x]::fD (i+1) xs
theorem dL:∀(i:Nat)(xs:List D),(fD i xs).length=xs.length
 |_,[]=>rfl
 |i,x::xs=>by rw[fD,Nv,dL (i+1) xs,Nv]
theorem pc:∀{xs:List D}{k i:Nat}{d:D},(fD k xs)[i]?=some d->∃x,xs[i]?=some x/\d=.tup [.int ((k+i:Nat):Int),x]
 |[],k,i,d,h=>by simp[fD]at h
 |x::xs,k,0,d,h=>by
  rw[fD,OH]at h;cases h;exact⟨x,rfl,rfl⟩
 |x::xs,k,i+1,d,h=>by
  rw[fD,OI]at h;obtain⟨y,h1,h2⟩:=pc h;refine⟨y,by rw[OI];exact h1,?_⟩;rw[h2];congr 4;omega
theorem yB{K:Qw}{Hd:Hp}{b:Bool}{a:RG}{ds:List D}{vs:aH}(h1:SX K b Hd a vs)(g1:aX K Hd ds vs):Walk K Hd (LZ K b a) (fD 0 ds):=λHn O' i hO sm=>
  have s':aZ Hd Hn:=sm.trans (aO Hn O')
  ⟨fun d e=>by
    obtain⟨x,e1,rfl⟩:=pc e;have l1:i<ds.length:=(List.getElem?_eq_some_iff.mp e1).1;obtain⟨v,ev,dv⟩:=g1.get e1;refine⟨⟨vs,h1.same s',by rw[<-g1.length];exact l1⟩,λu H2 ⟨p,x',eu,hp,eH,q1⟩=>?_⟩;have z1:=q1 vs (h1.same s');rw[ev]at z1;cases z1;subst eH eu;rw[OO];exact⟨cJ hp _,eA hO hp (bH.mpr ⟨.int i,_,rfl,eZ.mpr rfl,bH.mpr ⟨v,_,rfl,dv.mono sm,cD.mpr rfl⟩⟩)⟩,
   λhl=>by
    rw[dL]at hl;exact⟨vs,h1.same s',by rw[<-g1.length];exact hl⟩⟩
noncomputable def pV:List D->Option (List D)
 |[a]=>(Cp a).bind λx=>some (fD 0 x.2)
 |_=>none
noncomputable def eh(f:aW):aW:=λρ=>(f ρ).bind λds=>rO (pV ds)
section
variable{X:Cx}
theorem xh{prog:RM}{w:RL}{A:RV}{E:bD}{s:RK}{b:Bool}{l:RG}{xs:fJ}{Q:bD}(h1:SQ b s.heap l xs)
  (h:∀g,IsEnum g (s.heap.objs.size+1) s.heap.objs.size 0 .none->SI b g s.heap.objs.size l 0->(∀c o,s.heap.get? c=some o->g.get? c=some o)->Q (.ref (s.heap.objs.size+1)) {s with heap:=g}):RY (model prog w) A (call (.type "enumerate") [.ref l]) Q E s:=by
 refine callType_new F.called_enumerate (by decide) (F.typeCall_enumerate_1 _) (F.newCall_enumerate_1 _) (λobj=>F.args_object_init_2 obj _) F.entry_enumerate_new (xV b l xs) ⟨h1,?_⟩;have z1:(yN b s.heap l).objs.size=s.heap.objs.size+1:=Rl ..
 have g2:=Rj (yN b s.heap l) (o:={cls:=.type "enumerate",data:=.fields #[.none,.bool false,.ref s.heap.objs.size,rawInt 0,.none,.none]}) rfl;have g1:SI b ((yN b s.heap l).push {cls:=.type "enumerate",data:=.fields #[.none,.bool false,.ref s.heap.objs.size,rawInt 0,.none,.none]}) s.heap.objs.size l 0:=SI.keep SI.new λo e=>Ri _ e;show _/\_;rw[z1]at g2 ⊢;exact⟨⟨_,g2,rfl⟩,h _ g2 g1 λc o e=>Ri _ (Ri _ e)⟩
theorem D5{pins:bn}{s:RK}{σ:St}{H:Hp}{O:aF}{es:bA}{k:Nat}{tpos:Pos}{ds r:List D}{vs:aH}{us:aU}{RR:It->Hp->Prop}(I:Inv X pins σ H s)(hc:pV ds=some r)(d1:aX X.K (hid H O) ds vs)(rv:Vals vs us)(q:∀J,Walk X.K (hid H O) J r->RR J H):
  RY (model X.prog X.w) X.A (call (.type "enumerate") us) (λv s1=>RY (model X.prog X.w) X.A (pyIter v) (PIE X pins σ (.Tuple es k tpos) RR) X.xe s1) X.xe s:=by
 unfold pV at hc;split at hc
 ·rename_i a;obtain⟨⟨b1,xs⟩,e1,hc⟩:=bind_some hc;cases hc;obtain⟨va,rfl,da⟩:=d1.one;obtain⟨u1,rfl,r1⟩:=vals1 rv;obtain⟨a1,ws1,rfl,x1,y1⟩:=nq e1 da;cases r1;obtain⟨its1,rr1,q1,_⟩:=Inv.sx I (x1.same (aO H O));refine xh q1 λg he s1 kp=>wpAny_pyIter_enum he ?_;refine⟨_,_,_,_,H,rfl,I.kept (t':=s.toks) kp,ye (b:=b1) (Nb q1.lt) (Np (OM (by decide))) (Np (M8 q1.lt (OJ _ 1))),⟨⟨_,he⟩,s1⟩,λb hb=>?_,q _ (yB x1 y1)⟩;have le:s.heap.objs.size<=b:=by
   simp only[OD,OG,or_false]at hb;rcases hb with rfl|rfl
   ·exact OJ _ _
   ·exact Nq _
  exact I.fpOk le (I.hok.fresh le)
 ·cases hc
end
end TG
namespace TG
open PySem PySem.Spec L2
variable[aC]
theorem cH{K:Qw}{c:Str}{C C':RG}(h:clsAt K c C)(h':clsAt K c C'):C=C':=by
 unfold clsAt at h h';rw[h]at h';cases h';rfl
theorem nJ{K:Qw}{H:Hp}{f:Str}:∀{fs:au}{ds:List D}{vs:aH}{d:D},aX K H ds vs->(fs.zip ds).lookup f=some d->∃v,(fs.zip vs).lookup f=some v/\cz K H d v
 |[],_,_,_,_,e=>by simp at e
 |_::_,[],_,_,_,e=>by simp at e
 |g::fs,x::ds,vs,d,h,e=>by
  rw[bH]at h;obtain⟨v,r,rfl,h1,h2⟩:=h;rw[OQ,NZ]at e ⊢;cases hg:f==g with
  |true=>rw[hg]at e;cases e;exact⟨v,rfl,h1⟩
  |false=>rw[hg]at e;exact nJ h2 e
theorem pC{f:Str}:∀{fs:au}{vs:aH},fs.contains f=false->(fs.zip vs).lookup f=none
 |[],_,_=>by simp
 |_::_,[],_=>by simp
 |g::fs,x::vs,h=>by
  rw[OS,OT]at h;rw[OQ,NZ,h.1];exact pC h.2
noncomputable def bZ(f:Str)(cs:au)(d:D):bM:=match d with
 |.obj c fs vs=>if cs.contains c then(fs.zip vs).lookup f else none
 |_=>none
noncomputable def dU(K:Qw)(f:Str)(cs:au):Prop:=∀c∈cs,∀C,clsAt K c C->pH K C/\dF K C f
section
variable{X:Cx}{a o e:RH}{es:bA}{fa fo:FX}{fas:aW}{f m x:Str}{cs:au}{pos apos p:Pos}{k k':Nat}{ps:au}
noncomputable def MethAt(P:RM)(w:RL)(K:Qw)(mg:bP)(base:RN)(k:Nat)(c m:Str)(ps:au)(g:cP):Prop:=
 ∃C f fd,clsAt K c C/\pH K C/\Meth K C m f/\fP P w K mg base (iH P w) k f fd ps (xP K ps.length g)/\Binds K fd ps []
noncomputable def cY(m:Str)(tbl:List (Str×(cP)))(fo:FX)(fas:aW):FX:=λρ=>(fo ρ).bind λo=>match o with
 |.obj c fs vs=>match tbl.lookup c with
  |some g=>if fs.contains m then un else(fas ρ).bind λas=>g (o::as)
  |none=>un
 |_=>un
noncomputable def n5(P:RM)(w:RL)(K:Qw)(mg:bP)(base:RN)(k:Nat)(m:Str)(ps:au)(tbl:List (Str×(cP))):Prop:=
 ∀c g,tbl.lookup c=some g->MethAt P w K mg base k c m ps g/\Ar ps.length g
theorem Ej{P:RM}{w:RL}{K:Qw}{mg:bP}{base:RN}:n5 P w K mg base k m ps []:=λ_ _ h=>nomatch h
theorem Bs{P:RM}{w:RL}{K:Qw}{mg:bP}{base:RN}{c:Str}{g:cP}{tbl:List (Str×(cP))}(h:MethAt P w K mg base k c m ps g)(hn:Ar ps.length g)(t:n5 P w K mg base k m ps tbl):n5 P w K mg base k m ps ((c,g)::tbl):=λc' g' e=>by
 rw[NZ]at e;cases hc:c'==c with
 |true=>
  rw[hc]at e;cases e
  have:c'=c:=by simpa using hc
  subst this;exact⟨h,hn⟩
 |false=>rw[hc]at e;exact t c' g' e
theorem MethAt.mono{P:RM}{w:RL}{K:Qw}{mg:bP}{base:RN}{c:Str}{g:cP}(h:MethAt P w K mg base k c m ps g)(hk:k<=k'):MethAt P w K mg base k' c m ps g:=by
 obtain⟨C,f,fd,h1,h2,h3,h4,h5⟩:=h;exact⟨C,f,fd,h1,h2,h3,h4.mono hk,h5⟩
theorem tO{tbl:List (Str×(cP))}{args:bA}{pl:Sem Bool}(tb:n5 X.prog X.w X.K X.mg X.base k m ps tbl)(hr:eI k X.A)(ho:FE X o fo)
  (hc:∀ (pins:bn) (s1:RK) (σ:St) (H1:Hp) (O:aF) (ρ:av) (a f:RG) (od:D) (Q:VK) (g:cP) (fd:SD) (w0:V),QJ X.K (.ref f)=true->fP X.prog X.w X.K X.mg X.base (iH X.prog X.w) k f fd ps (xP X.K ps.length g)->Binds X.K fd ps []->Ar ps.length g->Inv X pins σ H1 s1->dz X.K O H1 ρ σ->cz X.K (hid H1 O) od (.ref a) ->
   (fG X σ O H1 ((fas ρ).bind λas=>g (od::as)) λd=>∀v H',aZ H1 H'->cz X.K (hid H' O) d v->Q v H')->
   RY (model X.prog X.w) X.A (Sx pos (.ref f) [.ref a] (backTo pos (RZ args X.env)) (backToKw pos (Sy [] X.env))) (EP X pins σ Q) X.xe s1)
  (ht:eval (.Call (.Attribute o m apos) args [] pos) X.env=(do
   let ov<-eval o X.env
   standAt apos.atName
   let (f,first)<-holding [ov] (getMethod ov m pl)
   Sx pos f first (backTo pos (RZ args X.env)) (backToKw pos (Sy [] X.env)))):
  FE X (.Call (.Attribute o m apos) args [] pos) (cY m tbl fo fas):=by
 rintro pins s σ H Q I ⟨O,ρ,E,hF⟩;refine tY ho I ?_ ht;refine⟨O,ρ,E,(fG.bind hF).imp λd hF v H1 s1 d1=>?_⟩;cases d with
 |obj c fs vs=>
  have hF':fG X σ O H (match tbl.lookup c with|some g=>if fs.contains m then un else(fas ρ).bind λas=>g (.obj c fs vs::as)|none=>un) _:=hF;cases hg:tbl.lookup c with
  |none=>rw[hg]at hF';exact hF'.elim
  |some g=>
   rw[hg]at hF';have hF2:fG X σ O H (if fs.contains m then un else(fas ρ).bind λas=>g (.obj c fs vs::as)) _:=hF';cases hm:fs.contains m with
   |true=>rw[hm]at hF2;exact hF2.elim
   |false=>
    rw[hm]at hF2;have hF3:fG X σ O H ((fas ρ).bind λas=>g (.obj c fs vs::as)) _:=hF2;have d0:=d1;obtain⟨a,ws,ev,g1,g2,C,dx,g3,g4⟩:=Dz.mp d1;obtain⟨⟨C',f,fd,m1,m2,m3,m4,m5⟩,ar⟩:=tb c g hg;have eC:=cH g3 m1;subst eC;subst ev;refine⟨a,C,dx,_,f,rfl,aO H1 O _ _ g4,m2,m3,pC hm,λs2 I2=>?_⟩;exact hc pins s2 σ H1 O ρ a f _ Q g fd (.ref a) m3.kp m4 m5 ar I2 (E.same s1) d0 ((hF3.mono s1).imp λd q v H2 s2 d2=>q v H2 (s1.trans s2) d2)
 |_=>exact hF.elim
theorem nT{σ:St}{O:aF}{H:Hp}{g:cP}{ds:List D}{vs:aH}{Q:VK}{n:Nat}(ar:Ar n g)(hO:dq H O)(d1:aX X.K (hid H O) ds vs)(h:fG X σ O H (g ds) λd=>∀v H',aZ H H'->cz X.K (hid H' O) d v->Q v H'):∃E,iY (iH X.prog X.w) X σ E/\xP X.K n g vs H Q E:=by
 cases hg:g ds with
 |ok d=>
  rw[hg]at h;refine⟨E0,vH,O,ds,by rw[<-d1.length];exact ar ds (by rw[hg];intro z;cases z),hO,d1,?_⟩;rw[hg];exact h
 |error z=>
  rw[hg]at h;cases z with
  |none=>exact h.elim
  |some x=>
   refine⟨wL X O H x,wA h,O,ds,by rw[<-d1.length];exact ar ds (by rw[hg];intro z;cases z),hO,d1,?_⟩;rw[hg];exact tV
theorem xN{P:RM}{w:RL}{K:Qw}{mg:bP}{base:RN}{c y qual:Str}{C f:RG}{fd:SD}{st:RJ}{N:au}{B:bU}(h1:clsAt K c C)(h2:pH K C)(h3:Meth K C m f)(F:ou K y qual st f fd)(b:Binds K fd ps [])(SC:cx N ps (aw st))(hb:BodyOk P w K mg base k N qual st f B):
  MethAt P w K mg base (k+1) c m ps (ao B ps.length N.length):=⟨C,f,fd,h1,h2,h3,qe F SC hb,b⟩
noncomputable def M1(C:RG)(fs:au):Sp:=λvs H Q _=>∃x dx as,vs=.ref x::as/\as.length=fs.length/\H x=some (.ins C dx [])/\Q .non (upd H x (.ins C dx (fs.zip as)))
noncomputable def iW(P:RM)(w:RL)(K:Qw)(mg:bP)(base:RN)(k:Nat)(c:Str)(ps fs:au):Prop:=
 ∃C f fd,clsAt K c C/\Mk K C f/\fP P w K mg base (iH P w) k f fd ps (M1 C fs)/\Binds K fd ps []/\mg c=some (.ref C)
noncomputable def fNew(c:Str)(fs:au)(fas:aW):FX:=λρ=>(fas ρ).bind λas=>if as.length=fs.length then .ok (.obj c fs as)else un
theorem sj{K:Qw}{H1:Hp}{O:aF}{c:Str}{fs:au}{as:List D}{vs:aH}{C x dx:RG}(hc:clsAt K c C)(hl:as.length=fs.length)(d1:aX K (hid H1 O) as vs)(hO:dq H1 O)(hx:H1 x=none)(hd:H1 dx=none)(ne:dx≠x):
  aZ H1 (upd (upd (upd H1 dx (.own x)) x (.ins C dx [])) x (.ins C dx (fs.zip vs)))/\cz K (hid (upd (upd (upd H1 dx (.own x)) x (.ins C dx [])) x (.ins C dx (fs.zip vs))) O) (.obj c fs as) (.ref x):=by
 have sm:aZ H1 (upd (upd (upd H1 dx (.own x)) x (.ins C dx [])) x (.ins C dx (fs.zip vs))):=λb o h=>by
  have n1:=aQ h hx;have n2:=aQ h hd;rw[ay n1,ay n1,ay n2];exact h
 exact⟨sm,Dz.mpr ⟨x,vs,rfl,d1.mono (cw sm),by rw[<-d1.length,hl],C,dx,hc,by rw[iT (hO.not hx),aK]⟩⟩
theorem EG{X:Cx}:ut (iH X.prog X.w) X E0:=λ_ _ _ _ _ _ _ h=>by
 obtain⟨_,_,_,_,_,_,_,_,_,_,_,_,_,_,z⟩:=h;exact z.elim
theorem oi(f:Str)(v:V):∀{fs:List (Str×V)},(fs.map (·.1)).contains f=false->iG f v fs=fs++[(f,v)]
 |[],_=>rfl
 |(g,w)::fs,h=>by
  rw[Nw,OS,OT]at h;have ne:¬g=f:=λz=>by
   have:=h.1
   rw[z]at this;simp at this
  have:=oi f v (fs:=fs) h.2
  unfold iG;simp only[ne,if_false,this,N3]
noncomputable def wg(X:Cx)(cs:au)(body:dM)(fs:au)(i:Nat):Prop:=
 ∃t,oV X body t/\∀(D:Ends)(σ:St)(H:Hp)(x dx C:RG)(done:List (Str×V))(as:aH),σ[0]?=some (some (.ref x))->(∀j v,as[j]?=some v->σ[i+j]?=some (some v))->as.length=fs.length->pH X.K C->(∀f∈fs,dF X.K C f)->done.length+fs.length<1000->(done.map (·.1)++fs).Nodup->H x=some (.ins C dx done)->
  D.nx σ (upd H x (.ins C dx (done++fs.zip as)))->t D σ H
theorem lT{st:RJ}{f:Str}{i:Nat}{o v:RH}{p1 p2:Pos}(hst:st=.Assign [.Attribute o f p1] v p2)(ho:PE X o (rG 0))(hv:PE X v (rG i))(hs:swapsWith v (some (.Attribute o f p1)) p2.line X.env=pure false):wg X cs [st] [f] i:=by
 subst hst;refine⟨_,qx (zS ho hv hs),λD σ H x dx C done as h0 ha hl cl na hz nd hx q=>?_⟩;obtain⟨a,rfl⟩:∃a,as=[a]:=by
  match as,hl with
  |[a],_=>exact⟨a,rfl⟩
 refine⟨a,ha 0 a rfl,.ref x,h0,x,C,dx,done,rfl,hx,cl,na f (List.mem_singleton.mpr rfl),by simp at hz;omega,?_⟩;rw[oi f a (by
  have:=nd
  rw[OU]at this;have h3:=this.2.2;cases hc:(done.map (·.1)).contains f with
  |false=>rfl
  |true=>exact absurd rfl (h3 f (List.contains_iff_mem.mp hc) f (List.mem_singleton.mpr rfl)))]
 exact q
theorem et{st:RJ}{rest:dM}{f:Str}{fs:au}{i:Nat}{o v:RH}{p1 p2:Pos}(hst:st=.Assign [.Attribute o f p1] v p2)(ho:PE X o (rG 0))(hv:PE X v (rG i))(hs:swapsWith v (some (.Attribute o f p1)) p2.line X.env=pure false)(hr:wg X cs rest fs (i+1)):wg X cs (st::rest) (f::fs) i:=by
 subst hst;obtain⟨t,ht,hq⟩:=hr;refine⟨_,tH (zS ho hv hs) ht,λD σ H x dx C done as h0 ha hl cl na hz nd hx q=>?_⟩;obtain⟨a,as,rfl⟩:∃a r,as=a::r:=by
  match as,hl with
  |a::r,_=>exact⟨a,r,rfl⟩
 have hno:(done.map (·.1)).contains f=false:=by
  have:=nd
  rw[OU]at this;have h3:=this.2.2;cases hc:(done.map (·.1)).contains f with
  |false=>rfl
  |true=>exact absurd rfl (h3 f (List.contains_iff_mem.mp hc) f Nh)
 refine⟨a,ha 0 a rfl,.ref x,h0,x,C,dx,done,rfl,hx,cl,na f Nh,by simp at hz;omega,?_⟩;rw[oi f a hno];refine hq D σ _ x dx C (done++[(f,a)]) as h0 (λj v e=>?_) (by simpa using hl) cl (λg hg=>na g (Ni _ hg)) (by simp at hz ⊢;omega) (by simpa [OA]using nd) (by rw[aK]) ?_
 ·have:=ha (j+1) v (by simpa using e)
  rw[show i+1+j=i+(j+1)by omega];exact this
 ·rw[vV,OA];exact q
theorem lG{P:RM}{w:RL}{K:Qw}{mg:bP}{base:RN}{c qual:Str}{C f:RG}{fd:SD}{st:RJ}{fs:au}(h1:clsAt K c C)(hM:Mk K C f)(cl:pH K C)(na:∀g∈fs,dF K C g)(F:ou K "__init__" qual st f fd)(b:Binds K fd ps [])(hmg:mg c=some (.ref C))(SC:cx ps ps (aw st))(hps:ps.length=fs.length+1)(hnd:fs.Nodup)(hlen:fs.length<1000)
  (hb:∀(cdv:RE)(A:RV)(outer:List Env)(s:RK)(H:Hp)(E:XK),wg (fO Im P w K mg base ps qual (aw st) f cdv A outer s H E).nox [] (cT st) fs 1):iW P w K mg base (k+1) c ps fs:=by
 refine⟨C,f,fd,h1,hM,?_,b,hmg⟩;refine fP.any (F.ok SC (λvs H Q E h=>?_) λcdv A outer s H vs Q E hr h=>?_)
 ·obtain⟨x,dx,as,rfl,hl,_⟩:=h;rw[Nv,hl,hps]
 ·obtain⟨t,ht,hq⟩:=hb cdv A outer s H E;obtain⟨x,dx,as,rfl,hl,hx,q⟩:=h;have hst:L2.start ps (.ref x::as)=(.ref x::as).map some:=by
   unfold L2.start;rw[Nv,hl,hps,OV,OW,NB]
  refine⟨t,ht,hq _ _ H x dx C [] as (by rw[hst];rfl) (λj v e=>?_) hl cl na (by simpa using hlen) (by simpa using hnd) hx q⟩;rw[hst,OX,Nw,OI,NM,e];rfl
end
end TG
namespace TG
open PySem PySem.Spec L2
variable[aC]
section
variable{X:Cx}
noncomputable def kD:List D->Option (au)
 |[]=>some []
 |.str x::r=>(kD r).bind λys=>some (x::ys)
 |_=>none
theorem pF:∀{ds:List D}{ys:au},kD ds=some ys->ds=ys.map .str
 |[],ys,h=>by cases h;rfl
 |d::ds,ys,h=>by
  cases d with
  |str x=>
   have h':(kD ds).bind (λys=>some (x::ys))=some ys:=h;cases e:kD ds with
   |none=>rw[e]at h';cases h'
   |some zs=>
    rw[e]at h';cases h';rw[pF e];rfl
  |_=>cases h
theorem pJ{K:Qw}{H:Hp}:∀{ys:au}{vs:aH},aX K H (ys.map .str) vs->vs=ys.map .str
 |[],vs,h=>cD.mp h
 |y::ys,vs,h=>by
  obtain⟨v,r,rfl,h1,h2⟩:=bH.mp h;rw[fg.mp h1,pJ h2];rfl
theorem wY:∀{ys:au}{its:aU},Vals (ys.map .str) its->PyProof.Rows.StrsAre its ys
 |[],_,.nil=>.nil
 |y::ys,_,.cons h t=>by
  obtain⟨t',rfl⟩:=h;exact .cons y t' (wY t)
noncomputable def rJoin(K:Qw):V->aH->Hp->VK->Prop:=λx xs H Q=>∃z l ys,x=.str z/\xs=[.ref l]/\jR K H l (ys.map V.str)/\(ys.map (λy=>y.length)).sum+ys.length*z.length<=100000/\Q (.str (Txt.join z ys)) H
theorem Eg:LO X "str.join" (rJoin X.K):=by
 rintro pins s σ H x xs v us Q I rx rs ⟨z,l,ys,ex,exs,hl,hz,q⟩;subst ex exs;obtain⟨t,rfl⟩:=rx;obtain⟨u,rfl⟩:∃u,us=[u]:=by
  cases rs with
  |cons _ t=>cases t;exact⟨_,rfl⟩
 have ru:RelV (.ref l) u:=by cases rs with|cons h _=>exact h
 cases ru;obtain⟨its,r,ht,_⟩:=I.list hl;exact PyProof.Rows.join_list ht.isList (wY r) ‹0› λt' k=>⟨.str _,H,I.tok _,⟨_,rfl⟩,q⟩
noncomputable def Jy:D->Option Str
 |.str z=>some z
 |_=>none
theorem CZ{K:Qw}{H:Hp}{d:D}{z:Str}{v:V}(e:Jy d=some z)(h:cz K H d v):v=.str z:=by
 cases d with
 |str y=>cases e;exact fg.mp h
 |_=>cases e
noncomputable def nZ(z:Str)(as:List D):bM:=match as with
 |[.lst xs]=>(kD xs).bind λys=>if small ((ys.map (λy=>y.length)).sum+ys.length*z.length)then some (.str (Txt.join z ys))else none
 |_=>none
noncomputable def jf(f:FX)(g:aW):FX:=λρ=>(f ρ).bind λa=>(rO (Jy a)).bind λz=>(g ρ).bind λds=>rO (nZ z ds)
theorem rF{K:Qw}{H:Hp}{O:aF}{z:Str}{ds:List D}{d:D}{vs:aH}{Q:VK}(hg:nZ z ds=some d)(hd:aX K (hid H O) ds vs)(q:∀v,cz K (hid H O) d v->Q v H):rJoin K (.str z) vs H Q:=by
 unfold nZ at hg;split at hg
 ·rename_i xs;cases e:kD xs with
  |none=>rw[e]at hg;cases hg
  |some ys=>
   rw[e]at hg;obtain⟨h1,h2⟩:=bE hg;subst h2;obtain⟨v,ev,h1'⟩:=hd.one;obtain⟨l,ws,el,hl,hw⟩:=cn.mp h1';rw[pF e]at hw;rw[pJ hw]at hl;exact⟨z,l,ys,rfl,by rw[ev,el],(aO H O).seq hl,of_decide_eq_true h1,q _ (fg.mpr rfl)⟩
 ·cases hg
noncomputable def Kh(a b:D):bM:=match a,b with
 |.bl c,.bl d=>some (.bl (c==d))
 |_,_=>none
noncomputable def gq(a b:D):bM:=match a,b with
 |.bl c,.bl d=>some (.bl (!(c==d)))
 |_,_=>none
theorem o8:ic X (R5 .IsNot) (rD X.K gq):=by
 rintro pins s σ H x y u v Q I rx ry ⟨O,a,b,d,hO,ha,hb,hg,q⟩;cases a with
 |bl i=>
  cases b with
  |bl j=>
   cases hg;rw[ia.mp ha]at rx;rw[ia.mp hb]at ry;cases rx;cases ry;exact PyProof.Rows.isnot_bool ⟨.bl _,H,I,rfl,q _ H (aZ.refl H) (ia.mpr rfl)⟩
  |_=>cases hg
 |_=>cases hg
end
section
variable{X:Cx}{C:RG}{pins:bn}{σ:St}{H:Hp}{s:RK}{Q:VK}
noncomputable def anyB:List D->Option Bool
 |[]=>some false
 |.bl b::r=>(anyB r).bind λc=>some (b||c)
 |_=>none
noncomputable def yg:List D->bM
 |[.lst xs]=>(anyB xs).bind λb=>some (.bl b)
 |_=>none
theorem sO:∀{xs:List D}{b:Bool},anyB xs=some b->∃bs:cy,xs=bs.map .bl/\b=bs.any id
 |[],b,h=>by cases h;exact⟨[],rfl,rfl⟩
 |d::r,b,h=>by
  cases d with
  |bl x=>
   obtain⟨c,e1,e2⟩:=bind_some (show((anyB r).bind λc=>some (x||c))=some b from h);cases e2;obtain⟨bs,e3,e4⟩:=sO e1;exact⟨x::bs,by rw[Nw,e3],by rw[Oj,e4];rfl⟩
  |_=>cases h
theorem range_any(bs:cy):((List.range bs.length).any λi=>(bs[i]?).getD false)=bs.any id:=by
 induction bs with
 |nil=>rfl
 |cons b bs ih=>
  rw[Nv,Oc,Oj,OY,Oj,<-ih];rfl
theorem xG(hc:X.calm=true):gA X (.builtin "any") (Ew X.K yg):=by
 rintro pins s σ H xs us Q I r ⟨O,ds,d,hO,hd,hg,q⟩;unfold yg at hg;split at hg
 ·rename_i ys;obtain⟨bv,e1,e2⟩:=bind_some hg;cases e2;obtain⟨bs,eb,ev⟩:=sO e1;subst eb ev;obtain⟨v,evv,h1⟩:=hd.one;subst evv;obtain⟨p,vs,ep,g1,g2⟩:=cn.mp h1;subst ep;obtain⟨u,eu,ru⟩:=vals1 r;subst eu;cases ru;obtain⟨its,rv,pl,hz⟩:=I.list ((aO H O).seq g1);have ei:=jP g2 rv;have hl:=pl.isList;have hlt:p<s.heap.objs.size:=by obtain⟨_,e,_⟩:=hl;exact Rf e
  refine call_any_walk (Sg hl ?_);refine⟨s.heap.objs.size,[s.heap.objs.size,p],[s.heap.objs.size],its.toArray.size,_,_,λi=>(bs[i]?).getD false,rfl,Walks.list (A:=X.A.in1) (I.ok.hd hc) _ p (Nb hlt) its.toArray,
   ⟨⟨_,Rj _ rfl,rfl,rfl⟩,hl.push _⟩,λi v s' Q' E' hP hQ=>?_,λh' tk hk=>?_⟩
  ·have e:bs[i]?.map Value.bool=some v:=by
    rw[<-NM,<-ei]
    simpa using hP
   cases eb:bs[i]? with
   |none=>rw[eb]at e;cases e
   |some b=>
    rw[eb]at e;cases e;simp only[eb,OC]at hQ;exact R7 hQ
  ·have e:((List.range its.toArray.size).any λi=>(bs[i]?).getD false)=bs.any id:=by
    have:its.toArray.size=bs.length:=(by rw[Nt,ei,Nx]);rw[this];exact range_any bs
   rw[e];have k:∀b x,s.heap.get? b=some x->h'.get? b=some x:=λb x e=>hk b x (λhm=>by rw[List.mem_singleton.mp hm]at e;exact M9 _ (Rf e)) (Ri _ e);exact⟨.bl _,H,I.kept k,rfl,q _ H (aZ.refl H) (ia.mpr rfl)⟩
 ·cases hg
end
end TG
namespace TG
open PySem PySem.Spec PyProof.Rows L2
variable[aC]
noncomputable def cp:List D->List D->Option Bool
 |[],[]=>some false
 |[],_::_=>some true
 |_::_,[]=>some false
 |a::as,b::bs=>match a,b with
  |.int i,.int j=>if i=j then cp as bs else some (decide (i<j))
  |.str x,.str y=>if x=y then cp as bs else some (decide (x.cps.toList<y.cps.toList))
  |_,_=>none
inductive fE:aU->List D->Prop where
 |nil:fE [] []
 |int (i:Int) (t:Tok) {vs:aU} {ds:List D} (h:fE vs ds):fE (.int i t::vs) (.int i::ds)
 |str (x:Str) (t:Tok) {vs:aU} {ds:List D} (h:fE vs ds):fE (.str x t::vs) (.str x::ds)
theorem fE.length:∀{vs:aU}{ds:List D},fE vs ds->vs.length=ds.length
 |_,_,.nil=>rfl
 |_,_,.int _ _ h=>by rw[Nv,Nv,h.length]
 |_,_,.str _ _ h=>by rw[Nv,Nv,h.length]
theorem Ey(A:RV)(s:RK)(a:Int)(t:Tok)(c:Int)(u:Tok):∃e,SeqAt.EqAt A s (.int a t) (.int c u) e/\(e=true↔a=c):=
 ⟨(a==c),SeqAt.EqAt.int_int a t c u,by simp⟩
theorem E6(A:RV)(s:RK)(a:Str)(t:Tok)(c:Str)(u:Tok):∃e,SeqAt.EqAt A s (.str a t) (.str c u) e/\(e=true↔a=c):=
 ⟨(a==c),SeqAt.EqAt.str_str a t c u,by simp⟩
theorem Ij(A:RV)(s:RK)(a:Str)(t:Tok)(c:Str)(u:Tok)(prog:RM)(w:RL)(E:bD)(Q:bD)(h:Q (.bool (decide (a.cps.toList<c.cps.toList))) s):
  RY (model prog w) A (richCompare .Lt (.str a t) (.str c u)) Q E s:=
 (PySem.P.lt_str h:RY (model prog w) A (R5 .Lt (.str a t) (.str c u)) Q E s)
section
open PySem.SeqAt
open PySem.AutoSeq1 (wpAny_loadPart')
open PySem.MeetsSeq PySem.MeetsSeq2 PySem.MeetsSeq3
set_option maxHeartbeats 1000000 in
theorem oS(l b:RG)(items items2:fJ)(n n2:Nat)(dd dd2:Option RG)(sl sl2:Array (Option RE))(ns ms:List D)(r:Bool)(hi:fE items.toList ns)(hj:fE items2.toList ms)(hr:cp ns ms=some r):
  Meets (Builtin.«tuple.__lt__» ⟨[.ref l,.ref b],[]⟩)
   (fun _ R s=>s.heap.get? l=some { cls:=.type "tuple",dict:=dd,data:=.seq items n,slots:=sl }/\s.heap.get? b=some { cls:=.type "tuple",dict:=dd2,data:=.seq items2 n2,slots:=sl2 } /\
    R (.ok (.ret (.bool r))) s):=
 .of_wp λprog w A R s h=>by
  obtain⟨hp,g,d,tk,os⟩:=s;obtain⟨hl,hb,h⟩:=h;have f2:=AutoSeq1.sub_tuple_tuple;have z1:items.size=ns.length:=by rw[<-hi.length];simp
  have z2:items2.size=ms.length:=by rw[<-hj.length];simp
  wp_walk using wpAny_loadPart' hl,wpAny_loadPart' hb,wpAny_forIn_list _ (λrest b s'=>b.1=none/\s'=⟨hp,g,d,tk,os⟩/\∃(vs ws:aU)(ns' ms':List D),rest=vs.zip ws/\
   fE vs ns'/\fE ws ms'/\ns'.length+items2.size=ms'.length+items.size/\cp ns' ms'=some r/\R (.ok (.ret (.bool r))) ⟨hp,g,d,tk,os⟩) _
  case turn=>
   rintro⟨y,x⟩ rest b s' ⟨hb',rfl,vs,ws,ns',ms',hz,hvi,hwi,hlen,hL,hR⟩;cases hvi with
   |nil=>rw[List.zip_nil_left]at hz;cases hz
   |int a t hvi'=>
    cases hwi with
    |nil=>rw[OZ]at hz;cases hz
    |str c u hwi'=>cases hL
    |int c u hwi'=>
     rw[OQ]at hz;injection hz with hyx hrest;injection hyx with hy hx;subst hy hx;have hL':(if a=c then cp _ _ else some (decide (a<c)))=some r:=hL;simp only[Nv]at hlen;obtain⟨e,he,hiff⟩:=Ey A.in1 ⟨hp,g,d,tk,os⟩ a t c u;refine Sd (he prog w _ _ ?_);cases e with
     |true=>
      rw[if_pos (hiff.mp rfl)]at hL'
      wp_walk
      exact⟨rfl,rfl,_,_,_,_,hrest,hvi',hwi',by omega,hL',hR⟩
     |false=>
      rw[if_neg (λq=>absurd (hiff.mpr q) Nn)]at hL';cases hL';have hri:=HT.IT A.in1 ⟨hp,g,d,tk,os⟩ a t c u prog w
      wp_walk using hri
      exact⟨_,rfl,by simpa using hR⟩
   |str a t hvi'=>
    cases hwi with
    |nil=>rw[OZ]at hz;cases hz
    |int c u hwi'=>cases hL
    |str c u hwi'=>
     rw[OQ]at hz;injection hz with hyx hrest;injection hyx with hy hx;subst hy hx;have hL':(if a=c then cp _ _ else some (decide (a.cps.toList<c.cps.toList)))=some r:=hL;simp only[Nv]at hlen;obtain⟨e,he,hiff⟩:=E6 A.in1 ⟨hp,g,d,tk,os⟩ a t c u;refine Sd (he prog w _ _ ?_);cases e with
     |true=>
      rw[if_pos (hiff.mp rfl)]at hL'
      wp_walk
      exact⟨rfl,rfl,_,_,_,_,hrest,hvi',hwi',by omega,hL',hR⟩
     |false=>
      rw[if_neg (λq=>absurd (hiff.mpr q) Nn)]at hL';cases hL';have hri:=Ij A.in1 ⟨hp,g,d,tk,os⟩ a t c u prog w
      wp_walk using hri
      exact⟨_,rfl,by simpa using hR⟩
  case fin=>
   rintro⟨b1,b2⟩ s' ⟨hb',rfl,vs,ws,ns',ms',hz,hvi,hwi,hlen,hL,hR⟩;simp only at hb';subst hb';have hv:r=decide (items.size<items2.size):=by
    have l1:=hvi.length;have l2:=hwi.length;cases ns' with
    |nil=>
     cases ms' with
     |nil=>
      simp only[O0]at hlen;cases hL;exact(decide_eq_false ‹0›).symm
     |cons c u=>
      simp only[O0,Nv]at hlen;cases hL;exact(decide_eq_true ‹0›).symm
    |cons a t=>
     cases ms' with
     |nil=>
      simp only[O0,Nv]at hlen;cases hL;exact(decide_eq_false ‹0›).symm
     |cons c u=>
      have:=congrArg List.length hz
      simp only[O0,List.length_zip,l1,l2,Nv]at this;omega
   rw[hv]at hR
   wp_walk
   exact⟨_,rfl,by simpa [Builtin.Tuple.tupleCompareSizes]using hR⟩
  case h=>
   exact⟨rfl,rfl,items.toList,items2.toList,ns,ms,rfl,hi,hj,by omega,hr,h⟩
end
section
variable{X:Cx}
theorem xQ{α:Type}{c:Bool}{o:Option α}{a:α}(h:(if c then o else none)=some a):c=true/\o=some a:=by
 cases c with
 |true=>exact⟨rfl,h⟩
 |false=>cases h
theorem uV{prog:RM}{w:RL}{A:RV}{E:bD}{s:RK}{l b:RG}{items items2:fJ}{ns ms:List D}{r:Bool}{Q:bD}(hl:RP s.heap l items)(hb:RP s.heap b items2)(hi:fE items.toList ns)(hj:fE items2.toList ms)(hr:cp ns ms=some r)
  (hu:A.units<SA) (h:Q (.bool r) s):RY (model prog w) A (R5 .Lt (.ref l) (.ref b)) Q E s:=by
 obtain⟨⟨cls,dd,data,sl⟩,ho,hc,n,hd⟩:=id hl;obtain⟨⟨cls2,dd2,data2,sl2⟩,ho2,hc2,n2,hd2⟩:=id hb;simp only at hc hd hc2 hd2;subst hc hd hc2 hd2;exact richCompare_meets_room (op:=.Lt) ⟨_,ho,rfl⟩ ⟨_,ho2,rfl⟩ PySem.F.slot_tuple_lt PySem.F.entry_tuple_lt (PySem.F.args_tuple_lt_2 _ _) (oS l b items items2 n n2 dd dd2 sl sl2 ns ms r hi hj hr)
  ⟨ho,ho2,show Value.bool r≠Value.notImplemented/\Q (.bool r) s from⟨(λx=>nomatch x),h⟩⟩ hu
noncomputable def jB:List D->Bool
 |[]=>true
 |.int _::r=>jB r
 |.str _::r=>jB r
 |_=>false
theorem iM{K:Qw}{H:Hp}:∀{ds:List D}{vs:aH}{us:aU},jB ds=true->aX K H ds vs->Vals vs us->fE us ds
 |[],vs,us,_,h,r=>by
  rw[cD]at h;subst h;cases r;exact .nil
 |d::ds,vs,us,hf,h,r=>by
  obtain⟨v,r',e,h1,h2⟩:=bH.mp h;subst e;cases r with
  |cons q1 q2=>
   cases d with
   |int i=>
    rw[eZ]at h1;subst h1;obtain⟨t,rfl⟩:=q1;exact .int i t (iM hf h2 q2)
   |str x=>
    rw[fg]at h1;subst h1;obtain⟨t,rfl⟩:=q1;exact .str x t (iM hf h2 q2)
   |_=>cases hf
noncomputable def eU(a b:D):bM:=match a,b with
 |.int i,.int j=>some (.bl (decide (i<j)))
 |.str x,.str y=>some (.bl (decide (x.cps.toList<y.cps.toList)))
 |.tup xs,.tup ys=>if jB xs&&jB ys then(cp xs ys).bind λr=>some (.bl r)else none
 |_,_=>none
theorem Ah(hu:X.A.units+64<SA):ic X (R5 .Lt) (rD X.K eU):=by
 rintro pins s σ H x y u v Q I rx ry ⟨O,a,b,d,hO,ha,hb,hg,q⟩;cases a with
 |int i=>
  cases b with
  |int j=>
   cases hg;exact HV pins s σ H x y u v Q I rx ry ⟨i,j,eZ.mp ha,eZ.mp hb,q _ H (aZ.refl H) (ia.mpr rfl)⟩
  |_=>cases hg
 |str i=>
  cases b with
  |str j=>
   cases hg;exact yK pins s σ H x y u v Q I rx ry ⟨i,j,fg.mp ha,fg.mp hb,q _ H (aZ.refl H) (ia.mpr rfl)⟩
  |_=>cases hg
 |tup xs=>
  cases b with
  |tup ys=>
   obtain⟨h1,h2⟩:=xQ hg;obtain⟨r,e1,e2⟩:=bind_some h2;cases e2;rw[NU]at h1;obtain⟨p,vs,ex,g1,g2⟩:=b7.mp ha;obtain⟨p',vs',ey,g1',g2'⟩:=b7.mp hb;subst ex ey;cases rx;cases ry;obtain⟨its,r1,t1,_⟩:=I.tuple (b9 (aO H O) g1);obtain⟨its2,r2,t2,_⟩:=I.tuple (b9 (aO H O) g1');exact uV t1 t2 (iM h1.1 g2 r1) (iM h1.2 g2' r2) e1 ‹0› (Ba I (q _ H (aZ.refl H) (ia.mpr rfl)) rfl)
  |_=>cases hg
 |_=>cases hg
end
end TG
namespace TG
open PySem PySem.Spec L2
variable[aC]
end TG
namespace TG
open PySem PySem.Spec PyProof.Rows PySem.W L2
variable[aC]
theorem qK:∀a:List Nat,¬a<a
 |[]=>O2 _
 |x::xs=>λh=>by
  rcases List.cons_lt_cons_iff.mp h with h|⟨_,h⟩
  ·omega
  ·exact qK xs h
theorem iQ:∀{a b c:List Nat},a<b->b<c->a<c
 |_,_,[],_,h=>absurd h (O2 _)
 |_,[],_::_,h,_=>absurd h (O2 _)
 |[],_::_,_::_,_,_=>O3 _ _
 |x::xs,y::ys,z::zs,h,h'=>by
  rw[O5]at h h' ⊢;rcases h with h|⟨e,h⟩<;>rcases h' with h'|⟨e',h'⟩
  ·exact .inl ‹0›
  ·exact .inl ‹0›
  ·exact .inl ‹0›
  ·exact .inr ⟨by omega,iQ h h'⟩
theorem An:∀a b:List Nat,a<b\/a=b\/b<a
 |[],[]=>.inr (.inl rfl)
 |[],_::_=>.inl (O3 _ _)
 |_::_,[]=>.inr (.inr (O3 _ _))
 |x::xs,y::ys=>by
  rw[O5,O5];rcases Nat.lt_trichotomy x y with h|h|h
  ·exact .inl (.inl h)
  ·rcases An xs ys with q|q|q
   ·exact .inl (.inr ⟨h,q⟩)
   ·exact .inr (.inl (by rw[h,q]))
   ·exact .inr (.inr (.inr ⟨h.symm,q⟩))
  ·exact .inr (.inr (.inl h))
theorem sq{x y:Str}(h:x.cps.toList=y.cps.toList):x=y:=by
 cases x;cases y;congr 1;exact Array.toList_inj.mp h
inductive Sh:cy->List D->Prop where
 |nil:Sh [] []
 |int (i:Int) {bs:cy} {ds:List D} (h:Sh bs ds):Sh (true::bs) (.int i::ds)
 |str (x:Str) {bs:cy} {ds:List D} (h:Sh bs ds):Sh (false::bs) (.str x::ds)
theorem Sh.length:∀{σ:cy}{a:List D},Sh σ a->a.length=σ.length
 |_,_,.nil=>rfl
 |_,_,.int _ h=>by rw[Nv,Nv,h.length]
 |_,_,.str _ h=>by rw[Nv,Nv,h.length]
theorem kO:∀{σ:cy}{a:List D},Sh σ a->jB a=true
 |_,_,.nil=>rfl
 |_,_,.int i h=>by
  unfold jB;exact kO h
 |_,_,.str i h=>by
  unfold jB;exact kO h
theorem pK(i j:Int)(as bs:List D):cp (.int i::as) (.int j::bs)=if i=j then cp as bs else some (decide (i<j)):=by rw[cp]
theorem pj(x y:Str)(as bs:List D):cp (.str x::as) (.str y::bs)=if x=y then cp as bs else some (decide (x.cps.toList<y.cps.toList)):=by rw[cp]
theorem zP:cp [] []=some false:=by rw[cp]
theorem gY:∀{σ:cy}{a:List D},Sh σ a->cp a a=some false
 |_,_,.nil=>zP
 |_,_,.int i h=>by rw[pK,if_pos rfl];exact gY h
 |_,_,.str x h=>by rw[pj,if_pos rfl];exact gY h
theorem js{σ:cy}{a b:List D}(h1:Sh σ a)(h2:Sh σ b):(cp a b=some true/\cp b a=some false/\a≠b)\/a=b\/(cp b a=some true/\cp a b=some false/\a≠b):=by
 induction h1 generalizing b with
 |nil=>cases h2;exact .inr (.inl rfl)
 |int i h ih=>
  cases h2 with|int j h'=>
  rw[pK,pK];by_cases e:i=j
  ·subst e;rw[if_pos rfl,if_pos rfl];rcases ih h' with⟨q1,q2,q3⟩|q|⟨q1,q2,q3⟩
   ·exact .inl ⟨q1,q2,λz=>q3 (by injection z)⟩
   ·exact .inr (.inl (by rw[q]))
   ·exact .inr (.inr ⟨q1,q2,λz=>q3 (by injection z)⟩)
  ·rw[if_neg e,if_neg (λz=>e z.symm)];rcases Int.lt_or_gt_of_ne e with q|q
   ·exact .inl ⟨by rw[decide_eq_true q],by rw[decide_eq_false ‹0›],λz=>e (by injection z with z1;injection z1)⟩
   ·exact .inr (.inr ⟨by rw[decide_eq_true q],by rw[decide_eq_false ‹0›],λz=>e (by injection z with z1;injection z1)⟩)
 |str x h ih=>
  cases h2 with|str y h'=>
  rw[pj,pj];by_cases e:x=y
  ·subst e;rw[if_pos rfl,if_pos rfl];rcases ih h' with⟨q1,q2,q3⟩|q|⟨q1,q2,q3⟩
   ·exact .inl ⟨q1,q2,λz=>q3 (by injection z)⟩
   ·exact .inr (.inl (by rw[q]))
   ·exact .inr (.inr ⟨q1,q2,λz=>q3 (by injection z)⟩)
  ·rw[if_neg e,if_neg (λz=>e z.symm)];rcases An x.cps.toList y.cps.toList with q|q|q
   ·exact .inl ⟨by rw[decide_eq_true q],by rw[decide_eq_false λz=>qK _ (iQ q z)],λz=>e (by injection z with z1;injection z1)⟩
   ·exact absurd (sq q) e
   ·exact .inr (.inr ⟨by rw[decide_eq_true q],by rw[decide_eq_false λz=>qK _ (iQ q z)],λz=>e (by injection z with z1;injection z1)⟩)
theorem lU{σ:cy}{a b c:List D}(h1:Sh σ a)(h2:Sh σ b)(h3:Sh σ c)(q:cp a b=some true)(q':cp b c=some true):cp a c=some true:=by
 induction h1 generalizing b c with
 |nil=>cases h2;rw[zP]at q;cases q
 |int i h ih=>
  cases h2 with|int j h'=>
  cases h3 with|int k h''=>
  rw[pK]at q q' ⊢;by_cases e:i=j
  ·subst e;rw[if_pos rfl]at q;by_cases e':i=k
   ·subst e';rw[if_pos rfl]at q' ⊢;exact ih h' h'' q q'
   ·rw[if_neg e']at q' ⊢;exact q'
  ·rw[if_neg e]at q;have q1:=of_decide_eq_true (Option.some.inj q);by_cases e':j=k
   ·subst e';rw[if_neg e,decide_eq_true q1]
   ·rw[if_neg e']at q';have q2:=of_decide_eq_true (Option.some.inj q');rw[if_neg ‹0›,decide_eq_true ‹0›]
 |str i h ih=>
  cases h2 with|str j h'=>
  cases h3 with|str k h''=>
  rw[pj]at q q' ⊢;by_cases e:i=j
  ·subst e;rw[if_pos rfl]at q;by_cases e':i=k
   ·subst e';rw[if_pos rfl]at q' ⊢;exact ih h' h'' q q'
   ·rw[if_neg e']at q' ⊢;exact q'
  ·rw[if_neg e]at q;have q1:=of_decide_eq_true (Option.some.inj q);by_cases e':j=k
   ·subst e';rw[if_neg e,decide_eq_true q1]
   ·rw[if_neg e']at q';have q2:=of_decide_eq_true (Option.some.inj q');rw[if_neg (show¬i=k from λz=>by rw[z]at q1;exact qK _ (iQ q1 q2)),decide_eq_true (iQ q1 q2)]
theorem zK{σ:cy}{a b:List D}(h:Sh σ a)(h':Sh σ b)(q:cp a b=some true):cp b a=some false:=by
 rcases js h h' with⟨_,q2,_⟩|e|⟨_,q2,_⟩
 ·exact q2
 ·subst e;rw[gY h]at q;cases q
 ·rw[q2]at q;cases q
theorem G8{σ:cy}{a b:List D}(h:Sh σ a)(q:cp a b=some true):a≠b:=λe=>by
 subst e;rw[gY h]at q;cases q
noncomputable def kLt(a b:List D):Bool:=cp a b==some true
theorem Dh{a b:List D}:kLt a b=true↔cp a b=some true:=by unfold kLt;simp
section
variable{α:Type}
noncomputable def yy(key:α->List D)(x:α):List α->List α
 |[]=>[x]
 |y::ys=>if kLt (key x) (key y)then x::y::ys else y::yy key x ys
noncomputable def mh(key:α->List D):List α->List α
 |[]=>[]
 |x::xs=>yy key x (mh key xs)
theorem lJ(key:α->List D)(x:α):∀ys:List α,(yy key x ys).Perm (x::ys)
 |[]=>.refl _
 |y::ys=>by
  unfold yy;split
  ·exact .refl _
  ·exact(List.Perm.cons y (lJ key x ys)).trans (.swap x y ys)
theorem fT(key:α->List D):∀xs:List α,(mh key xs).Perm xs
 |[]=>.refl _
 |x::xs=>(lJ key x _).trans (.cons x (fT key xs))
noncomputable def sZ(key:α->List D)(xs:List α):Prop:=xs.Pairwise λx y=>cp (key x) (key y)=some true
theorem tR{key:α->List D}{σ:cy}{x:α}(hx:Sh σ (key x)):∀{ys:List α},(∀y∈ys,Sh σ (key y)/\key x≠key y)->sZ key ys->sZ key (yy key x ys)
 |[],_,_=>O6 _ _
 |y::ys,h,p=>by
  have p':=List.pairwise_cons.mp p;obtain⟨hy,ne⟩:=h y Nh;unfold yy;split
  ·rename_i q;have q:=Dh.mp q;refine List.pairwise_cons.mpr ⟨λz hz=>?_,p⟩;rcases List.mem_cons.mp hz with rfl|hz
   ·exact q
   ·exact lU hx hy (h z (Ni _ hz)).1 q (p'.1 z hz)
  ·rename_i q;have q:cp (key y) (key x)=some true:=by
    rcases js hx hy with⟨z,_⟩|z|⟨z,_⟩
    ·exact absurd (Dh.mpr z) q
    ·exact absurd z ne
    ·exact z
   refine List.pairwise_cons.mpr ⟨λz hz=>?_,tR hx (λz hz=>h z (Ni _ hz)) p'.2⟩;rcases List.mem_cons.mp ((lJ key x ys).mem_iff.mp hz)with rfl|hz
   ·exact q
   ·exact p'.1 z hz
theorem lK{key:α->List D}{σ:cy}:∀{xs:List α},(∀x∈xs,Sh σ (key x))->xs.Pairwise (λx y=>key x≠key y)->sZ key (mh key xs)
 |[],_,_=>List.Pairwise.nil
 |x::xs,h,p=>by
  have p':=List.pairwise_cons.mp p;refine tR (h x Nh) (λy hy=>?_) (lK (λy hy=>h y (Ni _ hy)) p'.2);have hy:=(fT key xs).mem_iff.mp hy;exact⟨h y (Ni _ hy),p'.1 y hy⟩
theorem wQ{key:α->List D}{σ:cy}:∀{xs ys:List α},(∀x∈xs,Sh σ (key x))->sZ key xs->sZ key ys->xs.Perm ys->xs=ys
 |[],ys,_,_,_,e=>(List.perm_nil.mp e.symm).symm
 |x::xs,[],_,_,_,e=>List.perm_nil.mp e
 |x::xs,y::ys,h,p,q,e=>by
  have p':=List.pairwise_cons.mp p;have q':=List.pairwise_cons.mp q;have exy:x=y:=by
   rcases List.mem_cons.mp (e.mem_iff.mp Nh)with z|z
   ·exact z
   ·have w1:=q'.1 x z;rcases List.mem_cons.mp (e.symm.mem_iff.mp Nh)with z'|z'
    ·exact z'.symm
    ·have w2:=p'.1 y z'
     have:=zK (h x Nh) (h y (Ni _ z')) w2
     rw[w1]at this;cases this
  subst exy;rw[wQ (λz hz=>h z (Ni _ hz)) p'.2 q'.2 (List.Perm.cons_inv e)]
theorem n9{key:α->List D}{σ:cy}{xs ys:List α}(h:∀x∈xs,Sh σ (key x))(p:xs.Pairwise λx y=>key x≠key y)(q:sZ key ys)(e:ys.Perm xs):mh key xs=ys:=
 wQ (λx hx=>h x ((fT key xs).mem_iff.mp hx)) (lK h p) q ((fT key xs).trans e.symm)
noncomputable def rank(ks:bw)(i:Nat):Nat:=(ks.filter λk=>kLt k (ks.getD i [])).length
theorem vE{ks:bw}{σ:cy}(h:∀k∈ks,Sh σ k){i j:Nat}(hi:i<ks.length)(hj:j<ks.length):decide (rank ks i<rank ks j)=kLt (ks.getD i []) (ks.getD j []):=by
 have gi:ks.getD i []=ks[i]:=by simp[hi]
 have gj:ks.getD j []=ks[j]:=by simp[hj]
 have mono:∀a b:List D,Sh σ a->Sh σ b->cp a b=some true->∀l:bw,(∀k∈l,Sh σ k)->(l.filter λk=>kLt k a).length<=(l.filter λk=>kLt k b).length/\(a∈l->(l.filter λk=>kLt k a).length<(l.filter λk=>kLt k b).length):=by
  intro a b ha hb hab l
  induction l with
  |nil=>exact λ_=>⟨Nq _,λz=>nomatch z⟩
  |cons k l ih=>
   intro hl;obtain⟨i1,i2⟩:=ih λz hz=>hl z (Ni _ hz);have hk:=hl k Nh;by_cases q:kLt k a=true
   ·have q':kLt k b=true:=Dh.mpr (lU hk ha hb (Dh.mp q) hab);rw[O7 (p:=λk=>kLt k a) q,O7 (p:=λk=>kLt k b) q',Nv,Nv];refine⟨by omega,λz=>?_⟩;rcases List.mem_cons.mp z with rfl|z
    ·rw[Dh,gY ha]at q;cases q
    ·have:=i2 z;omega
   ·rw[O8 (p:=λk=>kLt k a) q];by_cases q':kLt k b=true
    ·rw[O7 (p:=λk=>kLt k b) q',Nv];exact⟨by omega,λ_=>by omega⟩
    ·rw[O8 (p:=λk=>kLt k b) q'];refine⟨i1,λz=>?_⟩;rcases List.mem_cons.mp z with rfl|z
     ·exact absurd (Dh.mpr hab) q'
     ·exact i2 z
 unfold rank;rw[gi,gj];have hi':=h _ (O9 hi);have hj':=h _ (O9 hj);rcases js hi' hj' with⟨z,_⟩|z|⟨z,z',_⟩
 ·rw[Dh.mpr z];exact decide_eq_true ((mono _ _ hi' hj' z ks h).2 (O9 hi))
 ·rw[z]
  have:kLt ks[j] ks[j]=false:=by unfold kLt;rw[gY hj'];rfl
  rw[this];exact decide_eq_false (M9 _)
 ·have e:kLt ks[i] ks[j]=false:=by unfold kLt;rw[z'];rfl
  rw[e];exact decide_eq_false (Nat.not_lt.mpr (mono _ _ hj' hi' z ks h).1)
end
section
variable{cmp:Nat->Nat->(Bool->dD)->dD}{r:Nat->Nat}{N:Nat}
noncomputable def kE(cmp:Nat->Nat->(Bool->dD)->dD)(r:Nat->Nat)(N:Nat)(s:RK):Prop:=∀(i j:Nat)(C:Bool->dD),i<N->j<N->C (decide (r i<r j)) s->cmp i j C s
noncomputable def PM(N:Nat)(p:Array Nat):Prop:=p.Perm (List.toArray (List.range N))
theorem PM.size{p:Array Nat}(h:PM N p):p.size=N:=by
 have:=h.size_eq;simpa using this
theorem PM.lt{p:Array Nat}(h:PM N p){i:Nat}(hi:i<N):p.getD i 0<N:=by
 have hs:=h.size;have e:p.getD i 0=p[i]'‹0›:=by simp[Array.getD,hs,hi]
 rw[e];have m:p[i]'‹0›∈p:=Array.getElem_mem _
 have:=(h.mem_iff (a:=p[i]'‹0›)).mp m
 simpa using this
theorem PM.rev{p:Array Nat}(h:PM N p)(i j:Nat):PM N (kas_rev p i j):=(mirror_perm p i j _).trans h
noncomputable abbrev Rk(r:Nat->Nat)(p:Array Nat)(i:Nat):Nat:=r (p.getD i 0)
theorem qF{p:Array Nat}{i j:Nat}(hj:j<=p.size)(k:Nat):Rk r (kas_rev p i j) k=if i<=k/\k<j then Rk r p (i+j-1-k)else Rk r p k:=by
 have e:=getElem?_mirror_all (xs:=p) (i:=i) (j:=j) hj k;have g:∀(q:Array Nat)(k:Nat),q.getD k 0=(q[k]?).getD 0:=λq k=>by simp
 show r ((kas_rev p i j).getD k 0)=_;rw[g];show r (((mirror p i j ((j-i)/2))[k]?).getD 0)=_;rw[e];split
 ·show _=r (p.getD _ 0);rw[g]
 ·show _=r (p.getD _ 0);rw[g]
theorem AG{p:Array Nat}{src d:Nat}(hs:src<p.size)(hd:d<=src)(k:Nat):Rk r (bubble p src d) k=if k=src-d then Rk r p src else if src-d<k/\k<=src then Rk r p (k-1)else Rk r p k:=by
 have e:=getElem?_bubble (xs:=p) hs d hd k;have g:∀(q:Array Nat)(k:Nat),q.getD k 0=(q[k]?).getD 0:=λq k=>by simp
 show r ((bubble p src d).getD k 0)=_;rw[g,e];split
 ·show _=r (p.getD _ 0);rw[g]
 ·split
  ·show _=r (p.getD _ 0);rw[g]
  ·show _=r (p.getD _ 0);rw[g]
noncomputable def Up(r:Nat->Nat)(p:Array Nat)(k:Nat):Prop:=∀i j,i<=j->j<k->Rk r p i<=Rk r p j
noncomputable def Dn(r:Nat->Nat)(p:Array Nat)(k:Nat):Prop:=∀i j,i<=j->j<k->Rk r p j<=Rk r p i
variable{s:RK}
theorem ve(hc:kE cmp r N s){p:Array Nat}(hp:PM N p){G:Nat->dD}:∀(f n:Nat),1<=n->n+f<=N->Up r p n->(∀m,n<=m->m<=n+f->Up r p m->(m=n+f\/Rk r p m<Rk r p (m-1))->G m s)->(kas_asc p f n).kasWp cmp G s
 |0,n,_,_,u,h=>h n (Nq _) (Nq _) u (.inl rfl)
 |f+1,n,h1,h2,u,h=>by
  refine hc _ _ _ (hp.lt ‹0›) (hp.lt ‹0›) ?_;by_cases q:Rk r p n<Rk r p (n-1)
  ·rw[decide_eq_true q];dsimp only;rw[if_pos rfl];exact h n (Nq _) ‹0› u (.inr q)
  ·rw[decide_eq_false q];dsimp only;rw[if_neg Nn];refine ve hc hp f (n+1) ‹0› ‹0› (λi j hij hj=>?_) λm a b=>?_
   ·by_cases hjn:j<n
    ·exact u i j hij hjn
    ·have ej:j=n:=(by omega);subst ej;by_cases ei:i=j
     ·subst ei;exact Nq _
     ·have:=u i (j-1) ‹0› ‹0›
      omega
   ·intro um hm;exact h m ‹0› ‹0› um (by rcases hm with z|z;exact .inl ‹0›;exact .inr z)
theorem zc{p:Array Nat}{n q:Nat}(hn:n<=p.size)(hq:q+1<=n)(he:∀i,n-(q+1)<=i->i<n->Rk r p i=Rk r p (n-1))(k:Nat):Rk r (kas_rev p (n-(q+1)) n) k=Rk r p k:=by
 rw[qF hn];split
 ·rename_i h;rw[he _ ‹0› ‹0›,he k h.1 h.2]
 ·rfl
theorem mW(hc:kE cmp r N s){G:Array Nat×Nat×Nat->dD}:∀(f:Nat)(p:Array Nat)(n q:Nat),PM N p->1<=n->n+f<=N->Dn r p n->q+1<=n->(∀i,n-(q+1)<=i->i<n->Rk r p i=Rk r p (n-1))->
  (∀p' m q',PM N p'->n<=m->m<=n+f->Dn r p' m->q'+1<=m->(∀i,m-(q'+1)<=i->i<m->Rk r p' i=Rk r p' (m-1))->G (p',m,q') s)->(kas_desc f p n q).kasWp cmp G s
 |0,p,n,q,hp,_,_,d,hq,he,h=>h p n q hp (Nq _) (Nq _) d hq he
 |f+1,p,n,q,hp,h1,h2,d,hq,he,h=>by
  have hs:=hp.size;have step:∀p',(∀k,Rk r p' k=Rk r p k)->Rk r p n<=Rk r p (n-1)->Dn r p' (n+1):=λp' hk hl i j hij hj=>by
   rw[hk,hk];by_cases hjn:j<n
   ·exact d i j hij hjn
   ·have ej:j=n:=(by omega);subst ej;by_cases ei:i=j
    ·subst ei;exact Nq _
    ·have:=d i (j-1) ‹0› ‹0›
     omega
  refine hc _ _ _ (hp.lt ‹0›) (hp.lt ‹0›) ?_;by_cases q1:Rk r p n<Rk r p (n-1)
  ·rw[decide_eq_true q1];dsimp only;rw[if_pos rfl];by_cases hq0:q>0
   ·rw[if_pos hq0];refine mW hc f _ (n+1) 0 (hp.rev _ _) ‹0› ‹0› (step _ (zc ‹0› hq he) ‹0›) ‹0› (λi a b=>by rw[show i=n+1-1 by omega]) λp' m q' a b c=>h p' m q' a ‹0› ‹0›
   ·rw[if_neg hq0];refine mW hc f _ (n+1) 0 hp ‹0› ‹0› (step _ (λ_=>rfl) ‹0›) ‹0› (λi a b=>by rw[show i=n+1-1 by omega]) λp' m q' a b c=>h p' m q' a ‹0› ‹0›
  ·rw[decide_eq_false q1];dsimp only;rw[if_neg Nn];refine hc _ _ _ (hp.lt ‹0›) (hp.lt ‹0›) ?_;by_cases q2:Rk r p (n-1)<Rk r p n
   ·rw[decide_eq_true q2];dsimp only;rw[if_pos rfl];exact h p n q hp (Nq _) ‹0› d hq he
   ·rw[decide_eq_false q2];dsimp only;rw[if_neg Nn];refine mW hc f _ (n+1) (q+1) hp ‹0› ‹0› (step _ (λ_=>rfl) ‹0›) ‹0› (λi a b=>?_) λp' m q' a b c=>h p' m q' a ‹0› ‹0›;rw[show n+1-1=n by omega];by_cases ei:i=n
    ·subst ei;rfl
    ·have:=he i ‹0› ‹0›
     omega
theorem sK(hc:kE cmp r N s){p:Array Nat}(hp:PM N p){n:Nat}(h1:1<=n)(hn:n<=N)(d:Dn r p n){G:Nat×Array Nat->dD}(h:∀m p',PM N p'->1<=m->m<=N->Up r p' m->G (m,p') s):(kas_tail3 n N p).kasWp cmp G s:=by
 unfold kas_tail3;rw[KasT.kasWp_bind];have hs:=hp.size;refine ve hc (hp.rev 0 n) _ _ h1 ‹0› (λi j hij hj=>?_) λm a b u _=>h m _ (hp.rev 0 n) ‹0› ‹0› u;rw[qF ‹0›,qF ‹0›,if_pos ‹0›,if_pos ‹0›];exact d _ _ ‹0› ‹0›
theorem lV(hc:kE cmp r N s){p:Array Nat}(hp:PM N p){n:Nat}(hn:n+1<=N)(d:Dn r p (n+1)){G:Nat×Array Nat->dD}(h:∀m p',PM N p'->1<=m->m<=N->Up r p' m->G (m,p') s):(kas_descPart n N p).kasWp cmp G s:=by
 unfold kas_descPart;rw[KasT.kasWp_bind];refine mW hc _ _ _ _ hp ‹0› ‹0› d ‹0› (λi a b=>by rw[show i=n+1-1 by omega]) λp' m q' hp' a b d' hq he=>?_;have hs:=hp'.size;dsimp only;by_cases hq0:q'>0
 ·rw[if_pos hq0];refine sK hc (hp'.rev _ _) ‹0› ‹0› (λi j hij hj=>?_) h;rw[zc ‹0› hq he,zc ‹0› hq he];exact d' i j hij hj
 ·rw[if_neg hq0];exact sK hc hp' ‹0› ‹0› d' h
theorem zQ(hc:kE cmp r N s)(h1:1<=N){p:Array Nat}(hp:PM N p){G:Nat×Array Nat->dD}(h:∀m p',PM N p'->1<=m->m<=N->Up r p' m->G (m,p') s):(kas_count N p).kasWp cmp G s:=by
 unfold kas_count;rw[KasT.kasWp_bind];have hs:=hp.size;refine ve hc hp _ _ (Nq _) ‹0› (λi j hij hj=>by rw[show i=j by omega];exact Nq _) λn a b u hor=>?_;by_cases hn:n=N
 ·rw[if_pos (by simpa using hn)];exact h n p hp a ‹0› u
 ·rw[if_neg (by simpa using hn)];have hlt:Rk r p n<Rk r p (n-1):=by
   rcases hor with z|z
   ·omega
   ·exact z
  by_cases hg:n>1
  ·rw[if_pos hg];refine hc _ _ _ (hp.lt ‹0›) (hp.lt ‹0›) ?_;by_cases q:Rk r p 0<Rk r p (n-1)
   ·rw[decide_eq_true q];dsimp only;rw[if_pos rfl];exact h n p hp a ‹0› u
   ·rw[decide_eq_false q];dsimp only;rw[if_neg Nn];have hall:∀k,k<n->Rk r p k=Rk r p (n-1):=λk hk=>by
     have a1:=u 0 k ‹0› hk;have a2:=u k (n-1) ‹0› ‹0›;omega
    have hr:∀k,Rk r (kas_rev p 0 n) k=Rk r p k:=λk=>by
     rw[qF ‹0›];split
     ·rename_i z;rw[hall _ ‹0›,hall k z.2]
     ·rfl
    refine lV hc (hp.rev _ _) ‹0› (λi j hij hj=>?_) h;rw[hr,hr];by_cases hjn:j<n
    ·rw[hall i ‹0›,hall j hjn];exact Nq _
    ·have ej:j=n:=(by omega);subst ej;by_cases ei:i=j
     ·subst ei;exact Nq _
     ·rw[hall i ‹0›];omega
  ·rw[if_neg hg];have en:n=1:=(by omega);subst en;refine lV hc hp ‹0› (λi j hij hj=>?_) h;by_cases ei:i=j
   ·subst ei;exact Nq _
   ·have e0:i=0:=(by omega);have e1:j=1:=(by omega);subst e0 e1;exact Nf hlt
theorem nQ(hc:kE cmp r N s){p:Array Nat}(hp:PM N p){k:Nat}(hk:k<N)(u:Up r p k){G:Nat->dD}(h:∀l,l<=k->(∀i,i<l->Rk r p i<=Rk r p k)->(∀i,l<=i->i<k->Rk r p k<Rk r p i)->G l s):
  ∀(f l t:Nat),t-l<=f->l<=t->t<=k->(∀i,i<l->Rk r p i<=Rk r p k)->(∀i,t<=i->i<k->Rk r p k<Rk r p i)->(kas_place p k f l t).kasWp cmp G s
 |0,l,t,a,b,c,d,e=>h l ‹0› d λi x y=>e i ‹0› y
 |f+1,l,t,a,b,c,d,e=>by
  unfold kas_place;by_cases hl:l>=t
  ·rw[if_pos hl];exact h l ‹0› d λi x y=>e i ‹0› y
  ·rw[if_neg hl];refine hc _ _ _ (hp.lt hk) (hp.lt ‹0›) ?_;by_cases q:Rk r p k<Rk r p ((l+t)/2)
   ·rw[decide_eq_true q];dsimp only;rw[if_pos rfl];refine nQ hc hp hk u h f l ((l+t)/2) ‹0› ‹0› ‹0› d λi x y=>?_
    have:=u ((l+t)/2) i x y
    omega
   ·rw[decide_eq_false q];dsimp only;rw[if_neg Nn];refine nQ hc hp hk u h f ((l+t)/2+1) t ‹0› ‹0› ‹0› (λi x=>?_) e
    have:=u i ((l+t)/2) ‹0› ‹0›
    omega
theorem yR(hc:kE cmp r N s){G:Array Nat->dD}(h:∀p,PM N p->Up r p N->G p s):∀(f:Nat)(p:Array Nat)(k:Nat),PM N p->k+f=N->Up r p k->(kas_bin f p k).kasWp cmp G s
 |0,p,k,hp,e,u=>h p hp (by rw[<-e];exact u)
 |f+1,p,k,hp,e,u=>by
  unfold kas_bin;rw[KasT.kasWp_bind];have hs:=hp.size;refine nQ hc hp ‹0› u (λl hl d e'=>?_) k 0 k ‹0› (NA _) (Nq _) (λi x=>by omega) λi x y=>by omega
  refine yR hc h f _ (k+1) ((bubble_perm p k _).trans hp) ‹0› λi j hij hj=>?_;rw[AG ‹0› ‹0›,AG ‹0› ‹0›,show k-(k-l)=l by omega];have U:=u;by_cases i1:i=l
  ·rw[if_pos i1];by_cases j1:j=l
   ·rw[if_pos j1];exact Nq _
   ·rw[if_neg j1,if_pos ‹0›];exact Nf (e' (j-1) ‹0› ‹0›)
  ·rw[if_neg i1];by_cases i2:l<i/\i<=k
   ·rw[if_pos i2,if_neg ‹0›,if_pos ‹0›];exact U _ _ ‹0› ‹0›
   ·rw[if_neg i2];by_cases j1:j=l
    ·rw[if_pos j1];exact d i ‹0›
    ·rw[if_neg j1];by_cases j2:l<j/\j<=k
     ·rw[if_pos j2];exact U _ _ ‹0› ‹0›
     ·rw[if_neg j2];exact U _ _ hij ‹0›
theorem De(hc:kE cmp r N s)(h2:1<=N){G:Array Nat->dD}(h:∀p,PM N p->Up r p N->G p s):(kas_sort N).kasWp cmp G s:=by
 unfold kas_sort;rw[KasT.kasWp_bind];refine zQ hc h2 (Array.Perm.refl _) λm p' hp a b u=>?_;dsimp only;by_cases hm:m<N
 ·rw[if_pos hm,show max m 1=m by omega];exact yR hc h _ p' m hp ‹0› u
 ·rw[if_neg hm];exact h p' hp (by rw[show N=m by omega];exact u)
end
theorem t6{prog:RM}{w:RL}{A:RV}{s:RK}{Q:Bool->dD}{fin:Bool}(hf:fin=false){σ:cy}{ns ms:List D}{xs ys:aU}{i:Nat}(h1:Sh σ ns)(h2:Sh σ ms)(f1:fE xs ns)(f2:fE ys ms)(h:Q (kLt ns ms) s):KatLex prog w A true fin Q (xs.zip ys) i s:=by
 induction h1 generalizing ms xs ys i with
 |nil=>
  cases h2;cases f1;cases f2;subst hf;exact kat_nil (by simpa [kLt,cp]using h)
 |int a h1 ih=>
  cases h2 with|int c h2=>
  cases f1 with|int _ t f1=>
  cases f2 with|int _ u f2=>
  rw[OQ];obtain⟨e,he,hiff⟩:=Ey A s a t c u;refine kat_cons (he prog w _ _ ?_);cases e with
  |true=>
   have ac:=hiff.mp rfl;refine kat_yes (ih h2 f1 f2 ?_);unfold kLt at h ⊢;rw[pK,if_pos ac]at h;exact h
  |false=>
   have ac:¬a=c:=λq=>absurd (hiff.mpr q) Nn;have h':Q (decide (a<c)) s:=by
    unfold kLt at h;rw[pK,if_neg ac]at h;cases hd:decide (a<c)<;>rw[hd]at h<;>exact h
   refine kat_no ?_;cases hi:(i==0)with
   |true=>exact oneLt_int h'
   |false=>exact kat_one _ _ (PySem.P.lt_int (show QS Q (.bool _) s from h'))
 |str a h1 ih=>
  cases h2 with|str c h2=>
  cases f1 with|str _ t f1=>
  cases f2 with|str _ u f2=>
  rw[OQ];obtain⟨e,he,hiff⟩:=E6 A s a t c u;refine kat_cons (he prog w _ _ ?_);cases e with
  |true=>
   have ac:=hiff.mp rfl;refine kat_yes (ih h2 f1 f2 ?_);unfold kLt at h ⊢;rw[pj,if_pos ac]at h;exact h
  |false=>
   have ac:¬a=c:=λq=>absurd (hiff.mpr q) Nn;have h':Q (decide (a.cps.toList<c.cps.toList)) s:=by
    unfold kLt at h;rw[pj,if_neg ac]at h;cases hd:decide (a.cps.toList<c.cps.toList)<;>rw[hd]at h<;>exact h
   refine kat_no ?_;cases hi:(i==0)with
   |true=>exact oneLt_str h'
   |false=>exact kat_one _ _ (PySem.P.lt_str (show QS Q (.bool _) s from h'))
theorem nh{h:RN}{PT:RE->Prop}:∀{its:aU},(∀v∈its,∃a o xs n f,v=.ref a/\h.get? a=some o/\o.cls=.type "tuple"/\o.data=.seq xs n/\xs[0]?=some f/\PT f)->∃fs,KatTups h its fs/\fs.length=its.length/\∀f∈fs,PT f
 |[],_=>⟨[],.nil,rfl,λ_ h=>nomatch h⟩
 |v::its,hh=>by
  obtain⟨a,o,xs,n,f,rfl,h1,h2,h3,h4,h5⟩:=hh v Nh;obtain⟨fs,k1,k2,k3⟩:=nh (its:=its) λu hu=>hh u (Ni _ hu);refine⟨f::fs,.cons h1 h2 h3 h4 k1,by rw[Nv,Nv,k2],λg hg=>?_⟩;rcases List.mem_cons.mp hg with rfl|z
  ·exact h5
  ·exact k3 g z
theorem fE.first{σ:cy}{b:Bool}{xs:aU}{ns:List D}(f:fE xs ns)(h:Sh (b::σ) ns):∃v,xs[0]?=some v/\typeOf v=pure (.type (if b then"int"else"str")):=by
 cases f with
 |nil=>cases h
 |int i t f=>cases h;exact⟨_,rfl,rfl⟩
 |str i t f=>cases h;exact⟨_,rfl,rfl⟩
theorem tI{key:D->List D}{σ:cy}{ds:List D}(h:∀x∈ds,Sh σ (key x))(pw:ds.Pairwise λx y=>key x≠key y){p:Array Nat}(hp:PM ds.length p)(hu:Up (rank (ds.map key)) p ds.length):p.toList.map (λi=>ds.getD i .non)=mh key ds:=by
 have hr:p.toList.Perm (List.range ds.length):=by
  have:=Array.perm_iff_toList_perm.mp hp
  simpa using this
 have hmap:(List.range ds.length).map (λi=>ds.getD i .non)=ds:=by
  apply Pa
  ·simp
  ·intro i h1 h2;simp at h1;simp[h1]
 have hperm:(p.toList.map λi=>ds.getD i .non).Perm ds:=by
  have:=hr.map (λi=>ds.getD i .non)
  rwa [hmap]at this
 have hn:p.toList.Nodup:=hr.nodup_iff.mpr List.nodup_range;refine(n9 h pw ?_ hperm).symm;have hl:p.toList.length=ds.length:=by rw[hr.length_eq,Ou]
 have kd:∀i,i<ds.length->(ds.map key).getD i []=key (ds.getD i .non):=λi hi=>by simp[hi]
 have hsh:∀k∈ds.map key,Sh σ k:=λk hk=>by
  obtain⟨x,hx,rfl⟩:=List.mem_map.mp hk;exact h x hx
 unfold sZ;rw[Pb,List.pairwise_iff_getElem];intro i j hi hj hij;have hi':p.toList[i]<ds.length:=by simpa using hr.mem_iff.mp (O9 hi)
 have hj':p.toList[j]<ds.length:=by simpa using hr.mem_iff.mp (O9 hj)
 have ne:p.toList[i]≠p.toList[j]:=List.pairwise_iff_getElem.mp hn i j hi hj hij;have up:=hu i j ‹0› ‹0›;have gi:p.getD i 0=p.toList[i]:=by
  have:i<p.size:=by rw[<-Array.length_toList];exact hi
  simp[Array.getD,this]
 have gj:p.getD j 0=p.toList[j]:=by
  have:j<p.size:=by rw[<-Array.length_toList];exact hj
  simp[Array.getD,this]
 unfold Rk at up;rw[gi,gj]at up;have rl:=vE hsh (i:=p.toList[j]) (j:=p.toList[i]) (by rw[Nx];exact hj') (by rw[Nx];exact hi');rw[kd _ hj',kd _ hi',decide_eq_false ‹0›]at rl;have ei:ds.getD p.toList[i] .non=ds[p.toList[i]]:=by rw[Ph,Od hi'];rfl
 have ej:ds.getD p.toList[j] .non=ds[p.toList[j]]:=by rw[Ph,Od hj'];rfl
 have s1:=h _ (show ds.getD p.toList[i] .non∈ds by rw[ei];exact O9 hi');have s2:=h _ (show ds.getD p.toList[j] .non∈ds by rw[ej];exact O9 hj');rcases js s1 s2 with⟨z,_⟩|z|⟨z,_⟩
 ·exact z
 ·exfalso;have pw':=List.pairwise_iff_getElem.mp pw;rw[ei,ej]at z;rcases Pj ne with q|q
  ·exact pw' _ _ hi' hj' q z
  ·exact pw' _ _ hj' hi' q z.symm
 ·rw[Dh.mpr z]at rl;cases rl
theorem pZ{vs:aH}{us:aU}(r:Vals vs us):∀l:List Nat,(∀i∈l,i<vs.length)->Vals (l.map λi=>vs.getD i .non) (l.map λi=>us.getD i Value.none)
 |[],_=>.nil
 |i::l,h=>by
  have hi:=h i Nh;obtain⟨u,e,q⟩:=r.get (i:=i) (x:=vs[i]) (by simp[hi]);refine .cons ?_ (pZ r l λj hj=>h j (Ni _ hj));have e1:vs.getD i .non=vs[i]:=by simp[hi]
  have e2:us.getD i Value.none=u:=by simp[Ph,e]
  show L2.RelV (vs.getD i .non) (us.getD i Value.none);rw[e1,e2];exact q
theorem pX{K:Qw}{H:Hp}{ds:List D}{vs:aH}(g:aX K H ds vs):∀l:List Nat,(∀i∈l,i<ds.length)->aX K H (l.map λi=>ds.getD i .non) (l.map λi=>vs.getD i .non)
 |[],_=>cD.mpr rfl
 |i::l,h=>by
  have hi:=h i Nh;obtain⟨v,e,q⟩:=g.get (i:=i) (d:=ds[i]) (by simp[hi]);refine bH.mpr ⟨_,_,rfl,?_,pX g l λj hj=>h j (Ni _ hj)⟩;have e1:ds.getD i .non=ds[i]:=by simp[hi]
  have e2:vs.getD i .non=v:=by simp[Ph,e]
  show cz K H (ds.getD i .non) (vs.getD i .non);rw[e1,e2];exact q
end TG
namespace TG
open PySem PySem.Spec L2
variable[aC]
section
variable{X:Cx}{tg:RH}
end
end TG
namespace TG
open PySem PySem.Spec L2
variable[aC]
end TG
namespace TG
open PySem PySem.Spec L2
variable[aC]
end TG
namespace TG
open PySem PySem.Spec L2
variable[aC]
end TG
namespace TG
open PySem PySem.Spec L2
variable[aC]
end TG
namespace TG
open PySem PySem.Spec PySem.W PySem.Calls PyProof.Rows Builtin Builtin.ObjectAttr Builtin.Getset_descriptor
variable[aC]
section
variable{prog:RM}{w:RL}{A:RV}{E:RE->RK->Prop}{s:RK}{K:Frag}{x D:RG}{ox:Obj}{R:Ss->RK->Prop}
structure AV(K:Frag)(D:RG):Prop where
 ga:findIn K (.ref D) "__getattribute__"=some (some (.builtin "BaseException.__getattribute__"))
 gn:findIn K (.ref D) "__getattr__"=some none
 fc:findIn K (.ref D) "__class__"=some (some (.builtin "object.__class__"))
 sg:specialIn K (.builtin "object.__class__") "__get__"=some (some (.builtin "getset_descriptor.__get__"))
 tk:takesIn K (.builtin "object.__class__")=some true
 ob:mroIn K D (.type "object")=some true
 be:mroIn K D (.type "BaseException")=some true
end
end TG
namespace TG
open PySem PySem.Spec PySem.W PySem.Calls PyProof.Rows Builtin Builtin.ObjectAttr Builtin.Getset_descriptor
noncomputable def uh:List RE->Bool
 |.ref _::r=>uh r
 |l=>l==[.type "ValueError",.type "Exception",.type "BaseException",.type "object"]
noncomputable def uU(K:Frag)(D:RG):Bool:=(clsIn K D).any λcd=>uh cd.mro
theorem pL(self:RE):∀{l:List RE},uh l=true->refuseLoop self "__setattr__" l=pure ()/\l.contains (.type "object")=true/\l.isEmpty=false
 |[],h=>by cases h
 |c::r,h=>by
  cases c with
  |ref C=>
   obtain⟨h1,h2,_⟩:=pL self (l:=r) h;exact⟨by rw[refuseLoop_ref];exact h1,by rw[OS,h2,Pk],rfl⟩
  |_=>
   have e:=eq_of_beq (show(_==_)=true from h);rw[e];exact⟨PySem.F.store_ValueError.passes self,by decide +kernel,rfl⟩
section
variable{prog:RM}{w:RL}{A:RV}{E:RE->RK->Prop}{s:RK}{K:Frag}{x D:RG}{ox:Obj}{od:Option Obj}{name:Str}{v:RE}{tk:Tok}{R:Ss->RK->Prop}
theorem vZ(X:K.In s.heap)(I:InstAt s.heap x ox D od)(hp:uU K D=true)(ha:findIn K (.ref D) name=some none)
  (h:RY (model prog w) A.in1 (storeInOwnDict (.ref x) (.ref D) (.str name tk) name v false) (λfin s'=>match fin with|.done f=>R (.ok f) s'|.again c'=>c'.quiet=true/\Su (model prog w) A c' R s') (λe s'=>R (.error e) s') s):
  Su (model prog w) A (.call (.builtin "object.__setattr__") ⟨[.ref x,.str name tk,v],[]⟩) R s:=by
 have SF:=PySem.F.store_object;obtain⟨cd,hc,ho⟩:=any_some hp;obtain⟨v1,v2,v3⟩:=pL (.ref x) ho;have k1:Looks (model prog w) s.heap (isInstance (.ref x) (.type "object")) true:=I.type.andThen (looks_mroIn X (by unfold mroIn;rw[hc,Option.bind_some,if_neg (by rw[v3];decide),v2]));have k2:Looks (model prog w) s.heap (mroOf (.ref D)) cd.mro:=(looks_clsIn X hc).andThen .now;refine codeAny_call_builtin SF.slot.plain SF.entry (@check_slot (model prog w) _ _ s "object.__setattr__" "object" "__setattr__" (.ref x) [.str name tk,v] [] _ SF.kind SF.split k1 (SF.args (.ref x) (.str name tk) v) ?_);rw[osa_eq,refuse_eq];refine Sd (Sd (I.type.here (Sd (k2.here ?_))));rw[v1];refine Sb (Sd (I.type.here (Sd ((looks_findIn X ha).here (Sd (Sb ?_))))));exact h
end
section
variable{prog:RM}{w:RL}{A:RV}{E:RE->RK->Prop}{s:RK}{K:Frag}{x D dx:RG}{ox:Obj}{od:Option Obj}{name:Str}{v:RE}{tk:Tok}{R:Ss->RK->Prop}{mA:Str->Option RE}{ns:List Str}{Q:Unit->RK->Prop}
structure EE(K:Frag)(D:RG):Prop where
 sa:findIn K (.ref D) "__setattr__"=some (some (.builtin "object.__setattr__"))
 ov:uU K D=true
 hd:hasDictIn K D=true
theorem BK(Z:EE K D)(X:K.In s.heap)(hx:s.heap.get? x=some ox)(hc:ox.cls=.ref D)(hn:notCls ox=true)(hd:ox.dict=some dx)(hns:s.heap.Ns1 dx mA)(ha:findIn K (.ref D) name=some none)(hw:PySem.Within mA ns)(hsz:ns.length<=RO)
  (h:∀h',h'.Ns1 dx (λy=>if y=name then some v else mA y)->Rh dx s.heap h'->Q () {s with heap:=h',toks:=s.toks+2}):RY (model prog w) A (setAttr (.ref x) name v) Q E s:=by
 obtain⟨oD0,ho0,hl0⟩:=L2.xq hns;have I:InstAt s.heap x ox D (some oD0):=⟨hx,hc,hn,by rw[hd];exact ho0⟩
 refine set_plain X I Z.sa (vZ (s:={s with toks:=s.toks+1}) X I Z.ov ha ?_);obtain⟨cd,c1,c2⟩:=any_some Z.hd;obtain⟨oc,odi,oda,osl⟩:=ox;dsimp only at hc hd;subst hc hd;refine Sd (Sb (Sd (Sd (Sn hx (Sd (Looks.here (s:={s with toks:=s.toks+1}) (looks_clsIn X c1) ?_))))));rw[c2];refine Sb (a:=some dx) (Sd (Sb (Sd ?_)));refine wpAny_nsSet1 (s:={s with toks:=s.toks+1}) hns λh' n2 s2=>?_;obtain⟨o3,es3,ep3,q1,q2,q3⟩:=n2.count (PySem.Within.cons name v hw);refine Sd (Sq q1 (by rw[q2];exact Sr (Nc q3 (by rw[Nv];omega))) ?_);exact Sb (h _ n2 s2)
theorem yP{vs:Array RE}(Z:EE K D)(X:K.In s.heap)(hx:s.heap.get? x=some ox)(hc:ox.cls=.ref D)(hdat:ox.data=.fields vs)(hd:ox.dict=none)(ha:findIn K (.ref D) name=some none)
  (h:∀h',h'.Ns1 s.heap.objs.size (λy=>if y=name then some v else none)->Rh s.heap.objs.size ((s.heap.push {cls:=.type "dict",data:=.dict #[]}).update x λo=>{o with dict:=some s.heap.objs.size}) h'->Q () {s with heap:=h',toks:=s.toks+2}):RY (model prog w) A (setAttr (.ref x) name v) Q E s:=by
 obtain⟨oc,odi,oda,osl⟩:=ox;dsimp only at hc hd hdat;subst hc hd hdat;have I:InstAt s.heap x ⟨.ref D,none,.fields vs,osl⟩ D none:=⟨hx,rfl,rfl,trivial⟩
 refine set_plain X I Z.sa (vZ (s:={s with toks:=s.toks+1}) X I Z.ov ha ?_);obtain⟨cd,c1,c2⟩:=any_some Z.hd;refine Sd (Sb (Sd (Sd (Sn hx (Sd (Looks.here (s:={s with toks:=s.toks+1}) (looks_clsIn X c1) ?_))))));rw[c2];have hx1:(s.heap.push {cls:=.type "dict",data:=.dict #[]}).get? x=some ⟨.ref D,none,.fields vs,osl⟩:=Ri _ hx;have ne:x≠s.heap.objs.size:=Nb (Rf hx);rw[if_neg (by decide)];dsimp only;rw[if_neg (by simp[typeHasDict])];refine Sd (wpAny_alloc' (Sd (wpAny_update' hx1 (Sb ?_))));have g1:((s.heap.push {cls:=.type "dict",data:=.dict #[]}).update x λo=>{o with dict:=some s.heap.objs.size}).get? s.heap.objs.size=some {cls:=.type "dict",data:=.dict #[]}:=(Ro _ _ _ _ ne.symm).trans (Rp rfl rfl);have g3:((s.heap.push {cls:=.type "dict",data:=.dict #[]}).update x λo=>{o with dict:=some s.heap.objs.size}).Ns s.heap.objs.size (λ_=>none):=⟨_,#[],_,g1,rfl,λe he=>absurd he (by simp),λ_=>rfl⟩
 show RY _ _ (storeInDict s.heap.objs.size (.str name s.toks) name v) _ _ _;unfold storeInDict newKeyGuard;refine Sd (Sb (Sd (wpAny_nsSet1 (Heap.Ns1.of_empty g3) λh' n2 s2=>?_)));obtain⟨o3,es3,ep3,q1,q2,q3⟩:=n2.count (PySem.Within.cons name v PySem.Within.nil);refine Sd (Sq q1 (by rw[q2];exact Sr (Nc q3 (by rw[Nv,O0,Sl];omega))) ?_);exact Sb (h h' n2 s2)
end
end TG
namespace TG
open PySem PySem.Spec L2
variable[aC]
open PyProof.Rows (AllBare OwnCls)
section
variable{X:Cx}{pins:bn}{σ:St}{H:Hp}{s:RK}{h':RN}
theorem v8(I:Inv X pins σ H s)(hx:X.ex=[])(hst:X.stack=X.env::X.outer)(hf:X.env.frame=some X.env.locals)(hfn:∀x,X.fn x=true)(us:s.heap.UpToSlots h')(k:∀b o,s.heap.get? b=some o->gX X H b->b∉frs X.stack->h'.get? b=some o):
  Inv X [] σ H {s with heap:=h'}:=by
 have un:=zG I hx hst hf us k;have cellF:∀x c,X.env.cells.lookup x=some c->c∉frs X.stack:=λx c e z=>by
  obtain⟨v,o,q,d⟩:=I.cell x c e;rw[hst]at z;have z':c∈X.env.locals::frs X.outer:=by
   have:frs (X.env::X.outer)=X.env.locals::frs X.outer:=(by show List.filterMap _ (_::_)=_;rw[Ng,hf];rfl);rw[this]at z;exact z
  rcases List.mem_cons.mp z' with z|z
  ·obtain⟨m,⟨o2,es,ep,e2,d2,_⟩,_⟩:=I.loc;rw[<-z,q]at e2;cases e2;rw[d]at d2;cases d2
  ·obtain⟨_,o2,e2,_⟩:=I.ok.funs.mem z;exact M9 _ (M8 (Rf e2) (I.ok.cab x c (hfn x) e))
 have cellK:∀x c v,X.env.cells.lookup x=some c->s.heap.IsCell c v->h'.IsCell c v:=λx c v e ⟨o,q,d⟩=>⟨o,k c o q (.inr (.inr (.inr ⟨x,e⟩))) (cellF x c e),d⟩
 obtain⟨m,hn,hl⟩:=I.loc;refine⟨I.ok,I.os,I.bare,by rw[hx];exact un,⟨m,us.ns hn,λi x v e1 e2 e3=>?_⟩,λx c e=>?_,I.free,I.freeC,λp hp=>?_,wu I k,I.len⟩
 ·obtain⟨u,r,q⟩:=hl i x v e1 e2 e3;refine⟨u,r,?_⟩;rcases q with q|⟨q1,c,q2,q3⟩
  ·exact .inl q
  ·exact .inr ⟨q1,c,q2,cellK x c _ q2 q3⟩
 ·obtain⟨v,q⟩:=I.cell x c e;exact⟨v,cellK x c v e q⟩
 ·rw[NB]at hp;obtain⟨e,n,ne,nf,d⟩:=I.pin p (Nj _ hp);have nfs:p.1∉frs X.stack:=λz=>by
   have:frs X.stack=X.env.locals::frs X.outer:=(by rw[hst];show List.filterMap _ (_::_)=_;rw[Ng,hf];rfl);rw[this]at z;rcases List.mem_cons.mp z with z|z
   ·exact ne z
   ·exact nf z
  exact⟨k _ _ e (.inr (.inr (.inl ⟨p.2,hp⟩))) nfs,n,ne,nf,d⟩
end
abbrev Gy:aU:=[.type "ValueError",.type "Exception",.type "BaseException",.type "object"]
theorem CO{K:Qw}{h:RN}{C:RG}{bmB:aU}{newId:String}(X:K.In h)(q:QT K C bmB newId=true)(x:Str):OwnCls x C bmB newId (λ_=>some (.ref C)) h:=by
 constructor
 ·rfl
 ·unfold QT at q;split at q
  ·rename_i od data slots look;split at q
   ·rename_i C0 tl s0 s1 s2 s3 nid s5 e1 e2;simp only[NU,beq_iff_eq,Pl]at q;obtain⟨⟨⟨⟨⟨y1,y2⟩,y3⟩,y4⟩,y5⟩,y6⟩:=q;subst y1 y2;obtain⟨d1,d2,d3,d4,d5,d6,d7,d8,d9,d10,d11⟩:=data;dsimp only at e1 y3 y5 y6;subst e1 y3;have hs:slots=#[s0,s1,s2,s3,some (.builtin nid),s5]:=by
     cases slots with
     |mk l=>rw[show l=_ from e2]
    subst hs;exact⟨tl,d4,d1,d5,d2,d6,d7,d8,d9,d10,od,s0,s1,s2,s3,s5,_,X _ _ look,.of_isNs (QU X y5),PySem.W.nsMap_none_of_in X y5 y6,QV X y4⟩
   ·cases q
  ·cases q
noncomputable def ExcAt(K:Qw)(mg:bP)(x:Str):Prop:=∃C,clsAt K x C/\mg x=some (.ref C)/\QT K C Gy "ValueError.__new__"=true
noncomputable def eS(c:Str)(f:aW):bU:=λk ρ=>ll (f ρ) k ρ λds=>if small ds.length then k.ex ⟨c,[],[]⟩ ρ else un
theorem iq{base B h h':RN}(k:∀b o,h.get? b=some o->h'.get? b=some o):∀{l:List Env},(∀b∈frs l,B.get? b=none)->h.FunFrames base l->h'.FunFrames B l
 |[],_,_=>trivial
 |env::l,hb,⟨h1,⟨L,o,h2,_,h3,h4⟩,h5⟩=>by
  have mem:L∈frs (env::l):=by show L∈List.filterMap _ (_::_);rw[Ng,h2];exact Nh
  refine⟨h1,⟨L,o,h2,hb L mem,k _ _ h3,h4⟩,iq k (λb z=>hb b ?_) h5⟩;show b∈List.filterMap _ (_::_);rw[Ng,h2];exact Ni _ z
section
variable{X:Cx}{pos:Pos}
theorem zb{pins:bn}{σ:St}{H:Hp}{s:RK}{h':RN}{e C:RG}{us:aU}(I:Inv X pins σ H s)(m:Rq s.heap h' e (.ref C) us):tD X H {s with heap:=h'} e C none:=by
 have hd:∀b o,(jA s.heap (λb=>if b∈frs X.stack then some (.tup [])else none)).get? b=some o->s.heap.get? b=some o/\b∉frs X.stack:=λb o q=>by
  obtain⟨q1,q2⟩:=jU q;refine⟨q1,λz=>?_⟩;rw[if_pos z]at q2;cases q2
 obtain⟨t,m1,m2,m3⟩:=m.there;refine⟨λoe q=>by rw[m1]at q;cases q;rfl,jA s.heap (λb=>if b∈frs X.stack then some (.tup [])else none),.ref t,λb o q=>m.keeps b o (hd b o q).1,?_,iq m.keeps (λb hb=>?_) I.stack,.inr ⟨_,_,m1,rfl,rfl,rfl,rfl⟩,λb o q kb nf=>?_⟩
 ·cases q:(jA s.heap (λb=>if b∈frs X.stack then some (.tup [])else none)).get? e with
  |none=>rfl
  |some o=>have:=(hd e o q).1;rw[m.new]at this;cases this
 ·cases q:(jA s.heap (λb=>if b∈frs X.stack then some (.tup [])else none)).get? b with
  |none=>rfl
  |some o=>exact absurd hb (hd b o q).2
 ·obtain⟨o1,e1⟩:∃o1,s.heap.get? b=some o1:=by
   rcases kb with⟨⟨o0,z⟩,nx⟩|z|⟨o0,z⟩|⟨y,z⟩
   ·exact I.base.there b o0 z nx
   ·cases q0:H b with
    |none=>exact absurd q0 z
    |some ob=>exact uP (I.hok b ob q0)
   ·exact⟨_,(I.pin _ (Nj _ z)).1⟩
   ·obtain⟨v,o0,z0,_⟩:=I.cell y b z;exact⟨o0,z0⟩
  have:=m.keeps b o1 e1
  rw[show h'.get? b=some o from q]at this;cases this;exact jb e1 (if_neg nf)
end
end TG
namespace TG
open PySem PySem.Spec L2
variable[aC]
noncomputable abbrev uS(X:Cx)(E:bD)(pn:bn):Cx:={X with xe:=E,pn:=pn}
noncomputable abbrev sY(X:Cx)(A:RV)(pn:bn):Cx:={X with A:=A,xe:=λ_ _=>False,calm:=false,pn:=pn}
section
variable{X:Cx}{pins:bn}{σ:St}{H:Hp}{s:RK}{E:bD}{A:RV}
theorem CF(I:L2.Inv X pins σ H s)(E:bD):L2.Inv (uS X E (X.pn++pins)) [] σ H s:=
 ⟨⟨I.ok.mod,I.ok.kind,I.ok.glob,I.ok.blt,I.ok.above,I.ok.inj,I.ok.has,I.ok.cab,I.ok.hd,I.ok.frames,I.ok.stk,I.ok.exf,I.ok.bs,I.ok.bsz,I.ok.noex,I.ok.exfs,I.ok.funs,I.ok.frf⟩,
  I.os,I.bare,I.base,I.loc,I.cell,I.free,I.freeC,λp hp=>I.pin p (by simpa using hp),I.hok,I.len⟩
theorem fz{E':bD}{A':RV}{c':Bool}(ok:X.Ok)(I:L2.Inv {X with A:=A',xe:=E',calm:=c',pn:=X.pn++pins} [] σ H s):L2.Inv X pins σ H s:=
 ⟨ok,I.os,I.bare,I.base,I.loc,I.cell,I.free,I.freeC,λp hp=>I.pin p (by simpa using hp),I.hok,I.len⟩
theorem se{pn:bn}{ps:bn}(I:L2.Inv (uS X E pn) ps σ H s)(hA:A.frames=X.A.frames):L2.Inv (sY X A pn) ps σ H s:=
 ⟨⟨I.ok.mod,I.ok.kind,I.ok.glob,I.ok.blt,I.ok.above,I.ok.inj,I.ok.has,I.ok.cab,(fun z=>nomatch z),by rw [show (sY X A pn).A=A from rfl,hA]; exact I.ok.frames,I.ok.stk,I.ok.exf,I.ok.bs,I.ok.bsz,I.ok.noex,I.ok.exfs,I.ok.funs,I.ok.frf⟩,
  I.os,I.bare,I.base,I.loc,I.cell,I.free,I.freeC,I.pin,I.hok,I.len⟩
theorem xX{e C:RG}{dx:Option RG}(fl:tD X H s e C dx):∃oe vs,s.heap.get? e=some oe/\oe.cls=.ref C/\oe.data=.fields vs:=by
 obtain⟨_,B,a0,_,_,_,b4,_⟩:=fl;rcases b4 with⟨oe,vs,T,oT,ts,h1,h2,h3,_⟩|⟨oe,vs,h1,h2,h3,_⟩
 ·exact⟨oe,vs,h1,h2.1,h3⟩
 ·exact⟨oe,vs,h1,h2,h3⟩
theorem BU{M:RX}{e C:RG}{dx:Option RG}{Q:Unit->dD}(hfr:A.frames=some X.stack)(hst:X.stack=X.env::X.outer)(hf:X.env.frame=some X.env.locals)(fl:tD X H s e C dx)
  (hQ:∀B a0 h',Heap.HeldW B X.stack e (.ref C) a0 X.env.locals h'->s.heap.UpToSlots h'->(∀b o,s.heap.get? b=some o->gX X H b->b∉frs X.stack->B.get? b=some o)->DS s.heap h'->Q () {s with heap:=h'}):
  RY M A (noteFrame (.ref e) X.env) Q E s:=by
 obtain⟨_,B,a0,b1,b2,b3,b4,b5⟩:=fl;rw[hst]at hfr b3;refine DP.go (wV _ _) (P:=λh'=>Heap.HeldW B X.stack e (.ref C) a0 X.env.locals h'/\s.heap.UpToSlots h') ?_ λh' z ds=>hQ B a0 h' z.1 z.2 b5 ds;rcases b4 with b4|⟨oe,vs,c1,c2,c3,c4,c5⟩
 ·exact wpAny_looks_onW hfr hf ⟨b1,b2,b3,b4⟩ λh' hd us=>⟨h',rfl,by rw[hst];exact hd,us⟩
 ·unfold noteFrame;simp only[hf];refine Sd (SV c1 c3 c4 ?_);rw[if_neg (by decide)];refine wpAny_entryW hfr b3 hf c1 b1 b2 c3 (Array.getElem?_eq_some_iff.mp c4).1 c5 λh' hN=>?_;obtain⟨k1,k2,k3,k4⟩:=hN;exact⟨h',rfl,⟨k1,b2,by rw[hst];exact k2,c2 ▸ k3⟩,k4⟩
end
noncomputable def sL(K:Qw)(mg:bP)(g:Str)(cs:au):Prop:=∃G,mg g=some (.ref G)/\∀c∈cs,∀C,clsAt K c C->QW K (.ref C) (.ref G)=some true
end TG
namespace TG
open PySem PySem.Spec L2
variable[aC]
theorem A9{K:Qw}{C:RG}{v:RE}(h:QX K C v=some true):(PySem.W.clsIn K C).isSome=true:=by
 unfold QX at h;cases e:PySem.W.clsIn K C with
 |none=>rw[e]at h;cases h
 |some c=>rfl
theorem j8{K:Qw}{C G:RG}(hb:QY K (.ref G) (.type "BaseException")=some true)(hs:QY K (.ref C) (.ref G)=some true)(ho:QX K G (.type "object")=some true)(ht:QH K (.ref G)=some (.type "type")):QW K (.ref C) (.ref G)=some true:=by
 unfold QW;rw[if_pos (by rw[hb];rfl)];unfold PySem.W.kitCls;dsimp only;rw[if_pos (by rw[A9 ho,ht];rfl)];exact hs
theorem Am{K:Qw}{mg:bP}{g:Str}{G:RG}{cs:au}(hm:mg g=some (.ref G))(h:∀c∈cs,∃C,clsAt K c C/\QW K (.ref C) (.ref G)=some true):sL K mg g cs:=⟨G,hm,λc hc C hC=>by
 obtain⟨C',h1,h2⟩:=h c hc;cases cH hC h1;exact h2⟩
end TG
namespace TG
open PySem PySem.Spec L2
variable[aC]
end TG
namespace TG
open PySem PySem.Spec L2
noncomputable def lq(P:RG)(pos:Pos)(q:Str):(RG->Prop)->RN->Prop:=λS h=>h.get? P=some (QZ #[])\/∃c,S c/\h.get? P=some (QZ #[rawInt pos.line,rawInt pos.col,.ref c])/\h.CodeRec (.ref c) q
theorem lq.stay{P:RG}{pos:Pos}{q:Str}{S1 S2:RG->Prop}{h1 h2:RN}(x:lq P pos q S1 h1)(s:∀b,S1 b->S2 b)(k:∀b o,(b=P\/S1 b)->h1.get? b=some o->h2.get? b=some o):lq P pos q S2 h2:=by
 rcases x with e|⟨c,hc,e,c',o,vs,t,ec,e1,r⟩
 ·exact .inl (k _ _ (.inl rfl) e)
 ·cases ec;exact .inr ⟨c,s c hc,k _ _ (.inl rfl) e,c,o,vs,t,rfl,k _ _ (.inr hc) e1,r⟩
theorem lq.ok{Pg:RM}{w:RL}{H:Hp}{h:RN}{P:RG}{pos:Pos}{q:Str}(x:lq P pos q (λb=>H b=some (.own P)) h):dE Pg w H h P (.ext (lq P pos q)):=
 ⟨x,by rcases x with e|⟨_,_,e,_⟩<;>exact⟨_,e⟩,λ_ _ _ _ x s k=>x.stay s k⟩
noncomputable abbrev qG(P:RG)(pos:Pos)(q:Str):aC:=⟨λH=>H P=some (.ext (lq P pos q)),λh e=>e _ _ h,λ{H p o o'} h hp m=>by
 rw[ay]
 ·exact h
 ·rintro rfl;rw[h]at hp;cases hp;exact m⟩
open PySem PySem.Spec PyProof.Rows PySem.W L2
variable[aC]
noncomputable def oR(key:List D)(h:RN)(k:RE):Prop:=∃b o xs n,k=.ref b/\h.get? b=some o/\o.cls=.type "tuple"/\o.data=.seq xs n/\fE xs.toList key
theorem oR.keep{key:List D}{h h':RN}{k:RE}(x:oR key h k)(kp:∀b o,h.get? b=some o->h'.get? b=some o):oR key h' k:=by
 obtain⟨b,o,xs,n,e,ho,r⟩:=x;exact⟨b,o,xs,n,e,kp _ _ ho,r⟩
theorem oR.stay{key:List D}{h h':RN}{k:RE}{c:RG}{xs:fJ}{n:Nat}(x:oR key h k)(hc:h.get? c=some (seqObj "list" xs n))(kp:∀b o,b≠c->h.get? b=some o->h'.get? b=some o):oR key h' k:=by
 obtain⟨b,o,ys,m,e,ho,hk,r⟩:=x;refine⟨b,o,ys,m,e,kp _ _ (λz=>?_) ho,hk,r⟩;subst z;rw[hc]at ho;cases ho;revert hk;show¬(Value.type "list"=Value.type "tuple");simp
section
variable{prog:RM}{w:RL}{A:RV}{E:bD}{s:RK}
theorem yH{ks:aU}{keys:bw}{σ:cy}{b:Bool}{Q:SortKind->dD}(hl:ks.length=keys.length)(hsh:∀k∈keys,Sh (b::σ) k)(h1:1<=ks.length)
  (hk:∀i,i<ks.length->oR (keys.getD i []) s.heap (ks.getD i Value.none)) (h:Q (tuples' true) s):RY (model prog w) A (keyKind' ks.toArray) Q E s:=by
 obtain⟨fs,t1,t2,t3⟩:=nh (h:=s.heap) (PT:=λf=>typeOf f=pure (.type (if b then"int"else"str"))) (its:=ks) λv hv=>by
  obtain⟨i,hi,rfl⟩:=Oi hv;obtain⟨a,o,xs,n,e1,ho,hc,hd,ff⟩:=hk i hi;have hi':i<keys.length:=by omega
  have gk:keys.getD i []=keys[i]:=by simp[hi']
  rw[gk]at ff;obtain⟨f,ef,tf⟩:=ff.first (hsh _ (O9 hi'));have gv:ks.getD i Value.none=ks[i]:=by simp[hi]
  rw[gv]at e1;exact⟨a,o,xs,n,f,e1,ho,hc,hd,by simpa using ef,tf⟩
 refine kat_kind (T:=.type (if b then"int"else"str")) t1 ‹0› (λf hf=>Looks.of_pure (t3 f hf)) (by cases b<;>rfl) ?_
 have:(Value.type (if b then"int"else"str") !=Value.type "tuple")=true:=by cases b<;>rfl
 rw[this];exact h
theorem uG{ks:aU}{keys:bw}{σ:cy}{b:Bool}(hl:ks.length=keys.length)(hsh:∀k∈keys,Sh (b::σ) k)
  (hk:∀i,i<ks.length->oR (keys.getD i []) s.heap (ks.getD i Value.none)):kE (kas_ask prog w A (tuples' true) ks) (rank keys) ks.length s:=by
 intro i j C hi hj hC;obtain⟨a,o,xs,n,e1,ho,hc,hd,ff⟩:=hk i hi;obtain⟨a2,o2,xs2,n2,e2,ho2,hc2,hd2,ff2⟩:=hk j hj;unfold kas_ask;rw[e1,e2];have hi':i<keys.length:=by omega
 have hj':j<keys.length:=by omega
 have gi:keys.getD i []=keys[i]:=by simp[hi']
 have gj:keys.getD j []=keys[j]:=by simp[hj']
 have sh1:=hsh _ (O9 hi');have sh2:=hsh _ (O9 hj');have rl:=vE (ks:=keys) hsh hi' hj';rw[rl]at hC;rw[gi]at ff;rw[gj]at ff2;rw[gi,gj]at hC;refine kat_lt ho hd ho2 hd2 (t6 ?_ sh1 sh2 ff ff2 hC);have z1:xs.size=keys[i].length:=by have:=ff.length;simpa using this
 have z2:xs2.size=keys[j].length:=by have:=ff2.length;simpa using this
 have z3:keys[i].length=keys[j].length:=by rw[Sh.length sh1,Sh.length sh2]
 exact decide_eq_false ‹0›
theorem BH{f:RE}{a:RG}{vs:aU}{n:Nat}{keys:bw}{σ:cy}{b:Bool}{P:PySem.Fin->dD}
  (ho:s.heap.get? a=some (seqObj "list" vs.toArray n)) (h64:vs.length<64) (hl:keys.length=vs.length) (hsh:∀k∈keys,Sh (b::σ) k)
  (hc:∀ (i:Nat) (v:RE) (h':RN) (tk:Nat) (Q':bD),vs[i]?=some v->(∀ c o,c≠a->s.heap.get? c=some o->h'.get? c=some o) ->
   (∀k h'' tk',(∀c o,h'.get? c=some o->h''.get? c=some o)->oR (keys.getD i []) h'' k->Q' k {s with heap:=h'',toks:=tk'})->RY (model prog w) A (call f [v]) Q' (λ_ _=>False) {s with heap:=h',toks:=tk})
  (h:∀ (p:Array Nat) (h':RN) (e tk:Nat),PM vs.length p->Up (rank keys) p vs.length->(∀ c o,c≠a->s.heap.get? c=some o->h'.get? c=some o)->h'.get? a=some (seqObj "list" (List.toArray (p.toList.map fun i=>vs.getD i Value.none)) e) ->
   P (.done (.ret .none)) {s with heap:=h',toks:=tk}):RY (model prog w) A (ksk_tree a f false) P E s:=by
 have ha:a<s.heap.objs.size:=Rf ho;obtain⟨e1,ho1⟩:∃e1,(s.heap.update a (Obj.mapSeq λ_=>(#[]:fJ))).get? a=some (seqObj "list" #[] e1):=⟨_,To ho (λ_=>#[])⟩
 unfold ksk_tree;refine Sd (listItems_at ho rfl ?_);refine Sd (Tp ho rfl ?_ (by rw[Nt,Sl];omega) (NA _));refine Sd (seqEpoch_at ho1 rfl ?_);refine Sd (wpAny_newTuple ?_ (by show vs.length<=_;rw[Sl];omega));refine Sd (wpAny_newList ?_ (NA _));refine SW ?_;have hkS:((s.heap.update a (Obj.mapSeq λ_=>(#[]:fJ))).push (seqObj "tuple" vs.toArray 0)).objs.size=s.heap.objs.size+1:=by rw[size_push',Heap.size_update]
 show RY (model prog w) A (ksk_rest a f false vs.toArray e1 (.ref ((s.heap.update a (Obj.mapSeq λ_=>(#[]:fJ))).push (seqObj "tuple" vs.toArray 0)).objs.size)) P E {s with heap:=((s.heap.update a (Obj.mapSeq λ_=>(#[]:fJ))).push (seqObj "tuple" vs.toArray 0)).push (seqObj "list" #[] 0)};rw[hkS];have hS0:(((s.heap.update a (Obj.mapSeq λ_=>(#[]:fJ))).push (seqObj "tuple" vs.toArray 0)).push (seqObj "list" #[] 0)).get? (s.heap.objs.size+1)=some (seqObj "list" #[] 0):=by rw[<-hkS];exact Rj _ rfl
 have hA0:(((s.heap.update a (Obj.mapSeq λ_=>(#[]:fJ))).push (seqObj "tuple" vs.toArray 0)).push (seqObj "list" #[] 0)).get? a=some (seqObj "list" #[] e1):=Ri _ (Ri _ ho1);have hK0:∀b o,b≠a->s.heap.get? b=some o->(((s.heap.update a (Obj.mapSeq λ_=>(#[]:fJ))).push (seqObj "tuple" vs.toArray 0)).push (seqObj "list" #[] 0)).get? b=some o:=λb o hb e=>
  Ri _ (Ri _ (by rw[Ro _ _ _ _ hb];exact e))
 have hne:a≠s.heap.objs.size+1:=Nb (N2 ha);have hold:∀c o,s.heap.get? c=some o->c≠s.heap.objs.size+1:=λc o e=>Nb (N2 (Rf e));generalize (((s.heap.update a (Obj.mapSeq λ_=>(#[]:fJ))).push (seqObj "tuple" vs.toArray 0)).push (seqObj "list" #[] 0))=h0 at hS0 hA0 hK0;generalize s.heap.objs.size+1=kS at hS0 hne hold;unfold ksk_rest;refine Sd (S8 ?_)
 first
  |rw[List.forIn_toArray]
  |(rw[<-Array.forIn_toList];simp only[Pm])
  |rw[<-Array.forIn_toList]
 refine Sd (ksk_fold (λi s'=>∃(ks:aU)(e:Nat)(h':RN)(tk:Nat),s'={s with heap:=h',toks:=tk}/\ks.length=i/\i<=vs.length/\h'.get? kS=some (seqObj "list" (List.toArray ks) e)/\h'.get? a=some (seqObj "list" #[] e1)/\
  (∀c o,c≠a->s.heap.get? c=some o->h'.get? c=some o)/\∀j,j<i->oR (keys.getD j []) h' (ks.getD j Value.none)) vs 0 _ ⟨[],0,h0,s.toks,rfl,rfl,NA _,hS0,hA0,hK0,λj hj=>absurd hj (Nat.not_lt_zero _)⟩ ?_ ?_)
 ·rintro j x s' hx ⟨ks,e,h',tk,rfl,hlen,hle,hS,hA,hK,hT⟩;rw[OO]at hlen hle hT;have hj:j<vs.length:=by
   rcases Pn j vs.length with z|z
   ·exact z
   ·rw[Pp z]at hx;cases hx
  refine Sd (Tn (R0 (hc j x h' tk (λk s''=>∃h'' tk',s''={s with heap:=h'',toks:=tk'}/\(∀c o,h'.get? c=some o->h''.get? c=some o)/\oR (keys.getD j []) h'' k) hx hK λk h'' tk' kp tK=>⟨h'',tk',rfl,kp,tK⟩) (λk s'' hk=>?_) λ_ _ hF=>hF.elim));obtain⟨h'',tk',rfl,kp,tK⟩:=hk;have nk:=kp _ _ hS;have s1:∀c o,c≠kS->h''.get? c=some o->(h''.update kS (Obj.mapSeq (·.push k))).get? c=some o:=λc o hc' e=>by rw[Ro _ _ _ _ hc'];exact e
  have ea:(List.toArray ks).push k=List.toArray (ks++[k]):=by simp
  obtain⟨c2,hc2⟩:∃c2,(h''.update kS (Obj.mapSeq (·.push k))).get? kS=some (seqObj "list" (List.toArray (ks++[k])) c2):=⟨_,by rw[<-ea];exact To nk (·.push k)⟩
  try dsimp only
  refine Sd (Tp nk rfl ?_ (by rw[Nt,Sl];omega) (Nc (Ny (Array.size_push ..)) (by rw[Nt,Sl];omega)));refine Sb ⟨rfl,ks++[k],c2,_,tk',rfl,by rw[NR,NX];omega,by omega,hc2,s1 _ _ hne (kp _ _ hA),λc o h1 h2=>s1 _ _ (hold c o h2) (kp _ _ (hK c o h1 h2)),λi hi=>?_⟩;refine oR.stay (c:=kS) ?_ nk s1;by_cases z:i=j
  ·subst z
   have:(ks++[k]).getD i Value.none=k:=(by simp[Ph,<-hlen]);rw[this];exact tK
  ·have hi':i<ks.length:=by omega
   have:(ks++[k]).getD i Value.none=ks.getD i Value.none:=(by simp[Ph,NK hi']);rw[this];exact(hT i ‹0›).keep kp
 ·rintro s' ⟨ks,e,h',tk,rfl,hlen,hle,hS,hA,hK,hT⟩;rw[OO]at hlen hT
  try dsimp only
  refine Sd (listItems_at hS rfl ?_);have tail:∀(p:Array Nat)(st:SortSt),(arrOf st).map (·.2)=List.toArray (p.toList.map λi=>vs.getD i Value.none)->failedOf st=none->PM vs.length p->Up (rank keys) p vs.length->RY (model prog w) A (ksk_tail a false e1 (.ref kS) st) P E {s with heap:=h',toks:=tk}:=by
   intro p st hout hf hp hu;obtain⟨ck,hck⟩:∃ck,(h'.update kS (Obj.mapSeq λ_=>(#[]:fJ))).get? kS=some (seqObj "list" #[] ck):=⟨_,To hS λ_=>#[]⟩
   have hA2:(h'.update kS (Obj.mapSeq λ_=>(#[]:fJ))).get? a=some (seqObj "list" #[] e1):=(by rw[Ro _ _ _ _ hne];exact hA);obtain⟨c2,hc2⟩:∃c2,((h'.update kS (Obj.mapSeq λ_=>(#[]:fJ))).update a (Obj.mapSeq λ_=>List.toArray (p.toList.map λi=>vs.getD i Value.none))).get? a=some (seqObj "list" (List.toArray (p.toList.map λi=>vs.getD i Value.none)) c2):=⟨_,To hA2 λ_=>List.toArray (p.toList.map λi=>vs.getD i Value.none)⟩
   unfold ksk_tail
   try dsimp only
   rw[hout];refine Sd (Tp hS rfl ?_ (by rw[Nt,Sl];omega) (NA _));refine Sd (Tl ?_);refine Sd (seqEpoch_at hA2 rfl ?_);simp only[N1,if_false];refine Sd (Tp hA2 rfl ?_ (NA _) (by rw[Nt,Nx,Array.length_toList,hp.size,Sl];omega));rw[hf];simp only[bne_self_eq_false,N1,if_false];exact Sb (h p _ c2 tk hp hu (λc o h1 h2=>by rw[Ro _ _ _ _ h1,Ro _ _ _ _ (hold c o h2)];exact hK c o h1 h2) hc2)
  unfold ksk_end
  try dsimp only
  simp only[N1,if_false];have hl2:ks.length=vs.length:=hlen;by_cases h2:vs.toArray.size<2
  ·rw[if_pos h2,if_pos h2];refine Sd (Sb ?_);rw[StateT.run_pure];refine Sd (Sb ?_);dsimp only;refine tail (List.toArray (List.range vs.length)) _ ?_ rfl (Array.Perm.refl _) λi j hij hj=>?_
   ·refine kat_snds hl2 ?_;show(List.toArray ks).zip vs.toArray=_;have e:=kas_range ((List.toArray ks).zip vs.toArray);rw[show((List.toArray ks).zip vs.toArray).size=vs.length by simp[hl2]]at e;exact e.symm
   ·have:vs.length<2:=by simpa using h2
    have:i=j:=(by omega);subst this;exact Nq _
  ·have h2':2<=vs.length:=by
    have:¬vs.length<2:=(by simpa using h2);omega
   rw[if_neg h2,if_neg h2];refine Sd (yH (s:={s with heap:=h',toks:=tk}) ‹0› hsh ‹0› (λi hi=>hT i ‹0›) ?_);refine Sd (R0 (kat_run (Q:=λst' s'=>∃p:Array Nat,arrOf st'=p.map (kas_item ((List.toArray ks).zip vs.toArray))/\failedOf st'=none/\PM vs.length p/\Up (rank keys) p vs.length/\s'={s with heap:=h',toks:=tk})
    (G:=λp s'=>PM vs.length p/\Up (rank keys) p vs.length/\s'={s with heap:=h',toks:=tk})
    hl2 h2' h64 (λp' st' s' a1 a2 a3 a4=>⟨p',a2,a3,a4.1,a4.2.1,a4.2.2⟩) (by
     have:=uG (prog:=prog) (w:=w) (A:=A) (s:={s with heap:=h',toks:=tk}) (ks:=ks) (keys:=keys) ‹0› hsh (λi hi=>hT i ‹0›)
     rw[hl2]at this;exact De this ‹0› λp hp hu=>⟨hp,hu,rfl⟩)) ?_ λ_ _ e=>e)
   rintro⟨⟨⟩,st'⟩ s' ⟨p,har,hf,hp,hu,rfl⟩;dsimp only;exact tail p st' (kat_snds hl2 har) hf hp hu
theorem tm{src:RE}{f:RG}{vs:aU}{keys:bw}{σ:cy}{b:Bool}{Q:bD}(h64:vs.length<64)(hl:keys.length=vs.length)(hsh:∀k∈keys,Sh (b::σ) k)
  (hcol:∀(Q':aU->dD),(∀h' tk,(∀b o,s.heap.get? b=some o->h'.get? b=some o)->Q' vs {s with heap:=h',toks:=tk})->RY (model prog w) A.in1 (collect src) Q' E s)
  (hc:∀ (i:Nat) (v:RE) (h':RN) (tk:Nat) (Q':bD),vs[i]?=some v->(∀ c o,s.heap.get? c=some o->h'.get? c=some o) ->
   (∀k h'' tk',(∀c o,h'.get? c=some o->h''.get? c=some o)->oR (keys.getD i []) h'' k->Q' k {s with heap:=h'',toks:=tk'})->RY (model prog w) A.in1.in1 (call (.ref f) [v]) Q' (λ_ _=>False) {s with heap:=h',toks:=tk})
  (h:∀(p:Array Nat)(h1 h':RN)(l:RG)(e tk:Nat),PM vs.length p->Up (rank keys) p vs.length->(∀b o,s.heap.get? b=some o->h1.get? b=some o)->(∀b o,h1.get? b=some o->h'.get? b=some o)->h1.objs.size<=l->h'.get? l=some (seqObj "list" (List.toArray (p.toList.map λi=>vs.getD i Value.none)) e)->Q (.ref l) {s with heap:=h',toks:=tk}):
  RY (model prog w) A (call (.builtin "sorted") [src] [(Str.ofString "key",.ref f)]) Q E s:=by
 refine PyProof.Rows.call_function_entry_kw kind_sorted plain_sorted entry_sorted (ksk_s1 _ _) ?_;unfold Builtin.«sorted»;refine Sd (m:=checkCount "sorted" 1 1 _) (Sb ?_);refine Sd (hcol _ λh1 tk k1=>?_);refine Sd (wpAny_newList ?_ (by rw[Sl];omega));have hoL:(h1.push (seqObj "list" vs.toArray 0)).get? h1.objs.size=some (seqObj "list" vs.toArray 0):=Rj _ rfl;have k2:∀b o,s.heap.get? b=some o->(h1.push (seqObj "list" vs.toArray 0)).get? b=some o:=λb o e=>Ri _ (k1 b o e);have ne:∀b o,s.heap.get? b=some o->b≠h1.objs.size:=λb o e=>Nb (Rf (k1 b o e));refine Sd (SW (wpAny_call_entry_kw slot_list_sort ⟨_,hoL,rfl⟩ entry_list_sort ?body (ksk_l1 _ _)))
 case body=>
  show RY (model prog w) A.in1.in1 (Builtin.«list.sort» ⟨[.ref h1.objs.size],[(Str.ofString "key",.ref f)]⟩) _ _ _;rw[ksk_t1];refine BH (s:={s with heap:=h1.push (seqObj "list" vs.toArray 0),toks:=tk}) hoL h64 hl hsh (λi v h' tk' Q' hv hk hq=>hc i v h' tk' Q' hv (λc o e=>hk c o (ne c o e) (k2 c o e)) hq) λp h' e tk' hp hu hk he=>⟨_,rfl,?_⟩
  refine Sb ⟨_,rfl,?_⟩;exact h p h1 h' h1.objs.size e tk' hp hu k1 (λb o q=>hk b o (Nb (Rf q)) (Ri _ q)) (Nq _) he
end
end TG
namespace TG
open PySem PySem.Spec PyProof.Rows PySem.W L2
variable[aC]
noncomputable abbrev cutE(row many:Str)(np mp p2 pos:Pos):RH:=.Subscript (.Name row np) (.Slice none (some (.Name many mp)) none p2) pos
section
variable{prog:RM}{w:RL}{A:RV}{E:bD}{s:RK}
theorem za{env:Env}{row many:Str}{np mp p2 pos:Pos}{r c:RG}{items:fJ}{i:Int}{t:Tok}{m:bP}{Q:bD}
  (hk:env.scope.kind=.function) (hr:env.kindOf row=some .local) (hm:env.kindOf many=some .free) (hn:s.heap.Ns env.locals m) (hrow:m row=some (.ref r)) (hc:env.cells.lookup many=some c) (hcell:s.heap.IsCell c (some (.int i t)))
  (ht:RP s.heap r items) (hz:items.size<=RO) (d1:(row==("__debug__":Str))=false) (d2:(many==("__debug__":Str))=false) (d3:(many==("__classdict__":Str))=false)
  (h:∀b h',(∀c o,s.heap.get? c=some o->h'.get? c=some o)->RP h' b (List.toArray (items.toList.take (HT.sIx items.size items.size (some i))))->Q (.ref b) {s with heap:=h'}):
  RY (model prog w) A (eval (cutE row many np mp p2 pos) env) Q E s:=by
 refine Subscript_ (R1 (wpAny_loadName_local hk hr hn hrow ?_) d1);refine wpAny_Slice ?_;rw[S4,evalPart_some];refine Sb (R1 (wpAny_loadName_free hk hm hc hcell ?_ d3) d2);refine Sb ?_;have kp:∀c o,s.heap.get? c=some o->(s.heap.push {cls:=.type "slice",data:=.fields #[.none,.int i t,.none]}).get? c=some o:=λc o q=>Ri _ q;have ht':RP (s.heap.push {cls:=.type "slice",data:=.fields #[.none,.int i t,.none]}) r items:=by
  obtain⟨o,e,q⟩:=ht;exact⟨o,kp _ _ e,q⟩
 have hs:(s.heap.push {cls:=.type "slice",data:=.fields #[.none,.int i t,.none]}).IsSliceOf s.heap.objs.size .none (.int i t) .none:=Heap.IsSliceOf.new ..
 show RY (model prog w) A (subscriptTail (.Name row np) (.Slice none (some (.Name many mp)) none p2) (.ref r) (.ref s.heap.objs.size)) Q E {s with heap:=s.heap.push {cls:=.type "slice",data:=.fields #[.none,.int i t,.none]}};refine tail_any (ops:=[.ref s.heap.objs.size,.ref r]) ht'.typeIs slot_tuple_getitem.lookup ?_ (by with_unfolding_all rfl);by_cases hw:HT.sIx items.size 0 none=0/\HT.sIx items.size items.size (some i)=items.size
 ·refine fM (s:={s with heap:=s.heap.push {cls:=.type "slice",data:=.fields #[.none,.int i t,.none]}}) ht' hs .none (.int i t) hw ?_;refine h r _ kp ?_;rw[hw.2]
  have:items.toList.take items.size=items.toList:=OB (by simp)
  rw[this]
  simpa using ht'
 ·refine HT.vP (s:={s with heap:=s.heap.push {cls:=.type "slice",data:=.fields #[.none,.int i t,.none]}}) ht' hs .none (.int i t) hw ?_ hz;refine h _ _ (λc o q=>Ri _ (kp c o q)) ?_;have e0:HT.sIx items.size 0 none=0:=rfl;rw[e0,N7,Ow];exact⟨_,Rj _ rfl,rfl,_,rfl⟩
theorem Bo{f c' cc r:RG}{row many qual:Str}{params:SK}{scope:RW}{np mp p2 pos:Pos}{pm ctv:RE}{items:fJ}{i:Int}{t:Tok}{Q:bD}
  (hf:s.heap.get? f=some (Tq "<lambda>" qual params (cutE row many np mp p2 pos) scope [(many,cc)] pm c' ctv)) (hcd:s.heap.CodeRec (.ref c') qual) (hroom:A.depth<Sz) (hlim:s.heap.NoLimit)
  (hbind:∀v,bindArgs (kla_fn "<lambda>" qual params (cutE row many np mp p2 pos) scope [(many,cc)] pm (.ref c') ctv) ⟨[v],[]⟩=pure [(row,v)])
  (hco:scope.isCoroutine=false) (hgen:scope.isGenerator=false) (hk:scope.kind=.function) (hno:∀x∈scope.names,x.2≠.cell) (hr:scope.names.lookup row=some .local) (hm:scope.names.lookup many=some .free)
  (hcell:s.heap.IsCell cc (some (.int i t))) (ht:RP s.heap r items) (hz:items.size<=RO) (d1:(row==("__debug__":Str))=false) (d2:(many==("__debug__":Str))=false) (d3:(many==("__classdict__":Str))=false)
  (h:∀b h' tk,(∀c o,s.heap.get? c=some o->h'.get? c=some o)->RP h' b (List.toArray (items.toList.take (HT.sIx items.size items.size (some i))))->Q (.ref b) {s with heap:=h',toks:=tk}):
  RY (model prog w) A (call (.ref f) [.ref r]) Q E s:=by
 refine SG (kla_callFunE hroom hf rfl hco hgen rfl hcd ?_);rw[hbind];refine Sb (wpAny_newFunctionEnv hno (λx hx=>?_) (λh₁ hns hsb=>⟨hlim.fresh _ hsb,?_⟩) hk)
 ·rw[List.mem_singleton]at hx;subst hx;exact hr
 ·show Su _ _ (.expr (cutE row many np mp p2 pos) (envX qual scope s.heap.objs.size f (.ref c') [(many,cc)])) _ _;have hk₁:∀b o,s.heap.get? b=some o->h₁.get? b=some o:=λb o e=>hsb.extBut b o (Nb (Rf e)) (Ri _ e);refine kla_codeExpr (za (m:=λx=>[(row,Value.ref r)].reverse.lookup x) (r:=r) (c:=cc) (t:=t) hk hr hm hns ?_ ?_ ?_ ?_ hz d1 d2 d3 λb h' kp tb=>h b h' _ (λc o e=>kp c o (hk₁ c o e)) tb)
  ·simp
  ·simp
  ·obtain⟨o,e,q⟩:=hcell;exact⟨o,hk₁ _ _ e,q⟩
  ·obtain⟨o,e,q⟩:=ht;exact⟨o,hk₁ _ _ e,q⟩
end
end TG
namespace TG
open PySem PySem.Spec PyProof.Rows PySem.W L2
variable[aC]
noncomputable def yY(mg:bP)(base:RN)(c P:RG):Prop:=CodeHd base c P/\∃bm ob,mg "__builtins__"=some (.ref bm)/\bm≠RT/\base.get? bm=some ob/\ob.cls=.type "module"/\ob.dict=some RT/\ob.data=.plain
section
variable{fs ex:aF}{Pg:RM}{w:RL}{H:Hp}{h h':RN}{P c':RG}{φ:(RG->Prop)->RN->Prop}
theorem Hh(hP:H P=some (.ext φ))(k:∀b o,b≠P->h.get? b=some o->h'.get? b=some o)(hp:∃o,h'.get? P=some o)(hc:h.objs.size<=c')(hn:H c'=none):Un fs ex H (upd H c' (.own P)) h h' where
 keep:=λb u q n _ _=>k b u (λz=>by rw[z,hP]at n;cases n) q
 slot:=λb u q n _ _=>⟨u.slots,k b u (λz=>by rw[z,hP]at n;cases n) q⟩
 free:=λb u q n _=>by rw[ay (Nb (M8 (Rf q) hc))];exact n
 there:=λb u q _=>by
  by_cases z:b=P
  ·rw[z];exact hp
  ·exact⟨u,k b u z q⟩
 tups:=λb xs q=>by rw[ay (aQ q hn)];exact q
 frzs:=λb u xs q=>by rw[ay (aQ q hn)];exact q
 tbls:=λb ps q=>⟨#[],by rw[ay (aQ q hn),q];simp⟩
theorem CA(x:nH Pg w H h)(hP:H P=some (.ext φ))(k:∀b o,b≠P->h.get? b=some o->h'.get? b=some o)(hc:h.objs.size<=c')(ho:∃o,h'.get? c'=some o)(new:dE Pg w (upd H c' (.own P)) h' P (.ext φ)):nH Pg w (upd H c' (.own P)) h':=λb u e=>by
 have hn:=x.fresh hc;by_cases hb:b=c'
 ·subst hb;rw[aK]at e;cases e;exact ho
 ·rw[ay hb]at e;by_cases hb2:b=P
  ·subst hb2;rw[hP]at e;cases e;exact new
  ·refine(x b u e).stay (λc v hc' q=>k c v ?_ q) (λc q=>by rw[ay (aQ q hn)];exact q) λc xs q=>by rw[ay (aQ q hn)];exact q
   rcases hc' with rfl|hc'
   ·exact hb2
   ·rintro rfl;rw[hP]at hc';cases hc'
end
theorem yY.blt{mg:bP}{base h:RN}{c P:RG}{m:bP}(B:yY mg base c P)(kp:∀b o,base.get? b=some o->h.get? b=some o)(hP:base.get? P=none)(hg:base.Ns RQ m):h.BuiltinsAt mg P:=by
 obtain⟨_,bm,ob,b1,b2,b3,b4,b5,b6⟩:=B;refine⟨bm,ob,b1,b2,λz=>?_,λz=>?_,kp _ _ b3,b4,b5,b6⟩
 ·subst z;obtain⟨o,es,ep,e,hd,_⟩:=hg;rw[e]at b3;cases b3;rw[hd]at b6;cases b6
 ·subst z;rw[hP]at b3;cases b3
section
variable{X:Cx}{pins:bn}{s:RK}{σ:L2.St}{H:Hp}{E:bD}
theorem Aq{c P:RG}{lpos:Pos}{params:SK}{body:RH}{scope:RW}{clos:j9}{Q:bD}(I:Inv X pins σ H s)(B:yY X.mg X.base c P)(hcode:X.env.code=.ref c)(hP:H P=some (.ext (lq P lpos (X.env.qual++"<lambda>"))))
  (hdef:defaultsOf params X.env=([],[])) (hcl:closureFor scope X.env=pure clos)
  (h:∀f c' ctv s' H',Inv X pins σ H' s'->aZ H H'->s'.heap.get? f=some (Tq "<lambda>" (X.env.qual++"<lambda>") params body scope clos ((X.mg "__name__").getD .none) c' ctv)->s'.heap.CodeRec (.ref c') (X.env.qual++"<lambda>")->Q (.ref f) s'):
  RY (model X.prog X.w) X.A (eval (.Lambda params body scope lpos) X.env) Q E s:=by
 have hg:s.heap.Ns RQ X.mg:=I.mod.glob.keeps I.bk;have hPn:X.base.get? P=none:=by
  cases q:X.base.get? P with
  |none=>rfl
  |some o=>have:=(I.bs P o q).2;rw[hP]at this;cases this
 have hgP:RQ≠P:=λz=>by
  obtain⟨o,es,ep,e,_⟩:=I.mod.glob;rw[z,hPn]at e;cases e
 have hb:=B.blt I.bk hPn I.mod.glob;have C:=B.1.keeps I.bk;obtain⟨tb,_,_⟩:=I.hok P _ hP;refine kla_eval hdef ?_;rcases tb with e|⟨c',hc',e,hrec⟩
 ·refine kla_makeFunction hcl I.ok.glob hg hcode C e trivial rfl hgP hb λc' ctv h' tk hx hge hlt hrec htb=>?_;have hn:=I.hok.fresh hge;have htb':h'.get? P=some (tabObj #[rawInt lpos.line,rawInt lpos.col,.ref c']):=by simpa using htb
  have kp:∀b o,b≠P->s.heap.get? b=some o->(h'.push (Tq "<lambda>" (X.env.qual++"<lambda>") params body scope clos ((X.mg "__name__").getD .none) c' ctv)).get? b=some o:=λb o hb' q=>Ri _ (hx b o hb' q);have hrec':(h'.push (Tq "<lambda>" (X.env.qual++"<lambda>") params body scope clos ((X.mg "__name__").getD .none) c' ctv)).CodeRec (.ref c') (X.env.qual++"<lambda>"):=by
   obtain⟨c2,oc,vs,t,ec,eo,r⟩:=hrec;exact⟨c2,oc,vs,t,ec,Ri _ eo,r⟩
  have hco:∃o,(h'.push (Tq "<lambda>" (X.env.qual++"<lambda>") params body scope clos ((X.mg "__name__").getD .none) c' ctv)).get? c'=some o:=by
   obtain⟨c2,oc,vs,t,ec,eo,r⟩:=hrec;cases ec;exact⟨oc,Ri _ eo⟩
  refine h _ c' ctv _ (upd H c' (.own P)) (I.un (Hh hP kp ⟨_,Ri _ htb'⟩ hge hn) (CA I.hok hP kp hge hco (lq.ok (.inr ⟨c',aK,Ri _ htb',hrec'⟩)))) (cJ hn _) (Rj _ rfl) hrec'
 ·refine kla_makeFunctionHit (cv:=.ref c') hcl I.ok.glob hg hcode C e trivial ?_ hb λctv h' tk hk hsz=>?_
  ·show(if((lpos.line:Int)==(lpos.line:Int)&&(lpos.col:Int)==(lpos.col:Int))=true then some (Value.ref c')else _)=_;simp
  ·have kp:∀b o,s.heap.get? b=some o->(h'.push (Tq "<lambda>" (X.env.qual++"<lambda>") params body scope clos ((X.mg "__name__").getD .none) c' ctv)).get? b=some o:=λb o q=>Ri _ (hk b o q);refine h _ c' ctv _ H (I.kept kp) (aZ.refl H) (Rj _ rfl) ?_;obtain⟨c2,oc,vs,t,ec,eo,r⟩:=hrec;exact⟨c2,oc,vs,t,ec,kp _ _ eo,r⟩
end
noncomputable def oQ(m:Nat):D->List D
 |.tup ks=>ks.take m
 |_=>[]
noncomputable def IG(m:Nat)(xs:List D):Prop:=xs.length<64/\∃σ:cy,σ≠[]/\(∀x∈xs,∃k,x=.tup k/\Sh σ (k.take m))/\xs.Pairwise λx y=>oQ m x≠oQ m y
open Classical in
noncomputable def nX(m:Nat)(xs:List D):bM:=if IG m xs then some (.lst (mh (oQ m) xs))else none
noncomputable def lP:D->D->bM
 |.lst xs,.int i=>if 0<=i then nX i.toNat xs else none
 |.tup xs,.int i=>if 0<=i then nX i.toNat xs else none
 |_,_=>none
theorem pG:∀{vs:aH}{us:aU}(n:Nat),Vals vs us->Vals (vs.take n) (us.take n)
 |_,_,0,_=>by rw[N4,N4];exact .nil
 |_,_,_+1,.nil=>.nil
 |_,_,n+1,.cons r t=>by rw[N6,N6];exact .cons r (pG n t)
theorem Cw{i:Int}(h:0<=i)(n:Nat):HT.sIx n n (some i)=min i.toNat n:=by
 show(if i<0 then _ else _)=_;rw[if_neg ‹0›]
theorem rC:RU "sorted"=some (.builtin "sorted"):=by first|rfl|decide +kernel
section
variable{X:Cx}{pins:bn}{s:RK}{σ:L2.St}{H:Hp}{O:aF}
theorem uL{u:RE}{ds:List D}{vs:aH}{its:aU}{d:D}{i:Int}{t:Tok}{c' cc f:RG}{row many qual:Str}{params:SK}{scope:RW}{np mp p2 pos:Pos}{pm ctv:RE}{Q:VK}
  (I:Inv X pins σ H s) (hO:dq H O) (dn:aX X.K (hid H O) ds vs) (rv:Vals vs its) (h0:0<=i) (hs:nX i.toNat ds=some d)
  (hf:s.heap.get? f=some (Tq "<lambda>" qual params (cutE row many np mp p2 pos) scope [(many,cc)] pm c' ctv)) (hcd:s.heap.CodeRec (.ref c') qual) (hroom:X.A.depth<Sz)
  (hbind:∀v,bindArgs (kla_fn "<lambda>" qual params (cutE row many np mp p2 pos) scope [(many,cc)] pm (.ref c') ctv) ⟨[v],[]⟩=pure [(row,v)])
  (hco:scope.isCoroutine=false) (hgen:scope.isGenerator=false) (hk:scope.kind=.function) (hno:∀x∈scope.names,x.2≠.cell) (hr:scope.names.lookup row=some .local) (hm:scope.names.lookup many=some .free)
  (hcell:s.heap.IsCell cc (some (.int i t))) (d1:(row==("__debug__":Str))=false) (d2:(many==("__debug__":Str))=false) (d3:(many==("__classdict__":Str))=false)
  (hcol:∀(Q':aU->dD),(∀h' tk,(∀b o,s.heap.get? b=some o->h'.get? b=some o)->Q' its {s with heap:=h',toks:=tk})->RY (model X.prog X.w) X.A.in1 (collect u) Q' X.xe s)
  (q:∀v H',aZ H H'->cz X.K (hid H' O) d v->Q v H'):RY (model X.prog X.w) X.A (call (.builtin "sorted") [u] [(Str.ofString "key",.ref f)]) (EP X pins σ Q) X.xe s:=by
 have l1:=dn.length;have l2:=rv.length;unfold nX at hs;split at hs
 ·rename_i hS;cases hs;obtain⟨h64,σ',hσ,hsh,pw⟩:=hS;obtain⟨b,σ1,rfl⟩:∃b σ1,σ'=b::σ1:=by
   cases σ' with
   |nil=>exact absurd rfl hσ
   |cons b σ1=>exact⟨b,σ1,rfl⟩
  have hsh':∀x∈ds,Sh (b::σ1) (oQ i.toNat x):=λx hx=>by
   obtain⟨k,rfl,hk⟩:=hsh x hx;exact hk
  refine tm (keys:=ds.map (oQ i.toNat)) (σ:=σ1) (b:=b) ‹0› (by rw[Nx];omega) (λk hk=>by obtain⟨x,hx,rfl⟩:=List.mem_map.mp hk;exact hsh' x hx) hcol (λj v h' tk Q' hv kp hq=>?_) λp h1 h' l e tk hp hu k1 k2 hl he=>?_
  ·have hj:j<its.length:=by
    rcases Pn j its.length with z|z
    ·exact z
    ·rw[Pp z]at hv;cases hv
   have hj':j<ds.length:=(by omega);obtain⟨v0,e1,dv⟩:=dn.get (i:=j) (d:=ds[j]) (by simp[hj']);obtain⟨w,e2,rw'⟩:=rv.get e1;rw[hv]at e2;cases e2;obtain⟨k,ek,hk'⟩:=hsh _ (O9 hj');have ekey:(ds.map (oQ i.toNat)).getD j []=k.take i.toNat:=by
    have:(ds.map (oQ i.toNat)).getD j []=oQ i.toNat ds[j]:=(by simp[hj']);rw[this,ek];rfl
   rw[ekey]at hq;rw[ek]at dv;obtain⟨a,ws,rfl,ha,dk⟩:=b7.mp dv;cases rw';obtain⟨it2,r2,ht,hz⟩:=I.tuple (b9 (aO H O) ha);have hz':it2.toArray.size<=RO:=(by rw[Nt,<-r2.length];exact hz);refine Bo (s:={s with heap:=h',toks:=tk}) (i:=i) (t:=t) (kp _ _ hf) ?_ hroom (I.nolimit.keeps kp) hbind hco hgen hk hno hr hm ?_ (items:=it2.toArray) ?_ hz' d1 d2 d3 λb2 h'' tk' kp2 tb=>?_
   ·obtain⟨c2,oc,vs',t',ec,eo,r⟩:=hcd;exact⟨c2,oc,vs',t',ec,kp _ _ eo,r⟩
   ·obtain⟨o,e,q⟩:=hcell;exact⟨o,kp _ _ e,q⟩
   ·obtain⟨o,e,q⟩:=ht;exact⟨o,kp _ _ e,q⟩
   ·refine hq _ h'' tk' kp2 ?_;obtain⟨o,eo,hc,n,hd⟩:=tb;refine⟨b2,o,_,n,rfl,eo,hc,hd,?_⟩;have e3:(List.toArray (it2.toArray.toList.take (HT.sIx it2.toArray.size it2.toArray.size (some i)))).toList=it2.take i.toNat:=by
     rw[Cw h0];simp only[Nt,Pm];rcases Pq i.toNat it2.length with z|z
     ·rw[Pr z]
     ·rw[Pt z,OB (Nq _),OB z]
    rw[e3];exact iM (kO hk') (dk.take i.toNat) (pG i.toNat r2)
  ·have el:its.length=ds.length:=(by omega);rw[el]at hp hu;have ps:=tI (key:=oQ i.toNat) hsh' pw hp hu;have hr:p.toList.Perm (List.range ds.length):=by
    have:=Array.perm_iff_toList_perm.mp hp
    simpa using this
   have hlt:∀i∈p.toList,i<ds.length:=λi hi=>by simpa using hr.mem_iff.mp hi
   have I1:Inv X pins σ H {s with heap:=h1,toks:=tk}:=I.kept k1;have hn:H l=none:=I1.hok.fresh hl;have rv':=pZ rv p.toList λi hi=>by have:=hlt i hi;omega
   have dn':=pX dn p.toList hlt;have hlen:p.toList.length=ds.length:=(by rw[hr.length_eq,Ou]);refine⟨.ref l,_,Inv.laid (s:={s with heap:=h1,toks:=tk}) (t':=tk) I1 k2 hl (show dE X.prog X.w _ h' _ (.lst (p.toList.map λi=>vs.getD i .non))from⟨by rw[Nx,hlen,Sl];omega,_,e,rv',he⟩),rfl,?_⟩;refine q _ _ (cJ hn _) ?_;rw[<-ps];exact gh hO hn dn'
 ·cases hs
end
end TG
namespace TG
open PySem PySem.Spec PyProof.Rows PySem.W L2
section
variable[aC]{P:RM}{w:RL}{K:Qw}{mg:bP}{base:RN}
noncomputable def pA(K:Qw)(f:RG)(cdv:RE):Prop:=∃oc od fd sl,K.lookup f=some ⟨oc,od,.func fd,sl⟩/\fd.code=cdv
theorem pA.one{f:RG}{a b:RE}(h:pA K f a)(h':pA K f b):a=b:=by
 obtain⟨oc,od,fd,sl,e,r⟩:=h;obtain⟨oc',od',fd',sl',e',r'⟩:=h';rw[e]at e';cases e';rw[<-r,<-r']
structure rP(P:RM)(w:RL)(K:Qw)(mg:bP)(base:RN)(k:Nat)(N:au)(qual:Str)(st:RJ)(f:RG)(B:bU):Prop where
 h:∀(cdv:RE)(A:RV)(outer:List Env)(s:RK)(H:Hp)(E:XK),pA K f cdv->eI k (A.deeper (envOfC qual (aw st) s.heap.objs.size f cdv))->R9 (model P w) (A.deeper (envOfC qual (aw st) s.heap.objs.size f cdv)) (envOfC qual (aw st) s.heap.objs.size f cdv) (fO (iH P w) P w K mg base N qual (aw st) f cdv A outer s H E).xe->
  Ic (fO (iH P w) P w K mg base N qual (aw st) f cdv A outer s H E) (cT st) B
theorem Bq{x qual:Str}{st:RJ}{f:RG}{fd:SD}{N ps:au}{k:Nat}{B:bU}(F:ou K x qual st f fd)(SC:cx N ps (aw st))(hb:rP P w K mg base k N qual st f B):
  fP P w K mg base (iH P w) (k+1) f fd ps (xP K ps.length (ao B ps.length N.length)):=by
 obtain⟨oc,od,kV,doc,pm,an,cd,ct,osl,rfl,lk,hcd⟩:=F.ex;refine A2 lk hcd SC (λvs H Q E h=>?_) λA outer s H vs Q E hr h=>?_
 ·obtain⟨O,ds,h1,_⟩:=h;exact h1
 ·obtain⟨O,ds,h1,h2,h3,h4⟩:=h;have hl:ds.length=ps.length:=h3.length.trans h1;have e4:ao B ps.length N.length ds=B K0 (env0 N.length ds):=by unfold ao;rw[if_pos hl]
  rw[e4]at h4;refine⟨_,hb.h cd A outer s H E ⟨_,_,_,_,lk,rfl⟩ hr PassesOwn.leaving H O,O,env0 N.length ds,K0,_,⟨nW h2 h3,⟨aZ.refl H,λ_ z=>z,λa z=>.inl z⟩,λi xs a e=>?_,λi d e=>by obtain⟨d',_,e2⟩:=fY i _ e;cases e2⟩,rfl,?_⟩
  ·obtain⟨d',_,e2⟩:=fY i _ e;cases e2
  ·generalize B K0 (env0 N.length ds)=r at h4;refine⟨λz=>by rw[z]at h4;exact h4,λO' ρ' σ' H' S e=>?_,λO' ρ' σ' H' S e=>?_,λO' ρ' σ' H' S e=>?_,λd O' v H' e b dv=>?_,λO' ρ' σ' H' x S e=>?_⟩
   ·have e:(.ok .non:R D)=r:=e;subst e;exact h4 .non H' S.base.same (hV.mpr rfl)
   ·have e:(un:R D)=r:=e;subst e;exact h4.elim
   ·have e:(un:R D)=r:=e;subst e;exact h4.elim
   ·subst e;exact h4 v H' b.same (dv.mono (gJ b.sub))
   ·have e:(.error (some x):R D)=r:=e;subst e;exact By h4 S.base.same S.base.sub
theorem uX{x qual:Str}{st:RJ}{f:RG}{fd:SD}{N ps:au}{k:Nat}{B:bU}(F:ou K x qual st f fd)(b:Binds K fd ps [])(m:mg x=some (.ref f))(SC:cx N ps (aw st))(hb:rP P w K mg base k N qual st f B):
  Callee P w K mg base (k+1) x ps (ao B ps.length N.length):=⟨f,fd,Bq F SC hb,b,F.kp,m⟩
end
noncomputable def uF(mg:bP)(base:RN):Prop:=∃bm ob,mg "__builtins__"=some (.ref bm)/\bm≠RT/\base.get? bm=some ob/\ob.cls=.type "module"/\ob.dict=some RT/\ob.data=.plain
theorem Ef{K:Qw}{mg:bP}{base:RN}{c P:RG}(X:K.In base)(e:codeHdIn K c P=true)(b:uF mg base):yY mg base c P:=⟨codeHd_of_K X e,b⟩
theorem DW{P:RM}{w:RL}{K:Qw}{mg mb:bP}{CX:vd}{k:Nat}{fa a c T:RG}{lpos:Pos}{q:Str}{fd:SD}{x:Str}{sp:Sp}{s₁:RK}{vs:aU}{ns:List Int}
  (KX:K.In s₁.heap) (hns:s₁.heap.Ns RQ mg) (hb:s₁.heap.Ns RT mb) (hbb:∀x:Str,x≠"__name__"->mb x=RU x) (hlim:s₁.heap.NoLimit) (hg:s₁.gens=#[]) (hbm:uF mg s₁.heap)
  (hT:s₁.heap.get? T=some (tabObj #[])) (hC:codeHdIn K c T=true) (hKT:K.lookup T=none)
  (ha:s₁.heap.get? a=some {cls:=.type "list",data:=.seq vs.toArray}) (hi:IntsAre vs ns) (hl:ns.length<=RO) (hr:eI k callerA)
  (F:∀base:RN,K.In base->base.Ns RQ mg->uF mg base->fP P w K mg base CX k fa fd [x] sp) (hbind:∀(s:RK)(u:RE),SE s fd ⟨[u],[]⟩ [(x,u)])
  (hsp:∀H:Hp,H T=some (.ext (lq T lpos q))->jR K H a (ns.map V.int)->sp [.ref a] H (λv H'=>v=.bl true/\aZ H H') λ_ _ _=>False)
  (hCX:∀H e s',CX [] H s₁ (λ_ _ _=>False) e s'->False):
  Su (model P w) callerA (.call (.ref fa) ⟨[.ref a],[]⟩) (λr s'=>r=.ok (.ret (.bool true))/\OldK s₁.heap s'.heap/\s'.os=s₁.os/\AllBare s'.gens) s₁:=by
 have rv:=qd hi;have lenV:=hi.length;have aT:a≠T:=λz=>by rw[z,hT]at ha;cases ha
 obtain⟨H,hH⟩:∃H:Hp,H=λb=>if b=T then some (.ext (lq T lpos q))else if b=a/\(K.lookup a).isNone=true then some (.frz {cls:=.type "list",data:=.seq vs.toArray} (.lst (ns.map V.int)))else none:=⟨_,rfl⟩
 have hHT:H T=some (.ext (lq T lpos q)):=by rw[hH];exact if_pos rfl
 have cases':∀b u,H b=some u->(b=T/\u=.ext (lq T lpos q))\/(b=a/\K.lookup a=none/\u=.frz {cls:=.type "list",data:=.seq vs.toArray} (.lst (ns.map V.int))):=λb u e=>by
  rw[hH]at e;by_cases z:b=T
  ·have e:=(if_pos z).symm.trans e;cases e;exact .inl ⟨z,rfl⟩
  ·have e:=(if_neg z).symm.trans e;by_cases z':b=a/\(K.lookup a).isNone=true
   ·have e:=(if_pos z').symm.trans e;cases e;exact .inr ⟨z'.1,by simpa using z'.2,rfl⟩
   ·have e:=(if_neg z').symm.trans e;cases e
 have free:∀b o,s₁.heap.get? b=some o->o.cls≠.none->o.cls≠.type "list"->H b=none:=λb o e h1 h2=>by
  cases z:H b with
  |none=>rfl
  |some u=>
   rcases cases' b u z with⟨e1,_⟩|⟨e1,_⟩
   ·rw[e1,hT]at e;cases e;exact absurd rfl h1
   ·rw[e1,ha]at e;cases e;exact absurd rfl h2
 have freeD:∀b o es ep,s₁.heap.get? b=some o->o.data=.dict es ep->H b=none:=λb o es ep e d=>by
  cases z:H b with
  |none=>rfl
  |some u=>
   rcases cases' b u z with⟨e1,_⟩|⟨e1,_⟩
   ·rw[e1,hT]at e;cases e;cases d
   ·rw[e1,ha]at e;cases e;have d':Data.seq vs.toArray _=Data.dict es ep:=d;cases d'
 have hS:jR K H a (ns.map V.int):=by
  cases hk:K.lookup a with
  |some o=>
   have e:=KX a o hk;rw[ha]at e;cases e;exact .inr ⟨_,vs.toArray,_,hk,rfl,rfl,rfl,by rw[Nt,lenV];exact hl,by simpa using rv⟩
  |none=>
   refine .inl (.inr ⟨{cls:=.type "list",data:=.seq vs.toArray},?_⟩);rw[hH];exact(if_neg aT).trans (if_pos ⟨rfl,by rw[hk];rfl⟩)
 have hok:nH P w H s₁.heap:=λb u e=>by
  rcases cases' b u e with⟨e1,e2⟩|⟨e1,_,e2⟩
  ·subst e1 e2;exact lq.ok (.inl hT)
  ·subst e1 e2;exact⟨ha,by rw[Nx];exact hl,vs,_,rv,ha⟩
 have nsK:∀{b:RG}{m:bP},s₁.heap.Ns b m->(jA s₁.heap H).Ns b m:=λ{b m} ⟨o,es,ep,e,d,r⟩=>⟨o,es,ep,jb e (freeD b o es ep e d),d,r⟩
 have hKb:K.In (jA s₁.heap H):=λb o e=>jb (KX b o e) (by
  cases z:H b with
  |none=>rfl
  |some u=>
   rcases cases' b u z with⟨e1,_⟩|⟨e1,e2,_⟩
   ·rw[e1,hKT]at e;cases e
   ·rw[e1,e2]at e;cases e)
 have hbm':uF mg (jA s₁.heap H):=by
  obtain⟨bm,ob,b1,b2,b3,b4,b5,b6⟩:=hbm;refine⟨bm,ob,b1,b2,jb b3 (free bm ob b3 ?_ ?_),b4,b5,b6⟩
  ·rw[b4];simp
  ·rw[b4];simp
 have hM:Mod K mg (jA s₁.heap H):=⟨hKb,nsK hns,⟨mb,nsK hb,hbb⟩,let ⟨mc,h1,h2⟩:=hlim;⟨mc,nsK h1,h2⟩⟩
 have e0:xC P w K mg (jA s₁.heap H) callerA [] s₁ H:=⟨rfl,hM,λb o e=>jU e,Ny (yw _ _),trivial,λb hb=>absurd (show b∈([]:aF)from hb) (by simp),hok,.of_eq hg⟩
 refine SH ((F _ hKb (nsK hns) hbm').run callerA [] s₁ H ⟨[.ref a],[]⟩ [.ref a] [.ref a] _ _ hr e0 (hbind s₁ (.ref a)) (.cons rfl .nil) (hsp H hHT hS)) λr s' h=>?_;cases r with
 |error e=>exact(hCX H e s' h).elim
 |ok fl=>
  cases fl with
  |next=>exact False.elim h
  |brk=>exact False.elim h
  |cont=>exact False.elim h
  |ret u=>
   obtain⟨v,H',os,bare,unn,hok',r',q'⟩:=h;obtain⟨ev,sm⟩:v=.bl true/\aZ H H':=q';subst ev;obtain rfl:u=Value.bool true:=r';have tb:=(hok' T _ (sm _ _ hHT)).1;obtain⟨ps,hps⟩:∃ps,s'.heap.get? T=some (tabObj ps):=by
    rcases tb with e|⟨_,_,e,_⟩
    ·exact⟨_,e⟩
    ·exact⟨_,e⟩
   have keep:∀b o,b≠T->s₁.heap.get? b=some o->s'.heap.get? b=some o:=λb o hb e=>by
    cases z:H b with
    |none=>exact unn.keep b o e z (by intro z;exact absurd (show b∈([]:aF)from z) (by simp)) (by simp)
    |some u=>
     rcases cases' b u z with⟨e1,_⟩|⟨e1,_,e2⟩
     ·exact absurd e1 hb
     ·subst e2;have z2:=sm _ _ z;obtain⟨e3,_⟩:=hok' b _ z2;rw[e1,ha]at e;cases e;exact e3
   refine⟨rfl,⟨λb o e=>?_,λb o e=>?_⟩,os,bare⟩
   ·by_cases hb:b=T
    ·subst hb;rw[hT]at e;cases e;exact .inr (.inl ⟨((codeHd_of_K KX hC).tab hT).isCodeTable,rfl,#[],ps,rfl,by rw[Array.empty_append];exact hps⟩)
    ·exact .inl (keep b o hb e)
   ·by_cases hb:b=T
    ·subst hb;exact⟨_,hps⟩
    ·exact⟨o,keep b o hb e⟩
theorem AU{l:Ra}{n k:Nat}{q:RM}{loose:au}{XP:(bP)->RN->Prop}{YP:RL->RN->Prop}{d:DefRec}{K:Params->Qw}{CX:RL->vd}{sp:RL->Sp}{x qn:Str}{T:RG}{lpos:Pos}
  (hn:l.most=some n) (hn2:n<=RO) (hdf:d.params.defaults=[]) (hr:eI k callerA)
  (hY:∀(w:RL)(h:RN),YP w h->(K w.params).In h/\h.get? T=some (tabObj #[]))
  (F:∀ (w:RL) (mg:bP) (fa:RG) (h:RN),(K w.params).In h->h.Ns RQ mg->mg d.name=some (.ref fa) ->
   (∃c,codeHdIn (K w.params) c T=true)/\(K w.params).lookup T=none/\∃fd:SD,(∀(s:RK)(u:RE),SE s fd ⟨[u],[]⟩ [(x,u)])/\
    ∀base:RN,(K w.params).In base->base.Ns RQ mg->uF mg base->fP l.prog w (K w.params) mg base (CX w) k fa fd [x] (sp w))
  (hsp:∀(w:RL)(H:Hp)(a:RG)(ns:List Int),ns.length<=n->H T=some (.ext (lq T lpos qn))->jR (K w.params) H a (ns.map V.int)->sp w [.ref a] H (λv H'=>v=.bl true/\aZ H H') λ_ _ _=>False)
  (hCX:∀(w:RL)(H:Hp)(s:RK)(e:RE)(s':RK),CX w [] H s (λ_ _ _=>False) e s'->False):
  PySem.W.WalkO q loose XP YP l.row.toRowW d [] (λf vs=>PySem.call f vs):=by
 refine Att.Fb hn hdf λw s₀ s₁ mg mb fa o pm cd doc a vs ns G Y ho hd hcd hmg hobj hints hlen hg=>?_;obtain⟨KX,hT⟩:=hY w _ Y;obtain⟨⟨c,hC⟩,hKT,fd,hb,hF⟩:=F w mg fa _ KX G.T.g hmg;exact DW KX G.T.g G.T.b G.T.builtins G.T.nolimit hg G.T.bmain hT hC hKT hobj hints (Nc hlen hn2) hr hF hb (λH hO hS=>hsp w H a ns hlen hO hS) λH e s'=>hCX w H s₁ e s'
end TG
namespace TG
open PySem PySem.Spec PySem.Calls L2
open PySem.SeqAt (EqAt list_indexAt)
variable[aC]
section
variable{X:Cx}{p pos:Pos}{e:RH}
end
end TG
namespace TG
open PySem PySem.Spec L2
variable[aC]
end TG
namespace TG
open PySem PySem.Spec PySem.Calls L2
open PySem.SeqAt (EqAt list_countAt)
variable[aC]
end TG
namespace TG
open PySem PySem.Spec L2
variable[aC]
end TG
namespace TG
open PySem PySem.Spec PySem.Calls L2
variable[aC]
end TG
namespace TG
open PySem PySem.Spec L2
variable[aC]
end TG
namespace TG
open PySem PySem.Spec L2
variable[aC]
end TG
namespace TG
open PySem PySem.Spec L2
variable[aC]
end TG
namespace TG
open PySem PySem.Spec PySem.Calls L2
variable[aC]
end TG
namespace TG
open PySem PySem.Spec L2
variable[aC]
end TG
namespace TG
open PySem PySem.Spec L2
variable[aC]
end TG
namespace TG
open PySem PySem.Spec L2
variable[aC]
end TG
namespace TG
open PySem PySem.Spec L2
variable[aC]
end TG
namespace TG
open PySem PySem.Spec PySem.Calls L2
variable[aC]
end TG
namespace L2
open PySem PySem.Spec PyProof.Rows
noncomputable def Kq(hi:Int)(n:Nat):It:=⟨λi _=>i<n,λi H x H'=>H'=H/\x=.int (hi-i),λi _=>n<=i⟩
theorem yf{P:RM}{w:RL}{K:Qw}{tg:RH}(it:RG)(lo:Int)(n:Nat):Turn P w K tg (Kq lo n) [it] it (λi h=>Se h it (lo+(i:Nat)*(-1)) ((n:Int)-(i:Nat)) (-1))where
 mem:=by simp
 obj:=λi h st b hb=>by
  have e:b=it:=by simpa using hb
  subst e;exact⟨_,st,λv z=>by
   have z':Data.fields _=Data.cell v:=z;cases z'⟩
 keep:=λi h h' st k=>k it (by simp) _ st
 item:=by
  intro X hP hw hK hc i pins s σ H E I hf st hg;subst hP hw hK;obtain⟨f0,f1,f2,f3,f4,f5⟩:=hf it (by simp);have W:=Walks.range (prog:=X.prog) (w:=X.w) (I.ok.hd hc) it lo (-1) n;refine W.item i s _ _ hg st λv h' tk hv st' kk=>?_;obtain⟨t,rfl⟩:=hv;have I1:Inv X pins σ H {s with heap:=h',toks:=tk}:=I.turned (λb o hb e=>kk b o (by simpa using hb) e) f0 f1 f3 f4 f5;refine⟨_,rfl,vN (s:={s with heap:=h',toks:=tk}) (n:="range_iterator") st' rfl rfl (by decide) ⟨.int (lo-i),H,I1,⟨t,?_⟩,⟨rfl,rfl⟩,st',λb hb=>(hf b hb).1⟩⟩;rw[show lo+(i:Int)*(-1)=lo-i by omega]
 done:=by
  intro X hP hw hK hc i pins s σ H E I hf st hg;subst hP hw hK;obtain⟨f0,f1,f2,f3,f4,f5⟩:=hf it (by simp);exact wpAny_pyNext_range_end (I.ok.hd hc) st (by have:n<=i:=hg;omega) λh' eb=>⟨rfl,I.turned (t':=s.toks) (λb o hb e=>eb b o hb e) f0 f1 f3 f4 f5⟩
 self:=λ_ _ _ _ _ st h=>Sf st h
end L2
namespace TG
open PySem PySem.Spec L2
variable[aC]
noncomputable def kz(hi:Int)(n:Nat):List D:=(List.range n).map λ(k:Nat)=>D.int (hi-(k:Int))
theorem lN(hi:Int)(n:Nat):(kz hi n).length=n:=by unfold kz;rw[Nx,Ou]
theorem yC{K:Qw}{Hd:Hp}(lo:Int)(n:Nat):Walk K Hd (Kq lo n) (kz lo n):=λHn O' i hO s=>
  ⟨fun d e=>by
    unfold kz at e;rw[NM]at e;cases hi:(List.range n)[i]? with
    |none=>rw[hi]at e;cases e
    |some k=>
      rw[hi]at e;cases e;have hlt:i<n:=by
        have:=(List.getElem?_eq_some_iff.mp hi).1
        rwa [Ou]at this
      have ek:k=i:=by
        rw[Ox hlt]at hi;exact(Option.some.inj hi).symm
      subst ek;exact⟨hlt,λx H2 ⟨e1,e2⟩=>by subst e1;exact⟨aZ.refl _,eZ.mpr e2⟩⟩,
   λhl=>by rw[lN]at hl;exact Ny hl.symm⟩
end TG
namespace TG
open PySem PySem.Spec L2
variable[aC]
end TG
namespace TG
open PySem PySem.Spec L2
section
variable{prog:RM}{w:RL}{A:RV}{E:bD}{h:RN}{g:Array GenState}{d:Drawn}{t:Nat}{os:OsState}
variable{nm q:Str}{C N:RG}{bs bm bmB:aU}{hdct:Bool}{sn:au}{sub:aU}{ab:Bool}{col:Option Bool}{dd:Option RG}{k0 k1 k2 k3 k5:Option RE}{B Bn newId nid initId inN:String}{bmN:aU}{mN:bP}{us:aU}{fI:RG}{oI:Obj}
theorem sV{Q:PySem.Fin->dD}(Fn:Tr Bn newId inN bmN)(hb:bmB.contains (.type Bn)=true)(F:Tr B nid initId bmB)(T:OwnTail h bmB bm)
  (hC:h.get? C=some (excClassObj nm q C N bs bm hdct sn sub ab col dd k0 k1 k2 k3 k5 newId)) (hn:h.Ns N mN) (hi:mN "__init__"=some (.ref fI)) (hf:h.get? fI=some oI) (hc:oI.cls=.type "function")
  (hq:∀h' e,Rq h h' e (.ref C) us->RY (model prog w) A (call (.ref fI) (.ref e::us)) (λr s'=>r=.none/\Q (.done (.ret (.ref e))) s') E ⟨h',g,d,t,os⟩) (hl:us.length<=RO):
  RY (model prog w) A (Builtin.«type.__call__» ⟨.ref C::us,[]⟩) Q E ⟨h,g,d,t,os⟩:=by
 repeat (first|with_reducible refine Ts hC ?_|with_reducible refine wpAny_madeBy_exc hC ?_|wp_step)
 refine codeAny_call_builtin_code (Code.quiet_builtin _ Fn.quiet) (wpAny_check_new_subU Fn hb T hC (codeAny_exc_new_subU Fn hb F T hC ?_ hl));show RY _ _ _ _ _ _;obtain⟨o1,e1⟩:∃o:Obj,o={cls:=.type "tuple",data:=.seq us.toArray}:=⟨_,rfl⟩
 obtain⟨o2,e2⟩:∃o:Obj,o={cls:=.ref C,data:=.fields #[.ref h.objs.size,.none,.none,.none,.bool false,.none]}:=⟨_,rfl⟩
 rw[<-e1,<-e2];have up:∀b o,h.get? b=some o->((h.push o1).push o2).get? b=some o:=λb o z=>Ri _ (Ri _ z);have hC1:=up _ _ hC;have hf1:=up _ _ hf;have hn1:((h.push o1).push o2).Ns N mN:=let ⟨o,es,ep,z,r⟩:=hn;⟨o,es,ep,up _ _ z,r⟩
 have hg:((h.push o1).push o2).get? (h.objs.size+1)=some o2:=Rp (by simp only[Rl]) (by rw[e2];rfl);have hg1:((h.push o1).push o2).get? h.objs.size=some o1:=Ri _ (Rp rfl (by rw[e1];rfl));have cc:(Value.ref C::bm).contains (.ref C)=true:=by simp
 have T1:=T.keeps (h':=(h.push o1).push o2) up;subst e2;unfold isInstance
 repeat (first|with_reducible refine Ts hg ?_|(with_reducible refine wpAny_isSubtype_exc hC1 ?_;rw[cc])|wp_step)
 show RY _ _ (typeLookup (.ref C) _) _ _ _;refine wpAny_typeLookup_tail hC1 hn1 T1 F.mroIs F.init.lookup ?_;rw[hi];refine SW (Sd ?_);unfold bindSpecial;refine Sd (S0 (T:="function") ⟨_,hf1,hc⟩ ?_);rw[if_pos (by decide)];subst e1;refine Sb (Sd (R0 (hq _ (h.objs.size+1) ⟨up,Rg (NC _),h.objs.size,hg,Rg (Nq _),hg1⟩) (λr s' hr=>?_) λ_ _ x=>x));obtain⟨rfl,hQ⟩:=hr
 wp_walk
 exact hQ
theorem oH{Q:bD}(Fn:Tr Bn newId inN bmN)(hb:bmB.contains (.type Bn)=true)(F:Tr B nid initId bmB)(T:OwnTail h bmB bm)
  (hC:h.get? C=some (excClassObj nm q C N bs bm hdct sn sub ab col dd k0 k1 k2 k3 k5 newId)) (hn:h.Ns N mN) (hi:mN "__init__"=some (.ref fI)) (hf:h.get? fI=some oI) (hc:oI.cls=.type "function")
  (hq:∀h' e,Rq h h' e (.ref C) us->RY (model prog w) (A.under (.builtin "type.__call__" ⟨.ref C::us,[]⟩)) (call (.ref fI) (.ref e::us)) (λr s'=>r=.none/\Q (.ref e) s') E ⟨h',g,d,t,os⟩) (hl:us.length<=RO):
  RY (model prog w) A (call (.ref C) us) Q E ⟨h,g,d,t,os⟩:=by
 have f1:=tc_lookup;have f2:=tc_bind (.ref C);have hT:(⟨h,g,d,t,os⟩:RK).TypeIs (.ref C) "type":=⟨_,hC,rfl⟩
 refine SG (codeAny_of_tree ?_);show RY _ _ (callAny (.ref C) _) _ _ _
 repeat (any_goals (first|assumption|with_reducible refine Ts hC ?_|wp_step))
 exact⟨rfl,codeAny_call_builtin_at (Code.quiet_builtin _ (by decide +kernel)) entry_typeCall (wpAny_check_type_call_sub hC (sV Fn hb F T hC hn hi hf hc (λh' e hm=>hq h' e hm) hl))⟩
end
variable[aC]
noncomputable abbrev JF(a0:RG):Data:=.fields #[.ref a0,.none,.none,.none,.bool false,.none]
noncomputable def oz(C e a0:RG):(RG->Prop)->RN->Prop:=λ_ h=>∃o,h.get? e=some o/\o.cls=.ref C/\o.data=JF a0/\o.dict=none
noncomputable def gC(C e a0 d:RG)(fs:List (Str×V)):(RG->Prop)->RN->Prop:=λS h=>∃o mA,h.get? e=some o/\o.cls=.ref C/\o.data=JF a0/\o.dict=some d/\S d/\d≠e/\h.Ns1 d mA/\∀f,sX (fs.lookup f) (mA f)
theorem G9{h h':RN}{d:RG}{mA:bP}(n:h.Ns1 d mA)(k:∀o,h.get? d=some o->h'.get? d=some o):h'.Ns1 d mA:=n.at k
theorem Dg{P:RM}{w:RL}{H:Hp}{h:RN}{C e a0:RG}(x:oz C e a0 (λb=>H b=some (.own e)) h):dE P w H h e (.ext (oz C e a0)):=by
 refine⟨x,let ⟨o,q,_⟩:=x;⟨o,q⟩,λS1 S2 h1 h2 z s12 k=>?_⟩;obtain⟨o,q1,q2⟩:=z;exact⟨o,k _ _ (.inl rfl) q1,q2⟩
theorem vz{P:RM}{w:RL}{H:Hp}{h:RN}{C e a0 d:RG}{fs:List (Str×V)}(x:gC C e a0 d fs (λb=>H b=some (.own e)) h):dE P w H h e (.ext (gC C e a0 d fs)):=by
 refine⟨x,let ⟨o,_,q,_⟩:=x;⟨o,q⟩,λS1 S2 h1 h2 z s12 k=>?_⟩;obtain⟨o,mA,q1,q2,q3,q4,q5,q6,q7,q8⟩:=z;exact⟨o,mA,k _ _ (.inl rfl) q1,q2,q3,q4,s12 _ q5,q6,G9 q7 λo e=>k _ _ (.inr q5) e,q8⟩
section
variable{X:Cx}{pins:bn}{σ:St}{H:Hp}{s:RK}{A:RV}{E:bD}{C e a0:RG}{fs:List (Str×V)}{f:Str}{y:V}{u:RE}{Q:Unit->dD}
theorem sA{fs:List (Str×V)}{f:Str}(y:V)(h:(fs.map (·.1)).contains f=false)(g:Str):(fs++[(f,y)]).lookup g=if g=f then some y else fs.lookup g:=by
 induction fs with
 |nil=>
  show List.lookup g [(f,y)]=_;rw[NZ];by_cases z:g=f
  ·rw[if_pos z,z,beq_self_eq_true]
  ·rw[if_neg z,beq_eq_false_iff_ne.mpr z]
 |cons p r ih=>
  rw[Nw,OS,OT]at h;rw[N3,NZ,NZ,ih h.2];have ne:f≠p.1:=by simpa using h.1
  cases q:(g==p.1)with
  |false=>rfl
  |true=>
   have:=beq_iff_eq.mp q
   have nf:¬g=f:=λz=>ne (z.symm.trans this);show some p.2=if g=f then some y else some p.2
   rw[if_neg nf]
theorem lookup_mem{fs:List (Str×V)}{g:Str}{v:V}(h:fs.lookup g=some v):g∈fs.map (·.1):=by
 induction fs with
 |nil=>cases h
 |cons p r ih=>
  rw[NZ]at h;cases q:(g==p.1)with
  |true=>rw[Nw,beq_iff_eq.mp q];exact Nh
  |false=>rw[q]at h;exact Ni _ (ih h)
theorem qv(I:Inv X pins σ H s)(e1:H e=some (.ext (oz C e a0)))(Z:EE X.K C)(n:dF X.K C f)(ry:RelV y u)
  (h0:∀d s',H d=none->d≠e->Inv X pins σ (upd (upd H d (.own e)) e (.ext (gC C e a0 d [(f,y)]))) s'->Q () s'):RY (model X.prog X.w) A (setAttr (.ref e) f u) Q E s:=by
 obtain⟨⟨o,q1,q2,q3,q6⟩,_,_⟩:=(show dE X.prog X.w H s.heap e (.ext (oz C e a0))from I.hok e _ e1)
 refine yP Z I.kIn q1 q2 q3 q6 n λh' n2 s2=>h0 s.heap.objs.size _ (I.hok.fresh (Nq _)) (Ne.symm (Nb (Rf q1))) ?_;have ne:e≠s.heap.objs.size:=Nb (Rf q1);have I1:=I.laid (a:=s.heap.objs.size) (o:=.own e) (h':=s.heap.push {cls:=.type "dict",data:=.dict #[]}) (t':=s.toks) (λb o z=>Ri _ z) (Nq _) ⟨_,Rj s.heap rfl⟩;have g1:(s.heap.push {cls:=.type "dict",data:=.dict #[]}).get? e=some o:=Ri _ q1;have g2:((s.heap.push {cls:=.type "dict",data:=.dict #[]}).update e λo=>{o with dict:=some s.heap.objs.size}).get? e=some {o with dict:=some s.heap.objs.size}:=Rn (λo=>{o with dict:=some s.heap.objs.size}) g1 (Obj.isFreed_of_fields (o:={o with dict:=some s.heap.objs.size}) q3);have I2:=I1.write (x:=e) (e:=e) (o:=.ext (Gg C e (some s.heap.objs.size))) (t':=s.toks) (h':=(s.heap.push {cls:=.type "dict",data:=.dict #[]}).update e λo=>{o with dict:=some s.heap.objs.size}) (by rw[ay ne,e1];trivial) (.inl rfl) (λb u nb z=>(Ro _ _ _ _ nb).trans z) ⟨_,g2⟩
  ⟨⟨_,g2,q2,rfl,by unfold QP;rw[q3]⟩,⟨_,g2⟩,λ_ _ h1 h2 ⟨o,z1,z2⟩ _ k=>⟨o,k _ o (.inl rfl) z1,z2⟩⟩
 have g3:h'.get? e=some {o with dict:=some s.heap.objs.size}:=(s2.2 e ne).trans g2;have I3:=I2.write (x:=e) (e:=s.heap.objs.size) (o:=.ext (gC C e a0 s.heap.objs.size [(f,y)])) (t':=s.toks+2) (h':=h') (by rw[aK];trivial) (.inr (by rw[ay ne.symm,aK])) (λb u nb z=>(s2.2 b nb).trans z) (let ⟨o,_,_,z,_⟩:=n2;⟨o,z⟩)
  (vz ⟨_,_,g3,q2,q3,rfl,by dsimp only;rw[ay ne.symm,ay ne.symm,aK],ne.symm,n2,λg=>?_⟩)
 ·rw[vV]at I3;exact I3
 ·rw[NZ];by_cases z:g=f
  ·rw[if_pos z,z];simpa [sX]using ry
  ·rw[if_neg z,beq_eq_false_iff_ne.mpr z];trivial
theorem qU{d:RG}(I:Inv X pins σ H s)(e1:H e=some (.ext (gC C e a0 d fs)))(Z:EE X.K C)(n:dF X.K C f)(hl:fs.length<1000)(hc:(fs.map (·.1)).contains f=false)(ry:RelV y u)
  (h1:∀s',Inv X pins σ (upd H e (.ext (gC C e a0 d (fs++[(f,y)])))) s'->Q () s'):RY (model X.prog X.w) A (setAttr (.ref e) f u) Q E s:=by
 obtain⟨⟨o,mA,q1,q2,q3,p1,p2,p3,p4,p5⟩,_,_⟩:=(show dE X.prog X.w H s.heap e (.ext (gC C e a0 d fs))from I.hok e _ e1)
 have wi:PySem.Within mA (fs.map (·.1)):=λg hg=>by
  cases z:fs.lookup g with
  |none=>have:=p5 g;rw[z]at this;exact absurd (sX.none_of this) hg
  |some v=>exact lookup_mem z
 refine BK Z I.kIn q1 q2 (by unfold QP;rw[q3]) p1 p4 n wi (by rw[Nx,Sl];omega) λh' n2 s2=>h1 _ ?_;refine I.write (x:=e) (e:=d) (t':=s.toks+2) (by rw[e1];trivial) (.inr p2) (λb u nb z=>(s2.2 b nb).trans z) (let ⟨o,_,_,z,_⟩:=n2;⟨o,z⟩) (vz ⟨o,_,(s2.2 e p3.symm).trans q1,q2,q3,p1,by dsimp only;rw[ay p3];exact p2,p3,n2,λg=>?_⟩);rw[sA y hc];by_cases z:g=f
 ·rw[if_pos z,if_pos z];exact ry
 ·rw[if_neg z,if_neg z];exact p5 g
end
noncomputable def HQ(K:Qw)(ta tv:TE)(f:Str):TS:=λD σ H=>tv σ H λy H1=>ta σ H1 λx H2=>∃e C a0,x=.ref e/\EE K C/\dF K C f/\
  ((H2 e=some (.ext (oz C e a0))/\∀ d,H2 d=none->d≠e->D.nx σ (upd (upd H2 d (.own e)) e (.ext (gC C e a0 d [(f,y)])))) \/
   ∃d fs,H2 e=some (.ext (gC C e a0 d fs))/\fs.length<1000/\(fs.map (·.1)).contains f=false/\D.nx σ (upd H2 e (.ext (gC C e a0 d (fs++[(f,y)])))))
section
variable{X:Cx}
theorem C2{o value:RH}{f:Str}{pos pos':Pos}{ta tv:TE}(ha:PE X o ta)(hv:PE X value tv)(hs:swapsWith value (some (.Attribute o f pos')) pos.line X.env=pure false):PS X (.Assign [.Attribute o f pos'] value pos) (HQ X.K ta tv f):=by
 intro pins s σ H D I h;refine Sw (cN (hv pins s σ H _ I h) λu s1 h1=>?_) hs;obtain⟨y,H1,I1,ry,q⟩:=h1;refine cN (ha pins s1 σ H1 _ I1 q) λov s2 h2=>?_;obtain⟨x,H2,I2,rx,e,C,a0,ex,Z,n,q⟩:=h2;subst ex;obtain rfl:ov=Value.ref e:=rx;rcases q with⟨ea,q⟩|⟨d,fs,ea,l,nc,q⟩
 ·exact qv I2 ea Z n ry λd s3 hd ne I3=>⟨σ,_,I3,q d hd ne⟩
 ·exact qU I2 ea Z n l nc ry λs3 I3=>⟨σ,_,I3,q⟩
noncomputable def EA(X:Cx)(body:dM)(fs:au)(i:Nat):Prop:=
 ∃t,oV X body t/\∀(D:Ends)(σ:St)(H:Hp)(e C a0:RG)(as:aH),σ[0]?=some (some (.ref e))->(∀j v,as[j]?=some v->σ[i+j]?=some (some v))->as.length=fs.length->EE X.K C->(∀f∈fs,dF X.K C f)->
  (fs.length<1000->fs.Nodup->H e=some (.ext (oz C e a0))->(∀d,H d=none->d≠e->D.nx σ (upd (upd H d (.own e)) e (.ext (gC C e a0 d (fs.zip as)))))->t D σ H)/\
  ∀d done,done.length+fs.length<1000->(done.map (·.1)++fs).Nodup->H e=some (.ext (gC C e a0 d done))->D.nx σ (upd H e (.ext (gC C e a0 d (done++fs.zip as))))->t D σ H
theorem Il{done:List (Str×V)}{f:Str}{fs:au}(nd:(done.map (·.1)++f::fs).Nodup):(done.map (·.1)).contains f=false:=by
 rw[OU]at nd;cases hc:(done.map (·.1)).contains f with
 |false=>rfl
 |true=>exact absurd rfl (nd.2.2 f (List.contains_iff_mem.mp hc) f Nh)
theorem xx{st:RJ}{f:Str}{i:Nat}{o v:RH}{p1 p2:Pos}(hst:st=.Assign [.Attribute o f p1] v p2)(ho:PE X o (rG 0))(hv:PE X v (rG i))(hs:swapsWith v (some (.Attribute o f p1)) p2.line X.env=pure false):EA X [st] [f] i:=by
 subst hst;refine⟨_,qx (C2 ho hv hs),λD σ H e C a0 as h0 ha hl Z na=>?_⟩;obtain⟨a,rfl⟩:=List.length_eq_one_iff.mp hl;exact⟨λ_ _ hx q=>⟨a,ha 0 a rfl,.ref e,h0,e,C,a0,rfl,Z,na f Nh,.inl ⟨hx,q⟩⟩,λd done hz nd hx q=>⟨a,ha 0 a rfl,.ref e,h0,e,C,a0,rfl,Z,na f Nh,.inr ⟨d,done,hx,by simp at hz;omega,Il nd,q⟩⟩⟩
end
noncomputable def LR(C:RG)(fs:au):Sp:=λvs H Q _=>∃e a0 as,vs=.ref e::as/\as.length=fs.length/\H e=some (.ext (oz C e a0))/\∀d,H d=none->d≠e->Q .non (upd (upd H d (.own e)) e (.ext (gC C e a0 d (fs.zip as))))
structure JD(K:Qw)(C f:RG):Prop where
 cls:∃nm q N bs bm hdct sn sub ab col dd k0 k1 k2 k3 k5,∀h,K.In h->h.get? C=some (excClassObj nm q C N bs bm hdct sn sub ab col dd k0 k1 k2 k3 k5 "ValueError.__new__")/\(∃mN,h.Ns N mN/\mN "__init__"=some (.ref f))/\OwnTail h Gy bm
 fn:QH K (.ref f)=some (.type "function")
 st:EE K C
 kp:QJ K (.ref C)=true
noncomputable def uJ(K:Qw)(C:RG)(f:RG):Bool:=match K.lookup C with
 |some ⟨.type "type",_,.cls k,slots⟩=>(match k.mro,slots.toList with
  |.ref c0::tl,[_,_,_,_,some (.builtin j),_]=>c0==C&&(j=="ValueError.__new__"&&(!k.hasDel&&(PySem.W.tailIn K Gy tl&&(PySem.W.nsOkIn K k.ns&&QO K k.ns "__init__"==some (some (.ref f))))))
  |_,_=>false)
 |_=>false
theorem Je{K:Qw}{h:RN}{N:RG}{m:bP}{n:Str}{v:RE}(X:K.In h)(G:h.Ns N m)(e:QO K N n=some (some v)):m n=some v:=by
 obtain⟨o,es,ep,g1,g2,_,g3⟩:=G;unfold QO at e;split at e
 ·rename_i look;have z:=X _ _ look;rw[g1]at z;cases z;cases g2;rw[<-g3];unfold nsFind findBy;rw[<-Array.find?_toList];split at e
  ·rename_i y;rw[y];cases e;rfl
  ·split at e<;>cases e
 ·cases e
theorem Ff{K:Qw}{C f:RG}(q:uJ K C f=true)(fn:QH K (.ref f)=some (.type "function"))(st:EE K C)(kp:QJ K (.ref C)=true):JD K C f:=by
 refine⟨?_,fn,st,kp⟩;unfold uJ at q;split at q
 ·rename_i od data slots look;split at q
  ·rename_i C0 tl s0 s1 s2 s3 nid s5 e1 e2;simp only[NU,beq_iff_eq,Pl]at q;obtain⟨y1,y2,y3,y4,y5,y6⟩:=q;subst y1 y2;obtain⟨d1,d2,d3,d4,d5,d6,d7,d8,d9,d10,d11⟩:=data;dsimp only at e1 y3 y5 y6;subst e1 y3;have hs:slots=#[s0,s1,s2,s3,some (.builtin "ValueError.__new__"),s5]:=by
    cases slots with
    |mk l=>rw[show l=_ from e2]
   subst hs;exact⟨d1,d5,d4,d2,tl,d6,d7,d8,d9,d10,od,s0,s1,s2,s3,s5,λh X=>⟨X _ _ look,⟨_,.of_isNs (QU X y5),Je X (.of_isNs (QU X y5)) y6⟩,QV X y4⟩⟩
  ·cases q
 ·cases q
noncomputable def m9(P:RM)(w:RL)(K:Qw)(mg:bP)(base:RN)(k:Nat)(c:Str)(ps fs:au):Prop:=
 ∃C f fd,clsAt K c C/\JD K C f/\fP P w K mg base (iH P w) k f fd ps (LR C fs)/\Binds K fd ps []/\mg c=some (.ref C)
theorem uT{P:RM}{w:RL}{K:Qw}{mg:bP}{base:RN}{k:Nat}{ps:au}{c qual:Str}{C f:RG}{fd:SD}{st:RJ}{fs:au}(h1:clsAt K c C)(hM:JD K C f)(na:∀g∈fs,dF K C g)(F:ou K "__init__" qual st f fd)(b:Binds K fd ps [])(hmg:mg c=some (.ref C))(SC:cx ps ps (aw st))(hps:ps.length=fs.length+1)(hnd:fs.Nodup)(hlen:fs.length<1000)
  (hb:∀(cdv:RE)(A:RV)(outer:List Env)(s:RK)(H:Hp)(E:XK),EA (fO Im P w K mg base ps qual (aw st) f cdv A outer s H E).nox (cT st) fs 1):m9 P w K mg base (k+1) c ps fs:=by
 refine⟨C,f,fd,h1,hM,?_,b,hmg⟩;refine fP.any (F.ok SC (λvs H Q E h=>?_) λcdv A outer s H vs Q E hr h=>?_)
 ·obtain⟨e,a0,as,rfl,hl,_⟩:=h;rw[Nv,hl,hps]
 ·obtain⟨t,ht,hq⟩:=hb cdv A outer s H E;obtain⟨e,a0,as,rfl,hl,hx,q⟩:=h;have hst:L2.start ps (.ref e::as)=(.ref e::as).map some:=by
   unfold L2.start;rw[Nv,hl,hps,OV,OW,NB]
  refine⟨t,ht,(hq _ _ H e C a0 as (by rw[hst];rfl) (λj v z=>?_) hl hM.st na).1 hlen hnd hx q⟩;rw[hst,OX,Nw,OI,NM,z];rfl
theorem uB{M:RX}{A:RV}{E:bD}{env:Env}{nm q:Str}{C N:RG}{bs bm:aU}{hdct:Bool}{sn:au}{sub:aU}{ab:Bool}{col:Option Bool}{dd:Option RG}{k0 k1 k2 k3 k5:Option RE}{newId:String}{s:RK}{x:Sem RE}{Q:Flow->dD}(hb:bm.contains (.type "BaseException")=true)(hh:A.handled=none)
  (h:RY M A x (λv s₁=>∃e t dx sl,v=.ref e/\s₁.heap.get? C=some (excClassObj nm q C N bs bm hdct sn sub ab col dd k0 k1 k2 k3 k5 newId)/\s₁.heap.get? e=some ⟨.ref C,dx,JF t,sl⟩/\E (.ref e) s₁) E s):RY M A (raiseStmt env (some x) none) Q E s:=by
 have hc:(Value.ref C::bm).contains (.type "BaseException")=true:=by rw[OS,hb,Pk]
 unfold raiseStmt;refine Sd (R0 h (λv s₁ h₁=>?_) λ_ _ x=>x);obtain⟨e,t,dx,sl,rfl,hC,he,hE⟩:=h₁;obtain⟨hp,g,d,tk,os⟩:=s₁
 repeat (first|with_reducible refine Ts he ?_|with_reducible refine Ts hC ?_|(with_reducible refine wpAny_isSubtype_exc hC ?_;rw[hc])|wp_step)
 exact wpAny_raiseNew_none hh hE
section
variable{X:Cx}{pins:bn}{σ:St}{H:Hp}{s:RK}
theorem adopt{e:RG}{ob:HO}(I:Inv X pins σ H s)(hn:H e=none)(h0:X.s₀.heap.get? e=none)(hL:e≠X.env.locals)(hcl:∀x,X.env.cells.lookup x≠some e)(hp:∀p∈X.pn++pins,p.1≠e)(new:dE X.prog X.w (upd H e ob) s.heap e ob):Inv X pins σ (upd H e ob) s:=by
 have ne:∀b u,H b=some u->b≠e:=λb u q z=>by rw[z,hn]at q;cases q
 have U:=I.base;refine⟨I.ok,I.os,I.bare,⟨U.keep,U.slot,λb o q n nx=>?_,U.there,λb xs q=>?_,λb o u q=>?_,λb ps q=>?_⟩,I.loc,I.cell,?_,λx c q=>?_,λp q=>?_,λa o q=>?_,I.len⟩
 ·rw[ay λz=>by rw[z,h0]at q;cases q];exact U.free b o q n nx
 ·have:=U.tups b xs q;rw[ay (ne _ _ this)];exact this
 ·have:=U.frzs b o u q;rw[ay (ne _ _ this)];exact this
 ·obtain⟨more,z⟩:=U.tbls b ps q;exact⟨more,by rw[ay (ne _ _ z)];exact z⟩
 ·rw[ay hL.symm];exact I.free
 ·rw[ay λz=>hcl x (by rw[<-z];exact q)];exact I.freeC x c q
 ·obtain⟨a1,a2,a3⟩:=I.pin p q;exact⟨a1,by rw[ay (hp p q)];exact a2,a3⟩
 ·by_cases z:a=e
  ·subst z;rw[aK]at q;cases q;exact new
  ·rw[ay z]at q;exact(I.hok a o q).stay (λb u _ q=>q) (λb q=>by rw[ay (ne _ _ q)];exact q) λb xs q=>by rw[ay (ne _ _ q)];exact q
theorem p7{e:RG}(I:Inv X pins σ H s)(hx:X.ex=[])(n:s.heap.get? e=none):H e=none/\X.s₀.heap.get? e=none/\e≠X.env.locals/\(∀x,X.env.cells.lookup x≠some e)/\∀p∈X.pn++pins,p.1≠e:=by
 refine⟨?_,?_,λz=>?_,λx q=>?_,λp hp z=>?_⟩
 ·cases q:H e with
  |none=>rfl
  |some ob=>obtain⟨o,z⟩:=uP (I.hok e ob q);rw[n]at z;cases z
 ·cases q:X.s₀.heap.get? e with
  |none=>rfl
  |some o=>obtain⟨o',z⟩:=I.base.there e o q (by rw[hx];simp);rw[n]at z;cases z
 ·obtain⟨m,⟨o,es,ep,e2,_⟩,_⟩:=I.loc;rw[<-z,n]at e2;cases e2
 ·obtain⟨v,o,z,_⟩:=I.cell x e q;rw[n]at z;cases z
 ·have:=(I.pin p hp).1
  rw[z,n]at this;cases this
theorem D9{s3:RK}{C e a0 d:RG}{fs:List (Str×V)}(I:Inv X pins σ H s)(hx:X.ex=[])(n:s.heap.get? e=none)(hd:H d=none)(I3:Inv X pins σ (upd (upd H d (.own e)) e (.ext (gC C e a0 d fs))) s3):
  Inv X pins σ (upd H d (.xd fs)) s3/\tD X (upd H d (.xd fs)) s3 e C (some d)/\∃sl,s3.heap.get? e=some ⟨.ref C,some d,JF a0,sl⟩:=by
 obtain⟨hn,h0,hL,hcl,hp⟩:=p7 I hx n;obtain⟨⟨o,mA,q1,q2,q3,q4,q5,q6,q7,q8⟩,_,_⟩:=(show dE X.prog X.w _ s3.heap e (.ext (gC C e a0 d fs))from I3.hok e _ aK)
 have He:upd H d (.xd fs) e=none:=by rw[ay q6.symm];exact hn
 have d3:upd (upd H d (.own e)) e (.ext (gC C e a0 d fs)) d=some (.own e):=by rw[ay q6,aK]
 have away:∀b,b≠e->b≠d->upd H d (.xd fs) b=upd (upd H d (.own e)) e (.ext (gC C e a0 d fs)) b:=λb n1 n2=>by rw[ay n2,ay n1,ay n2]
 have none3:∀b,upd (upd H d (.own e)) e (.ext (gC C e a0 d fs)) b=none->b≠e/\b≠d:=λb z=>⟨λw=>(by rw[w,aK]at z;cases z),λw=>(by rw[w,d3]at z;cases z)⟩
 have some3:∀b u,upd (upd H d (.own e)) e (.ext (gC C e a0 d fs)) b=some u->(∀φ,u≠.ext φ)->(∀y,u≠.own y)->upd H d (.xd fs) b=some u:=λb u z n1 n2=>by
  rw[away b (λw=>by rw[w,aK]at z;cases z;exact n1 _ rfl) λw=>by rw[w,d3]at z;cases z;exact n2 _ rfl];exact z
 have U:=I3.base;have I4:Inv X pins σ (upd H d (.xd fs)) s3:=by
  refine⟨I3.ok,I3.os,I3.bare,⟨U.keep,U.slot,λb o q n nx=>?_,U.there,λb xs q=>?_,λb o u q=>?_,λb ps q=>?_⟩,I3.loc,I3.cell,?_,λx c q=>?_,λp q=>?_,λa o q=>?_,I3.len⟩
  ·have z:=U.free b o q n nx;obtain⟨n1,n2⟩:=none3 b z;rw[away b n1 n2];exact z
  ·exact some3 _ _ (U.tups b xs q) (λ_ z=>nomatch z) λ_ z=>nomatch z
  ·exact some3 _ _ (U.frzs b o u q) (λ_ z=>nomatch z) λ_ z=>nomatch z
  ·obtain⟨more,z⟩:=U.tbls b ps q;exact⟨more,some3 _ _ z (λ_ z=>nomatch z) λ_ z=>nomatch z⟩
  ·obtain⟨n1,n2⟩:=none3 _ I3.free;rw[away _ n1 n2];exact I3.free
  ·obtain⟨n1,n2⟩:=none3 _ (I3.freeC x c q);rw[away _ n1 n2];exact I3.freeC x c q
  ·obtain⟨a1,a2,a3⟩:=I3.pin p q;obtain⟨n1,n2⟩:=none3 _ a2;exact⟨a1,by rw[away _ n1 n2];exact a2,a3⟩
  ·by_cases z:a=d
   ·subst z;rw[aK]at q;cases q;exact⟨mA,q7,q8⟩
   ·have ae:a≠e:=λw=>by rw[w,He]at q;cases q
    rw[away a ae z]at q;refine(I3.hok a o q).stay (λb u _ q=>q) (λb w=>?_) λb xs w=>some3 _ _ w (λ_ z=>nomatch z) λ_ z=>nomatch z;rw[away b (λy=>by rw[y,aK]at w;cases w) λy=>by rw[y,d3]at w;cases w;exact ae rfl];exact w
 obtain⟨oc,odi,oda,osl⟩:=o;dsimp only at q2 q3 q4;subst q2 q3 q4;have nk:¬gX X (upd H d (.xd fs)) e:=λz=>by
  rcases z with⟨⟨o,z⟩,_⟩|z|⟨o,z⟩|⟨x,z⟩
  ·rw[h0]at z;cases z
  ·exact z He
  ·exact hp _ (Nj _ z) rfl
  ·exact hcl x z
 refine⟨I4,⟨λoe z=>by rw[q1]at z;cases z;rfl,jA s3.heap (λb=>if b∈frs X.stack\/b=e then some (.tup [])else none),.ref a0,λb o z=>(jU z).1,?_,iq (λ_ _ z=>z) (λb hb=>?_) I4.stack,.inr ⟨_,_,q1,rfl,rfl,rfl,rfl⟩,λb o z kb nf=>jb z (if_neg ?_)⟩,osl,q1⟩
 ·cases z:(jA s3.heap (λb=>if b∈frs X.stack\/b=e then some (.tup [])else none)).get? e with
  |none=>rfl
  |some o=>have:=(jU z).2;rw[if_pos (.inr rfl)]at this;cases this
 ·cases z:(jA s3.heap (λb=>if b∈frs X.stack\/b=e then some (.tup [])else none)).get? b with
  |none=>rfl
  |some o=>have:=(jU z).2;rw[if_pos (.inl hb)]at this;cases this
 ·rintro(w|w)
  ·exact nf w
  ·exact nk (w ▸ kb)
end
noncomputable def ke(c:Str)(fs:au)(f:aW):bU:=λk ρ=>ll (f ρ) k ρ λds=>if small ds.length&&ds.length==fs.length then k.ex ⟨c,fs,ds⟩ ρ else un
end TG
namespace TG
open PySem PySem.Spec L2
variable[aC]
end TG
namespace TG
open PySem PySem.Spec L2
variable[aC]
noncomputable def hK0(k:Ks):Ks:=⟨k.nx,k.bk,k.ct,λ_ _=>un⟩
noncomputable def tX(cs:au)(F Fh:bU):bU:=λk ρ=>F {k with ex:=λx ρ1=>if cs.contains x.c=true then Fh (hK0 k) ρ1 else un} ρ
section
variable{X:Cx}{pos:Pos}
theorem Jo{body suite:dM}{b₀:RJ}{g:Str}{gp hpos:Pos}{F Fh:bU}{cs:au}(hx:X.ex=[])(hst:X.stack=X.env::X.outer)(hf:X.env.frame=some X.env.locals)(hfn:∀x,X.fn x=true)
  (hT:sL X.K X.mg g cs) (hg:Gl X g)
  (hb:∀E pn,R9 (model X.prog X.w) X.A X.env E->Ic (uS X E pn) body F) (hs:∀A pn,A.depth=X.A.depth->A.units=X.A.units->Ic (sY X A pn) (b₀::suite) Fh) (hdb:(g==("__debug__":Str))=false:=by decide):
  FS X (.Try body [.ExceptHandler (some (.Name g gp)) none (b₀::suite) hpos] [] [] pos) (tX cs F Fh):=λHb Ob pins s σ H E I ⟨O,ρ,k,r,S,hF,hk⟩=>by
 obtain⟨G,hG,hcs⟩:=hT;refine wpAny_Try_except ?_;have land:∀O1 ρ1 σ1 H1 x,dS X.K Hb Ob O1 H1 ρ1 σ1->(if cs.contains x.c=true then Fh (hK0 k) ρ1 else un)=r->
   HB (uS X (λe s₁=>RY (model X.prog X.w) X.A (noteFrame e X.env) (λ_ s₂=>RY (model X.prog X.w) X.A (setFlight e none) (λ_ s₃=>RY (model X.prog X.w) X.A (handleBy e X.env [.ExceptHandler (some (.Name g gp)) none (b₀::suite) hpos]) (SP X pins E) X.xe s₃) X.xe s₂) X.xe s₁) (X.pn++pins)) σ1 O1 H1 x:=by
  rintro O1 ρ1 σ1 H1 x S1 ex pins' s1 u H2 I1 sm ⟨e,C,dx,rfl,hd,fl⟩;have cond:cs.contains x.c=true:=by
   cases z:cs.contains x.c with
   |true=>rfl
   |false=>rw[z]at ex;exact absurd ex.symm hk.ne
  rw[if_pos cond]at ex;obtain⟨oe1,vs1,he1,hc1,hd1⟩:=xX fl;have nfr:e∉frs X.stack:=λz=>by
   obtain⟨_,o,q,nf⟩:=I1.stack.mem z;rw[he1]at q;cases q;exact nf _ hd1
  refine BU (X:=uS X _ (X.pn++pins)) I1.ok.frames hst hf fl λB a0 h4 held us4 kb ds4=>?_;have nk:¬gX (uS X _ (X.pn++pins)) H2 e:=λz=>by
   have:=kb e oe1 he1 z nfr
   rw[held.2.1]at this;cases this
  refine DP.go (lO _ _) (P:=λh'=>Rm B X.stack e (.ref C) a0 h'/\h4.UpToSlots h') (wpAny_landsW held λh' x y=>⟨h',rfl,x,y⟩) λh5 z5 ds5=>?_;obtain⟨fl5,us5⟩:=z5;have I5:=v8 I1 hx hst hf hfn (us4.trans us5) λb o q kb' nf=>fl5.1 b o (kb b o q kb' nf);obtain⟨oe5,he5,hc5⟩:=fl5.there;have I5h:=se (A:=X.A.mark (some (.ref e))) I5 rfl;refine wpAny_handleBy_cons (codeAny_handlers_test (jt (X:=sY X (X.A.mark (some (.ref e))) (X.pn++pins)) I5h hg hG ?_ hdb)) (by intro z;cases z);refine(PySem.W.exm_one I5.kIn (show PySem.W.Looks _ h5 (typeOf (.ref e)) (.ref C)from hc5 ▸ (PySem.W.Looks.ld he5).andThen .now) (hcs x.c (by simpa using cond) C hd.1)).at ?_;refine codeAny_handlers_suite ?_;refine DP.go (lO _ _) (P:=λh'=>Rm B X.stack e (.ref C) a0 h'/\h5.UpToSlots h') (PyProof.Rows.lands_againW fl5 λh' x y=>⟨h',rfl,x,y⟩) λh6 z6 ds6=>?_;obtain⟨fl6,us6⟩:=z6;have I6:=v8 I1 hx hst hf hfn ((us4.trans us5).trans us6) λb o q kb' nf=>fl6.1 b o (kb b o q kb' nf);have I6h:=se (A:=X.A.mark (some (.ref e))) I6 rfl;refine R0 (hs (X.A.mark (some (.ref e))) (X.pn++pins) rfl rfl Hb Ob [] _ _ _ E I6h
   ⟨O1,_,hK0 k,r,S1.same sm,ex,hk.ne,hk.nx,hk.bk,hk.ct,hk.rt,λO' ρ' σ' H' y S' q=>absurd q.symm hk.ne⟩) (λf s8 h8=>?_) λ_ _ z=>z.elim
  cases f with
  |next=>obtain⟨σ',H',I8,q⟩:=h8;exact⟨σ',H',fz I.ok I8,q⟩
  |brk=>obtain⟨σ',H',I8,q⟩:=h8;exact⟨σ',H',fz I.ok I8,q⟩
  |cont=>obtain⟨σ',H',I8,q⟩:=h8;exact⟨σ',H',fz I.ok I8,q⟩
  |ret u=>obtain⟨v,σ',H',I8,rv,q⟩:=h8;exact⟨v,σ',H',fz I.ok I8,rv,q⟩
 refine R0 (hb _ (X.pn++pins) PassesOwn.looking Hb Ob [] s σ H E (CF I _) ⟨O,ρ,_,r,S,hF,hk.ne,hk.nx,hk.bk,hk.ct,hk.rt,land⟩) (λf s1 h1=>?_) λ_ _ z=>z;cases f with
 |next=>obtain⟨σ',H',I1,q⟩:=h1;exact wO pins s1 σ' H' E (fz I.ok I1) q
 |brk=>obtain⟨σ',H',I1,q⟩:=h1;exact⟨σ',H',fz I.ok I1,q⟩
 |cont=>obtain⟨σ',H',I1,q⟩:=h1;exact⟨σ',H',fz I.ok I1,q⟩
 |ret u=>obtain⟨v,σ',H',I1,rv,q⟩:=h1;exact⟨v,σ',H',fz I.ok I1,rv,q⟩
end
end TG
namespace L2
open PySem PySem.Spec PyProof.Rows
section
variable{prog:RM}{w:RL}{A:RV}{E:bD}{s:RK}
theorem xU:isSubtype (.type "range_iterator") (.type "reversed")=pure false:=by rw[isSubtype_type];kernel_rfl
noncomputable def nG(x n c:Int):Obj:={cls:=.type "range_iterator",data:=.fields #[rawInt x,rawInt n,rawInt c]}
theorem kT{a:Int}(h:-(2^63)<=a)(h':a<2^63):Builtin.Range.rangeFitsLong a=true:=by
 unfold Builtin.Range.rangeFitsLong;simp only[NU,decide_eq_true_eq];omega
theorem oy{a:RG}{hi:Int}{t u v:Tok}{Q:bD}(hr:IsRange s.heap a 0 hi 1 t u v)(h1:-(2^62)<=hi)(h2:hi<2^62)
  (h:Q (.ref s.heap.objs.size) {s with heap:=s.heap.push (nG ((hi.toNat:Int)-1) hi.toNat (-1))}):RY (model prog w) A (call (.builtin "range.__reversed__") [.ref a]) Q E s:=by
 have hT:s.TypeIs (.ref a) "range":=⟨_,hr,rfl⟩
 refine SZ F.slot_range_reversed hT F.entry_range_reversed ?_ (F.args_range_reversed_1 _);unfold Builtin.«range.__reversed__»;refine Sd (Te (a:=Value.ref a) rfl ?_);have sz:Builtin.Range.rangeSize 0 hi 1=(hi.toNat:Int):=by rw[rangeSize_one];split<;>omega
 refine Sd (m:=Builtin.Range.rangeFields (.ref a)) ?_;unfold Builtin.Range.rangeFields;refine Sd (SV hr rfl rfl ?_);refine Sd (Te (a:=some (0:Int)) (by first|rfl|kernel_rfl) ?_);refine Sd (SV hr rfl rfl ?_);refine Sd (Te (a:=some hi) (by first|rfl|kernel_rfl) ?_);refine Sd (SV hr rfl rfl ?_);refine Sd (Te (a:=some (1:Int)) (by first|rfl|kernel_rfl) ?_);refine Sb ?_;dsimp only;rw[sz];have sm:(Builtin.Range.rangeFitsLong 0&&Builtin.Range.rangeFitsLong hi&&Builtin.Range.rangeFitsLong 1&&Builtin.Range.rangeFitsLong (-1)&&Builtin.Range.rangeFitsLong (0-1)&&Builtin.Range.rangeFitsLong (hi.toNat:Int))=true:=by
  rw[kT (a:=0) ‹0› ‹0›,kT (a:=hi) ‹0› ‹0›,kT (a:=1) ‹0› ‹0›,kT (a:=-1) ‹0› ‹0›,kT (a:=0-1) ‹0› ‹0›,kT (a:=(hi.toNat:Int)) ‹0› ‹0›];rfl
 rw[sm];rw[if_neg (by decide),if_pos rfl,show 0+((hi.toNat:Int)-1)*1=(hi.toNat:Int)-1 by omega];show RY _ _ (newObj (.type "range_iterator") (.fields [rawInt ((hi.toNat:Int)-1),rawInt (hi.toNat:Int),rawInt (-1)].toArray) >>= _) _ _ _;exact Sd (S3 (Sb ⟨_,rfl,h⟩))
theorem oK{a:RG}{hi:Int}{t u v:Tok}{Q₁:bD}(hr:IsRange s.heap a 0 hi 1 t u v)(h1:-(2^62)<=hi)(h2:hi<2^62)
  (h:Q₁ (.ref s.heap.objs.size) {s with heap:=s.heap.push (nG ((hi.toNat:Int)-1) hi.toNat (-1))}):
  Su (model prog w) A (.call (.builtin "reversed.__new__") ⟨[.type "reversed",.ref a],[]⟩) (wants Q₁ E) s:=by
 have hT:s.TypeIs (.ref a) "range":=⟨_,hr,rfl⟩
 have none:¬((Value.builtin "range.__reversed__"==Value.none)=true):=Nn;have last:∀B:RV,RY (model prog w) B (call (.builtin "range.__reversed__") [.ref a]) (λv s'=>v=.ref s.heap.objs.size/\s'={s with heap:=s.heap.push (nG ((hi.toNat:Int)-1) hi.toNat (-1))}) E s:=λB=>oy hr h1 h2 ⟨rfl,rfl⟩;refine codeAny_of_tree (show RY _ A.in1 (checkBuiltinCall "reversed.__new__" ⟨[.type "reversed",.ref a],[]⟩ >>= λ_=>again (.builtin "reversed.__new__" ⟨[.type "reversed",.ref a],[]⟩)) _ _ s from ?_);refine Sd (Te (F.newCall_reversed_1 (.ref a)) (Sb ⟨plainId_quiet F.plain_reversed_new _,codeAny_builtin F.entry_reversed_new ?body⟩));rw[Around.under_plainId F.plain_reversed_new _,Builtin.«reversed.__new__»];refine Sd (Te (newClass_reversed (.ref a)) (Sd (Te (a:=()) (by kernel_rfl) (Sd (Te (a:=()) (by kernel_rfl) ?look)))));refine Sd (wpAny_specialOf hT F.slot_range_reversed.lookup (Sd (Te (F.slot_range_reversed.bind _) ?go)));show RY _ _ (if(Value.builtin "range.__reversed__"==Value.none)=true then _ else _) _ _ _;rw[if_neg none];refine Sd (S8 (Sd (m:=runValue (.call (.builtin "range.__reversed__") ⟨[.ref a],[]⟩)) (cN (last _) λv s' ⟨ev,es⟩=>?_)));subst ev es
 first|exact Sb h|exact Sd (Sb (Sb h))
theorem oF{a:RG}{hi:Int}{t u v:Tok}{Q:bD}(hr:IsRange s.heap a 0 hi 1 t u v)(h1:-(2^62)<=hi)(h2:hi<2^62)
  (h:Q (.ref s.heap.objs.size) {s with heap:=s.heap.push (nG ((hi.toNat:Int)-1) hi.toNat (-1))}):RY (model prog w) A (call (.type "reversed") [.ref a]) Q E s:=by
 refine callType_other (U:="range_iterator") (Q₁:=λobj s₁=>obj=.ref s.heap.objs.size/\s₁={s with heap:=s.heap.push (nG ((hi.toNat:Int)-1) hi.toNat (-1))}) (by decide +kernel) F.create_reversed ⟨_,_,F.mro_reversed⟩ F.made_reversed xU (F.typeCall_reversed_1 _) (oK hr h1 h2 ⟨rfl,rfl⟩) ?_;rintro obj s₁ ⟨rfl,rfl⟩;exact⟨⟨_,Rj _ rfl,rfl⟩,h⟩
end
section
variable{X:Cx}{tg:RH}
noncomputable def KZ(ta:TA):TI:=λσ H R=>ta σ H λvs H1=>∃j:Int,vs=[.int j]/\-(2^62)<=j/\j<2^62/\R (Kq ((j.toNat:Int)-1) j.toNat) H1
theorem uH{a:RH}{ta:TA}{p p2 pos pos2:Pos}(hg:Gl X "range")(hm:X.mg "range"=none)(hg2:Gl X "reversed")(hm2:X.mg "reversed"=none)(ha:PA X [a] ta)(hs:RZ [a] X.env=[(false,eval a X.env)]:=by rfl)
  (hs2:RZ [.Call (.Name "range" p) [a] [] pos] X.env=(false,eval (.Call (.Name "range" p) [a] [] pos) X.env)::RZ [] X.env:=by rfl) (hpl:(backTo pos2 (RZ [] X.env)).any (·.1)=false:=by rfl):
  PI X tg (.Call (.Name "reversed" p2) [.Call (.Name "range" p) [a] [] pos] [] pos2) (KZ ta):=by
 intro pins s σ H R I h;refine Call_ (gV I hg2 hm2 boot_reversed (Rr ?_ hs2 hpl));rw[hs2];show RY _ _ (spliced ((false,eval (.Call (.Name "range" p) [a] [] pos) X.env)::backTo pos2 (RZ [] X.env))) _ _ s;refine Calls.spliced_cons ?_;refine Call_ (gV I hg hm boot_range (Rr (cN (ha pos pins s σ H _ I h) λus s1 ⟨vs,H1,I1,r1,q1⟩=>?_) hs rfl));obtain⟨j,e,q1,q2,q⟩:=q1;subst e;cases r1 with
 |cons r rr=>
  cases rr;obtain⟨t,rfl⟩:=r;refine call_range_1 ?_;refine Calls.spliced_nil ?_;refine oF (IsRange.new ..) q1 q2 ?_;have I2:Inv X pins σ H1 {s1 with heap:=s1.heap.push {cls:=.type "range",data:=.fields #[.int 0 s1.toks,.int j t,.int 1 (s1.toks+1)]},toks:=s1.toks+1+1}:=I1.kept λb o e=>Ri _ e;have hit:Se ((s1.heap.push {cls:=.type "range",data:=.fields #[.int 0 s1.toks,.int j t,.int 1 (s1.toks+1)]}).push (nG ((j.toNat:Int)-1) j.toNat (-1))) (s1.heap.push {cls:=.type "range",data:=.fields #[.int 0 s1.toks,.int j t,.int 1 (s1.toks+1)]}).objs.size ((j.toNat:Int)-1) j.toNat (-1):=Rj _ rfl;refine Sf (s:={s1 with heap:=(s1.heap.push {cls:=.type "range",data:=.fields #[.int 0 s1.toks,.int j t,.int 1 (s1.toks+1)]}).push (nG ((j.toNat:Int)-1) j.toNat (-1)),toks:=s1.toks+1+1}) hit ?_;refine⟨(s1.heap.push {cls:=.type "range",data:=.fields #[.int 0 s1.toks,.int j t,.int 1 (s1.toks+1)]}).objs.size,[(s1.heap.push {cls:=.type "range",data:=.fields #[.int 0 s1.toks,.int j t,.int 1 (s1.toks+1)]}).objs.size],_,_,H1,rfl,
   I2.kept (t':=s1.toks+1+1) λb o e=>Ri _ e,yf _ ((j.toNat:Int)-1) j.toNat,?_,λb hb=>?_,q⟩
  ·show Se _ _ ((j.toNat:Int)-1+((0:Nat):Int)*(-1)) ((j.toNat:Int)-((0:Nat):Int)) (-1);rw[show(j.toNat:Int)-1+((0:Nat):Int)*(-1)=(j.toNat:Int)-1 by omega,show(j.toNat:Int)-((0:Nat):Int)=(j.toNat:Int)by omega];exact hit
  ·have e:b=(s1.heap.push {cls:=.type "range",data:=.fields #[.int 0 s1.toks,.int j t,.int 1 (s1.toks+1)]}).objs.size:=(by simpa using hb);subst e;exact I2.fpOk (Nq _) (I2.hok.fresh (Nq _))
end
end L2
namespace TG
open PySem PySem.Spec L2
variable[aC]
noncomputable def Bp:List D->Option (List D)
 |[.int j]=>if okR j then some (kz ((j.toNat:Int)-1) j.toNat)else none
 |_=>none
noncomputable def kr(f:aW):aW:=λρ=>(f ρ).bind λds=>rO (Bp ds)
end TG
namespace TG
open PySem PySem.Spec PySem.Calls L2
variable[aC]
end TG
namespace TG
open PySem PySem.Spec PySem.Calls L2
variable[aC]
end TG
namespace TX
open PySem PySem.Spec L2 TG
variable[aC]
structure XE(X:Cx)(e:RH)(F:FX):Prop where h:FE X e F
structure XT(X:Cx)(e:RH)(F:bF):Prop where h:FT X e F
structure XW(X:Cx)(e:RH)(F:bF):Prop where h:FW X e F
structure XA(X:Cx)(e:bA)(F:aW):Prop where h:FA X e F
structure XS(X:Cx)(e:RJ)(F:bU):Prop where h:FS X e F
structure ow(X:Cx)(e:dM)(F:bU):Prop where h:Ic X e F
structure XI(X:Cx)(t e:RH)(F:aW):Prop where h:FI X t e F
structure XG(X:Cx)(e:RH)(F:GF):Prop where h:FG X e F
structure Hf(X:Cx)(e:bA)(F:BZ):Prop where h:MH X e F
structure XO(X:Cx)(e:Option RH)(F:av->R cR):Prop where h:FO X e F
structure XN(X:Cx)(e:RH)(F:FX):Prop where h:FN X e F
structure Ip(X:Cx)(e:bA)(F:bF):Prop where h:L0 X e F
structure XV(X:Cx)(e:RH)(i:Nat):Prop where h:PE X e (rG i)
structure XB(X:Cx)(scope:RW)(N:au)(tg elt:RH)(ifs:bA)(g:GF)(C:bF)(Fe:FX)(cl:j9)(C':RG)(fp:aF)(s:RK)(H:Hp)(E:bD):Prop where
 a:XG (ca X scope N cl C' fp s H E) tg g
 b:Ip (ca X scope N cl C' fp s H E) ifs C
 c:XE (ca X scope N cl C' fp s H E) elt Fe
structure oP(X:Cx)(scope:RW)(N:au)(tg elt:RH)(ifs:bA)(g:GF)(C:bF)(Fe:FX):Prop where
 q:∀cl C' fp s H E,XB X scope N tg elt ifs g C Fe cl C' fp s H E
theorem oP.h{X:Cx}{scope:RW}{N:au}{tg elt:RH}{ifs:bA}{g:GF}{C:bF}{Fe:FX}(x:oP X scope N tg elt ifs g C Fe):LX X scope N tg elt ifs g C Fe:=λcl C' fp s H E=>⟨(x.q cl C' fp s H E).a.h,(x.q cl C' fp s H E).b.h,(x.q cl C' fp s H E).c.h⟩
theorem xv{X:Cx}(i:Nat){x:Str}{pos:Pos}(hN:X.N[i]?=some x:=by rfl)(hv:FU X.env.scope x:=by first|exact Or.inl rfl|exact Or.inr (Or.inl rfl)|exact Or.inr (Or.inr rfl))(hd:(x==("__debug__":Str))=false:=by decide)
  (hcd:(x==("__classdict__":Str))=false:=by decide):XV X (.Name x pos) i:=⟨pv i hN hv hd hcd⟩
theorem LU{X:Cx}{e:RH}{f:bF}(h:XW X e f):XT X e f:=⟨FW.ft h.h⟩
section
variable[aC]{X:Cx}
theorem Cj{i:Nat}{x:Str}{pos:Pos}(h:XV X (.Name x pos) i):XE X (.Name x pos) (af i):=⟨PE.weak h.h λσ H Q ⟨O,ρ,E,hF⟩=>by
  obtain⟨d,e,q⟩:=qb hF;obtain⟨v,e,dv⟩:=E.val i d e;exact⟨v,e,q v H (aZ.refl H) dv⟩⟩
theorem Dq{i j pos}:XE X (.Constant (.int i) j pos) (fC (.int i)):=⟨iS Hv λ_ _=>eZ.mpr rfl⟩
theorem GN{b j pos}:XE X (.Constant (.bool b) j pos) (fC (.bl b)):=⟨iS HP λ_ _=>ia.mpr rfl⟩
theorem D6{j pos}:XE X (.Constant .none j pos) (fC .non):=⟨iS GB λ_ _=>hV.mpr rfl⟩
theorem Ce{x j pos}:XE X (.Constant (.str x) j pos) (fC (.str x)):=⟨iS Gq λ_ _=>fg.mpr rfl⟩
theorem wx:XA X [] ah:=⟨TG.Kj ⟩
theorem ny{e:RH}{es:bA}{f:FX}{g:aW}(he:XE X e f)(hs:XA X es g)(hns:noStar e=true:=by rfl):XA X (e::es) (aa f g):=⟨TG.JC he.h hs.h hns⟩
theorem CJ{es:bA}{g:aW}{k pos}(h:XA X es g):XE X (.Tuple es k pos) (bY g):=⟨PE.weak (Gh h.h) λσ H Q ⟨O,ρ,E,hF⟩=>⟨O,ρ,E,(fG.bind hF).imp λxs hF vs H1 s1 d1=>by
  obtain⟨d,e,q⟩:=fG.rO hF;obtain⟨hz,e⟩:=bE e;subst e;refine⟨by rw[<-d1.length];exact cU hz,λp hp=>?_⟩;exact q _ _ (s1.trans (cJ hp _)) (eA (E.all.same s1) hp d1)⟩⟩
theorem Cy{es:bA}{g:aW}{pos}(h:XA X es g):XE X (.List es pos) (fU g):=⟨PE.weak (yX h.h) λσ H Q ⟨O,ρ,E,hF⟩=>⟨O,ρ,E,(fG.bind hF).imp λxs hF vs H1 s1 d1=>by
  obtain⟨d,e,q⟩:=fG.rO hF;obtain⟨hz,e⟩:=bE e;subst e;refine⟨by rw[<-d1.length];exact cU hz,λp hp=>?_⟩;exact q _ _ (s1.trans (cJ hp _)) (gh (E.all.same s1) hp d1)⟩⟩
theorem jm{a b:RH}{op:Operator}{r:R2}{g:D->D->bM}{fa fb:FX}{pos:Pos}(ho:ic X (Sj op) r)(s:de X.K r g)(ha:XE X a fa)(hb:XE X b fb):XE X (.BinOp a op b pos) (f2 g fa fb):=⟨PE.weak (IV ho ha.h hb.h) (qu s)⟩
theorem gf{a b:RH}{op:R4}{r:R2}{g:D->D->bM}{fa fb:FX}{pos:Pos}(ho:ic X (R5 op) r)(s:de X.K r g)(ha:XE X a fa)(hb:XE X b fb)(hm:R6 op b=false):XE X (.Compare a [op] [b] pos) (f2 g fa fb):=⟨PE.weak (C3 ho ha.h hb.h hm) (qu s)⟩
theorem gg{a b:RH}{op:R4}{r:R2}{g:D->D->bM}{fa fb:FX}{pos:Pos}(ho:ic X (R5 op) r)(s:de X.K r g)(ha:XE X a fa)(hb:XE X b fb)(hm:R6 op b=false):XT X (.Compare a [op] [b] pos) (fB (f2 g fa fb)):=⟨PT.weak (DN ho ha.h hb.h hm) (kJ (qu s))⟩
end
section
variable[aC]{X:Cx}{a b c:RH}{rest:bA}{pos:Pos}{f g:bF}
theorem Dw(h:XT X a f):XT X (.UnaryOp .Not a pos) (nD f):=⟨PT.weak (GH h.h) λσ H Q ⟨O,ρ,E,hF⟩=>⟨O,ρ,E,(fG.bind hF).imp λb q H1 s1=>q H1 s1⟩⟩
theorem zn(h:XT X a f):XW X (.BoolOp .And [a] pos) f:=⟨Dv h.h⟩
theorem C4(h:XT X a f):XW X (.BoolOp .Or [a] pos) f:=⟨Hl h.h⟩
theorem Ei(ha:XT X a f)(hb:XW X (.BoolOp .And (b::rest) pos) g):XW X (.BoolOp .And (a::b::rest) pos) (jJ f g):=⟨PW.weak (Gv ha.h hb.h) λσ H Q ⟨O,ρ,E,hF⟩=>⟨O,ρ,E,(fG.bind hF).imp λc hF H1 s1=>by
 cases c with
 |true=>exact qs ⟨O,ρ,E.same s1,(hF.mono s1).imp λb q H2 s2=>q H2 (s1.trans s2)⟩
 |false=>exact qH (hF H1 s1)⟩⟩
theorem Fv(ha:XT X a f)(hb:XW X (.BoolOp .Or (b::rest) pos) g):XW X (.BoolOp .Or (a::b::rest) pos) (oq f g):=⟨PW.weak (Jd ha.h hb.h) λσ H Q ⟨O,ρ,E,hF⟩=>⟨O,ρ,E,(fG.bind hF).imp λc hF H1 s1=>by
 cases c with
 |false=>exact qH ⟨O,ρ,E.same s1,(hF.mono s1).imp λb q H2 s2=>q H2 (s1.trans s2)⟩
 |true=>exact qs (hF H1 s1)⟩⟩
end
section
variable[aC]{X:Cx}{a b c:RH}{rest:bA}{pos:Pos}{f g:bF}{fa fb:FX}
theorem El{op}(h:XE X a fa):XE X (.BoolOp op [a] pos) fa:=⟨Gp h.h⟩
theorem D7(ha:XE X a fa)(hb:XE X (.BoolOp .And (b::rest) pos) fb):XE X (.BoolOp .And (a::b::rest) pos) (iB fa fb):=⟨PE.weak (GO ha.h hb.h) λσ H Q ⟨O,ρ,E,hF⟩=>⟨O,ρ,E,(fG.bind hF).imp λd hF x H1 s1 d1=>by
 cases d with
 |bl c=>
  refine⟨c,ia.mp d1,?_⟩;cases c with
  |true=>exact qs ⟨O,ρ,E.same s1,(hF.mono s1).imp λd q v H2 s2 d2=>q v H2 (s1.trans s2) d2⟩
  |false=>exact qH (hF _ H1 s1 (ia.mpr rfl))
 |_=>exact hF.elim⟩⟩
theorem HG(ha:XE X a fa)(hb:XE X (.BoolOp .Or (b::rest) pos) fb):XE X (.BoolOp .Or (a::b::rest) pos) (DC fa fb):=⟨PE.weak (Ie ha.h hb.h) λσ H Q ⟨O,ρ,E,hF⟩=>⟨O,ρ,E,(fG.bind hF).imp λd hF x H1 s1 d1=>by
 cases d with
 |bl c=>
  refine⟨c,ia.mp d1,?_⟩;cases c with
  |false=>exact qH ⟨O,ρ,E.same s1,(hF.mono s1).imp λd q v H2 s2 d2=>q v H2 (s1.trans s2) d2⟩
  |true=>exact qs (hF _ H1 s1 (ia.mpr rfl))
 |_=>exact hF.elim⟩⟩
theorem CL(ha:XE X a fa):XE X (.UnaryOp .Not a pos) (tZ fa):=⟨PE.weak (Hg ha.h) λσ H Q ⟨O,ρ,E,hF⟩=>⟨O,ρ,E,(fG.bind hF).imp λd hF x H1 s1 d1=>by
 obtain⟨d',e,q⟩:=fG.rO hF;cases d with
 |bl c=>
  cases e;exact⟨c,ia.mp d1,q _ H1 s1 (ia.mpr rfl)⟩
 |_=>cases e⟩⟩
theorem GC(hc:XT X c f)(ha:XE X a fa)(hb:XE X b fb):XE X (.IfExp c a b pos) (JQ f fa fb):=⟨PE.weak (Ac hc.h ha.h hb.h) λσ H Q ⟨O,ρ,E,hF⟩=>⟨O,ρ,E,(fG.bind hF).imp λd hF H1 s1=>by
 cases d with
 |true=>exact qs ⟨O,ρ,E.same s1,(hF.mono s1).imp λd q v H2 s2 d2=>q v H2 (s1.trans s2) d2⟩
 |false=>exact qH ⟨O,ρ,E.same s1,(hF.mono s1).imp λd q v H2 s2 d2=>q v H2 (s1.trans s2) d2⟩⟩⟩
end
section
variable[aC]{X:Cx}
theorem Hy{a b:RH}{fa fb:FX}{pos:Pos}(ha:XE X a fa)(hb:XE X b fb)(hs:qi b):XE X (.Subscript a b pos) (f2 ak fa fb):=⟨PE.weak (Jb KL ha.h hb.h hs) (qu cm)⟩
theorem zH:XO X none aM:=⟨λpins s σ H Q I ⟨O,ρ,E,q⟩=>B8 pins s σ H Q I (q H (aZ.refl H))⟩
theorem BP{e:RH}{f:FX}(h:XE X e f):XO X (some e) (aY f):=⟨λpins s σ H Q I ⟨O,ρ,E,hF⟩=>
 DR h.h pins s σ H Q I ⟨O,ρ,E,(fG.bind hF).imp λd hF v H1 s1 d1=>by
  obtain⟨o,e,q⟩:=fG.rO hF;cases d with
  |int i=>
   cases e;exact⟨i,eZ.mp d1,q H1 s1⟩
  |_=>cases e⟩⟩
theorem yI{e:RH}{f:FX}{l h:av->R cR}{lo hi:Option RH}{p2 pos:Pos}(he:XE X e f)(hl:XO X lo l)(hh:XO X hi h):XE X (.Subscript e (.Slice lo hi none p2) pos) (aS f l h):=⟨PE.weak (Br Le he.h hl.h hh.h) λσ H Q ⟨O,ρ,E,hF⟩=>⟨O,ρ,E,(fG.bind hF).imp λa hF x H1 s1 d1=>⟨O,ρ,E.same s1,((fG.bind hF).mono s1).imp λlo' hF H2 s2=>⟨O,ρ,E.same (s1.trans s2),((fG.bind hF).mono (s1.trans s2)).imp λhi' hF H3 s3=>by
  obtain⟨d,e,q⟩:=fG.rO hF;exact⟨O,a,d,E.all.same ((s1.trans s2).trans s3),d1.mono (cw (s2.trans s3)),e,λv H4 s4 d4=>q v H4 (((s1.trans s2).trans s3).trans s4) d4⟩⟩⟩⟩⟩
end
section
variable[aC]{X:Cx}{x:Str}{p pos:Pos}{e:RH}{es:bA}{id T:String}{g:List D->bM}{f:aW}
theorem lH(hc:gA X (.builtin id) (Ew X.K g))(hg:Gl X x)(hm:X.mg x=none)(hv:RU x=some (.builtin id))(ha:XA X (e::es) f)(hn:x≠"__name__":=by decide)(hdb:(x==("__debug__":Str))=false:=by decide)(hns:(e::es).all noStar=true:=by rfl):XE X (.Call (.Name x p) (e::es) [] pos) (fL g f):=⟨PE.weak (tU hc hg hm hv ha.h hn hdb (dC (NU _ _ ▸ hns).1) (dW (NU _ _ ▸ hns).2)) (Bu nA)⟩
theorem og(hc:gA X (.type T) (Ew X.K g))(hg:Gl X x)(hm:X.mg x=none)(hv:RU x=some (.type T))(ha:XA X (e::es) f)(hn:x≠"__name__":=by decide)(hdb:(x==("__debug__":Str))=false:=by decide)(hns:(e::es).all noStar=true:=by rfl):XE X (.Call (.Name x p) (e::es) [] pos) (fL g f):=⟨PE.weak (xS hc hg hm hv ha.h hn hdb (dC (NU _ _ ▸ hns).1) (dW (NU _ _ ▸ hns).2)) (Bu nA)⟩
theorem mL{f:FX}{xT:Str}{p2:Pos}(ok:uj X.K T)(hg:Gl X "isinstance")(hm:X.mg "isinstance"=none)(hgT:Gl X xT)(hmT:X.mg xT=none)(hvT:RU xT=some (.type T))(he:XE X e f)(hn2:xT≠"__name__":=by decide)(hd2:(xT==("__debug__":Str))=false:=by decide)(hns:noStar e=true:=by rfl):XE X (.Call (.Name "isinstance" p) [e,.Name xT p2] [] pos) (oh T f):=⟨PE.weak (tU (BC ok) hg hm Aj (mO he.h (mO (C9 (v:=.ty T) hgT hmT hvT rfl hn2 hd2) uR (dC rfl)) (dC hns)) (by decide) (by decide) (dC hns) (dW rfl)) λσ H Q ⟨O,ρ,E,hF⟩=>⟨O,ρ,E,(fG.bind hF).imp λa hF v H1 s1 d1=>by
  obtain⟨d,e,q⟩:=fG.rO hF;obtain⟨h1,h2⟩:=bE e;subst h2;exact⟨O,v,a,rfl,h1,d1,q _ H1 s1 (ia.mpr rfl)⟩⟩⟩
end
section
variable[aC]{X:Cx}{a:RH}{f:FX}{pos:Pos}
theorem Eh{j pos'}(h:XE X a f):XE X (.Compare a [.Is] [.Constant .none j pos'] pos) (mr f):=⟨PE.weak (Ak (zI h.h)) λσ H Q q=>wJ σ H Q q⟩
theorem Bt{j pos'}(h:XE X a f):XE X (.Compare a [.IsNot] [.Constant .none j pos'] pos) (lY f):=⟨PE.weak (Ak (xc h.h)) λσ H Q q=>sQ σ H Q q⟩
theorem Ct{j pos'}(h:XE X a f):XT X (.Compare a [.Is] [.Constant .none j pos'] pos) (fB (mr f)):=⟨PT.weak (yU (zI h.h)) λσ H Q q=>kJ (t:=λσ H Q=>tF X f σ H λv H'=>Q (.bl (decide (v=.non))) H') wJ σ H Q q⟩
theorem zm{j pos'}(h:XE X a f):XT X (.Compare a [.IsNot] [.Constant .none j pos'] pos) (fB (lY f)):=⟨PT.weak (yU (xc h.h)) λσ H Q q=>kJ (t:=λσ H Q=>tF X f σ H λv H'=>Q (.bl (!decide (v=.non))) H') sQ σ H Q q⟩
theorem yD(h:XE X a f)(he:∀whole,isTrue a X.env whole=(do let v<-whole;standAt a.pos;holding [v] (truthy v)):=by intro _;rfl):XT X a (ed f):=⟨PT.weak (Al h.h he) λσ H Q ⟨O,ρ,E,hF⟩=>⟨O,ρ,E,(fG.bind hF).imp λd hF x H1 s1 d1=>by
 obtain⟨r,hF,q⟩:=fG.rO hF;refine⟨r,?_,q H1 s1⟩;cases d with
 |non=>cases hF;rw[hV.mp d1];rfl
 |bl b=>cases hF;rw[ia.mp d1];rfl
 |int i=>cases hF;rw[eZ.mp d1];rfl
 |str y=>
  obtain⟨hz,e⟩:=bE hF;subst e;rw[fg.mp d1];refine⟨cU hz,?_⟩;show(y.length !=0)=((y.length:Int) !=0)
  cases y.length<;>rfl
 |tup xs=>
  cases hF;obtain⟨p,vs,e,g1,g2⟩:=b7.mp d1;rw[e];refine .inr (.inl ⟨vs,b9 (aO H1 O) g1,?_⟩);have l:=g2.length;cases xs<;>cases vs<;>first|rfl|(simp at l)
 |lst xs=>
  cases hF;obtain⟨p,vs,e,g1,g2⟩:=cn.mp d1;rw[e];refine .inl ⟨vs,(aO H1 O).seq g1,?_⟩;have l:=g2.length;cases xs<;>cases vs<;>first|rfl|(simp at l)
 |_=>cases hF⟩⟩
end
section
variable[aC]{X:Cx}{tg:RH}
theorem DA{e:RH}{f:FX}(h:XE X e f):XI X tg e (bO f):=by
 refine⟨?_⟩;rintro pins s σ H R I ⟨O,ρ,E,hG⟩;have hG':=fG.bind hG;cases hf:f ρ with
 |error z=>exact vL h.h pins s σ H R I ⟨O,ρ,E,by rw[hf]at hG' ⊢;cases z with|none=>exact hG'.elim|some x=>exact hG'⟩
 |ok d=>
  rw[hf]at hG';obtain⟨ds,e1,q⟩:=fG.rO (α:=List D) (o:=nV d) hG';cases d with
  |lst xs=>
   cases e1;refine vL h.h pins s σ H R I ⟨O,ρ,E,?_⟩;rw[hf];refine λv H1 s1 d1=>?_;obtain⟨p,vs,ev,g1,g2⟩:=cn.mp d1;exact⟨p,ev,⟨vs,(aO H1 O).seq g1⟩,q _ H1 s1 (yd g1 g2)⟩
  |tup xs=>
   cases e1;refine Ge h.h pins s σ H R I ⟨O,ρ,E,?_⟩;rw[hf];refine λv H1 s1 d1=>?_;obtain⟨p,vs,ev,g1,g2⟩:=b7.mp d1;exact⟨p,ev,⟨vs,b9 (aO H1 O) g1⟩,q _ H1 s1 (BQ g1 g2)⟩
  |_=>cases e1
theorem ul{a:RH}{f:aW}{p pos:Pos}(hg:Gl X "range")(hm:X.mg "range"=none)(ha:XA X [a] f)(hs:RZ [a] X.env=[(false,eval a X.env)]:=by rfl):XI X tg (.Call (.Name "range" p) [a] [] pos) (bh f):=by
 refine⟨?_⟩;rintro pins s σ H R I ⟨O,ρ,E,hG⟩;refine ym hg hm ha.h hs pins s σ H R I ⟨O,ρ,E,(fG.bind hG).imp λes hG' vs H1 s1 d1=>?_⟩;clear hG;obtain⟨ds,hG,q⟩:=fG.rO hG';clear hG';unfold gu at hG;split at hG
 ·rename_i j;obtain⟨h1,h2⟩:=bE hG;subst h2;obtain⟨j1,j2⟩:=of_decide_eq_true h1;obtain⟨v,ev,dv⟩:=d1.one;exact⟨j,by rw[ev,eZ.mp dv],j1,j2,q _ H1 s1 (vp 0 _)⟩
 ·cases hG
end
section
variable[aC]{X:Cx}{pos:Pos}
theorem yO{i:Nat}{x:Str}(hN:X.N.Nodup)(hi:X.N[i]?=some x)(hx:Loc X.env.scope x)(hf:X.fn x=true\/X.env.scope.names.lookup x=some .local:=by first|exact .inl rfl|exact .inr rfl|assumption):XG X (.Name x pos) (gN i):=by
 refine⟨?_⟩;rintro pins s σ H v u Q I r ⟨O,ρ,d,ρ',E,hd,hg,q⟩;cases hg;have hiσ:i<σ.length:=by rw[I.len];exact(List.getElem?_eq_some_iff.mp hi).1
 refine Dx hN hi hx hf pins s σ H v u Q I r (q _ (E.setV hiσ hd) λj x e nv=>?_);rcases bp e with⟨_,eq⟩|⟨ne,eq⟩
 ·cases eq;exact absurd rfl (nv _)
 ·exact⟨Nm (Ne.symm ne),eq⟩
theorem Bh:Hf X [] ED:=by
 refine⟨?_⟩;rintro pins s σ H vs us Q I r ⟨O,ρ,ds,ρ',E,hd,hg,q⟩;cases ds with
 |nil=>
  cases hg;rw[cD]at hd;exact Cv pins s σ H vs us Q I r ⟨hd,q _ E λi x e _=>⟨rfl,e⟩⟩
 |cons _ _=>cases hg
theorem xH{e:RH}{es:bA}{g:GF}{h:BZ}(h1:XG X e g)(h2:Hf X es h)(hs:(assignEach (e::es) X.env).map (·.2)=assign e X.env::(assignEach es X.env).map (·.2):=by rfl):Hf X (e::es) (Ag g h):=by
 refine⟨?_⟩;rintro pins s σ H vs us Q I r ⟨O,ρ,ds,ρ',E,hd,hg,q⟩;cases ds with
 |nil=>cases hg
 |cons d ds=>
  obtain⟨ρ1,e1,e2⟩:=bind_some hg;rw[bH]at hd;obtain⟨v,vr,ev,d1,d2⟩:=hd;exact Bx h1.h h2.h hs pins s σ H vs us Q I r ⟨v,vr,ev,O,ρ,d,ρ1,E,d1,e1,λσ1 E1 k1=>⟨O,ρ1,ds,ρ',E1,d2,e2,λσ2 E2 k2=>q σ2 E2 λi x e nv=>by
   obtain⟨a1,a2⟩:=k2 i x e nv;obtain⟨b1,b2⟩:=k1 i x a2 nv;exact⟨a1.trans b1,b2⟩⟩⟩
theorem Ee{es:bA}{k:Nat}{g:BZ}{n:Nat}(hc:X.calm=true)(h:Hf X es g)(hn:(assignEach es X.env).length=n:=by rfl)(hst:(assignEach es X.env).findIdx? (·.1)=none:=by rfl):XG X (.Tuple es k pos) (gT n g):=by
 refine⟨?_⟩;rintro pins s σ H v u Q I r ⟨O,ρ,d,ρ',E,hd,hg,q⟩;cases d with
 |tup xs=>
  obtain⟨p,vs,ev,g1,g2⟩:=b7.mp hd;have hg':(if xs.length=n then g xs ρ else none)=some ρ':=hg;by_cases hl:xs.length=n
  ·rw[if_pos hl]at hg';exact Fs hc h.h hn hst pins s σ H v u Q I r ⟨p,vs,ev,b9 (aO H O) g1,by rw[<-g2.length];exact hl,O,ρ,xs,ρ',E,g2,hg',q⟩
  ·rw[if_neg hl]at hg';cases hg'
 |_=>cases hg
end
section
variable[aC]
theorem AC{X:Cx}:Ip X [] bo:=⟨λpins s σ H Q I ⟨O,ρ,E,q⟩=>CK pins s σ H Q I (q H (aZ.refl H))⟩
theorem Bc{X:Cx}{c:RH}{F:bF}(h:XT X c F):Ip X [c] F:=⟨C6 h.h⟩
end
section
variable[aC]{X:Cx}{elt tg iter:RH}{ifs:bA}{scope:RW}{pos:Pos}{N:au}{ix:fH}{G:aW}{g:GF}{C:bF}{Fe:FX}
theorem G1(hc:X.calm=true)(ok:j7 X scope N ix)(tk:mq ix g)(hi:XI X tg iter G)(hb:oP X scope N tg elt ifs g C Fe)(hs:∀x,Si iter X.env x=pure x:=by intro _;rfl):XE X (.ListComp elt [⟨tg,iter,ifs,0⟩] scope pos) (eQ ix G g C Fe):=⟨PE.weak (EB hc ok.cell ok.kind ok.names ok.free ok.ix hi.h hb.h.k hs) (EH tk)⟩
end
section
variable[aC]{X:Cx}{st:RJ}{rest body:dM}{pos:Pos}
theorem AI:ow X [] bz:=⟨λHb Ob=>oV.weak wO λE σ H ⟨O,ρ,k,r,S,hF,hk⟩=>hk.nx O ρ σ H S hF⟩
theorem x6{F1 F2:bU}(h1:XS X st F1)(h2:ow X rest F2):ow X (st::rest) (aq F1 F2):=⟨λHb Ob=>oV.weak (tH (h1.h Hb Ob) (h2.h Hb Ob)) λE σ H ⟨O,ρ,k,r,S,hF,hk⟩=>
 ⟨O,ρ,{k with nx:=F2 k},r,S,hF,hk.ne,λO' ρ' σ' H' S' e=>⟨O',ρ',k,r,S',e,hk⟩,hk.bk,hk.ct,hk.rt,hk.ex⟩⟩
theorem y8{F1:bU}(h1:XS X st F1):ow X [st] F1:=⟨λHb Ob=>qx (h1.h Hb Ob)⟩
theorem Cg{e:RH}{f:FX}(h:XE X e f):XS X (.Return (some e) pos) (bu f):=⟨λHb Ob=>PS.weak (Gs h.h) λE σ H ⟨O,ρ,k,r,S,hF,hk⟩=>
 ⟨O,ρ,S.env,fG.on hF hk S λd e v H' s' d'=>hk.rt d O v H' e.symm (S.base.same' s') d'⟩⟩
theorem zp:XS X (.Pass pos) bz:=⟨λHb Ob=>PS.weak Ec λE σ H ⟨O,ρ,k,r,S,hF,hk⟩=>hk.nx O ρ σ H S hF⟩
theorem DH{x j pos'}:XS X (.Expr (.Constant (.str x) j pos) pos') bz:=⟨λHb Ob=>PS.weak Gr λE σ H ⟨O,ρ,k,r,S,hF,hk⟩=>hk.nx O ρ σ H S hF⟩
theorem zx{e:RH}{f:FX}(h:XE X e f)(hs:swapsWith e none pos.line X.env=pure false:=by rfl):XS X (.Expr e pos) (qc f):=⟨λHb Ob=>PS.weak (wa h.h hs) λE σ H ⟨O,ρ,k,r,S,hF,hk⟩=>
 ⟨O,ρ,S.env,fG.on hF hk S λd e v H' s' d'=>hk.nx O ρ σ H' (S.same s') e⟩⟩
theorem Ht{c:RH}{a b:dM}{tc:bF}{A B:bU}(hc:XT X c tc)(ha:ow X a A)(hb:ow X b B):XS X (.If c a b pos) (eN tc A B):=⟨λHb Ob=>PS.weak (Ja hc.h (ha.h Hb Ob) (hb.h Hb Ob)) λE σ H ⟨O,ρ,k,r,S,hF,hk⟩=>
 ⟨O,ρ,S.env,fG.on hF hk S fun z e H1 s1=>by
  cases z with
  |true=>exact qs ⟨O,ρ,k,r,S.same s1,e,hk⟩
  |false=>exact qH ⟨O,ρ,k,r,S.same s1,e,hk⟩⟩⟩
theorem D8{i:Nat}{x:Str}{e:RH}{f:FX}{pos':Pos}(hN:X.N.Nodup)(hi:X.N[i]?=some x)(hx:Loc X.env.scope x)(he:XE X e f)(hs:swapsWith e (some (.Name x pos')) pos.line X.env=pure false:=by rfl)(hf:X.fn x=true\/X.env.scope.names.lookup x=some .local:=by first|exact .inl rfl|exact .inr rfl|assumption):XS X (.Assign [.Name x pos'] e pos) (aL i f):=⟨pU (List.getElem?_eq_some_iff.mp hi).1 (z7 hN hi hx he.h hs hf)⟩
theorem Fd{elt tg iter:RH}{ifs:bA}{scope:RW}{N:au}{ix:fH}{G:aW}{g:GF}{C:bF}{Fe:FX}{i:Nat}{y:Str}{lpos py spos:Pos}(hN:X.N.Nodup)(hi':X.N[i]?=some y)(hx:Loc X.env.scope y)(hc:X.calm=true)(ok:j7 X scope N ix)(tk:mq ix g)(hi:XI X tg iter G)(hb:oP X scope N tg elt ifs g C Fe)(hsw:swapsWith (.ListComp elt [⟨tg,iter,ifs,0⟩] scope lpos) (some (.Name y py)) spos.line X.env=pure true:=by rfl)(hs:∀x,Si iter X.env x=pure x:=by intro _;rfl)(hf:X.fn y=true\/X.env.scope.names.lookup y=some .local:=by first|exact .inl rfl|exact .inr rfl|assumption):XS X (.Assign [.Name y py] (.ListComp elt [⟨tg,iter,ifs,0⟩] scope lpos) spos) (aL i (eQ ix G g C Fe)):=⟨pU (List.getElem?_eq_some_iff.mp hi').1 (PS.weak (Fa hN hi' hx hc ok.cell ok.kind ok.names ok.free ok.ix hi.h hb.h.k hsw hs hf) λE σ H q=>EH tk σ H _ q)⟩
theorem xu{st:dM}{F:bU}(is:List Nat)(h:ow X st F):ow X st (dB is F):=⟨λHb Ob=>oV.weak (h.h Hb Ob) λE σ H ⟨O,ρ,k,r,S,hF,hk⟩=>⟨O,TG.kill is ρ,k,r,S.kill is,hF,hk⟩⟩
theorem Ea{tg iter:RH}{G:aW}{g:GF}{B:bU}(hp:R9 (model X.prog X.w) X.A X.env X.xe)(hc:X.calm=true)(hi:XI X tg iter G)(hg:XG X tg g)(hb:ow X body B)(hs:∀x,Si iter X.env x=pure x:=by intro _;rfl):XS X (.For tg iter body [] pos) (iP G g B):=⟨λHb Ob pins s σ H E I ⟨O,ρ,k,r,S,hF,hk⟩=>by
 have hall:oV X body (λE σ H=>∃Hb',JN X Hb' Ob B E σ H):=λpins s σ H E I ⟨Hb',q⟩=>hb.h Hb' Ob pins s σ H E I q;refine GR hp hc hi.h hg.h hall hs pins s σ H E I ⟨O,ρ,S.env,fG.on hF hk S λds hF J H1 s1 wk=>?_⟩;have E1:=S.same s1;refine⟨λi m σ H=>m=ds.length-i/\i<=ds.length/\∃O' ρ',dS X.K (lb H1 O Ob) Ob O' H ρ' σ/\eY g B k (ds.drop i) ρ'=r,
  ⟨ds.length,by rw[Ow],NA _,O,ρ,E1.loop,by rw[N7];exact hF⟩,?_⟩
 rintro i m σ' H' ⟨rfl,hi',O',ρ',E',hr⟩;have sD:=zg E1.base E'.base;by_cases hlt:i<ds.length
 ·right;obtain⟨go,yl⟩:=(wk H' O' i E'.env.all sD).1 ds[i] (by simp[hlt]);refine⟨go,λσ2 H2=>ds.length-(i+1)=ds.length-(i+1)/\i+1<=ds.length/\∃O' ρ',dS X.K (lb H1 O Ob) Ob O' H2 ρ' σ2/\eY g B k (ds.drop (i+1)) ρ'=r,λσ2 H2 z=>⟨ds.length-(i+1),by omega,z⟩,λx H2 y=>?_⟩;obtain⟨s2,dx⟩:=yl x H2 y;have E':=E'.same s2;rw[Oz hlt]at hr;cases hg':g ds[i] ρ' with
  |none=>
   have hr':(rO (g ds[i] ρ')).bind (λρ1=>B ⟨eY g B k (ds.drop (i+1)),k.nx,eY g B k (ds.drop (i+1)),k.ex⟩ ρ1)=r:=hr;rw[hg']at hr';exact absurd hr'.symm hk.ne
  |some ρ1=>
   have hr':(rO (g ds[i] ρ')).bind (λρ1=>B ⟨eY g B k (ds.drop (i+1)),k.nx,eY g B k (ds.drop (i+1)),k.ex⟩ ρ1)=r:=hr;rw[hg']at hr';refine⟨O',ρ',ds[i],ρ1,E'.env,dx,hg',λσ3 E3 own=>?_⟩;have E3':dS X.K (lb H1 O Ob) Ob O' H2 ρ1 σ3:=E'.after E3 own;exact⟨lb H1 O Ob,O',ρ1,⟨eY g B k (ds.drop (i+1)),k.nx,eY g B k (ds.drop (i+1)),k.ex⟩,r,E3',hr',hk.loop E1.base (λO4 ρ4 σ4 H4 E4 z=>⟨rfl,hlt,O4,ρ4,E4,z⟩) (λO4 ρ4 σ4 H4 E4 z=>⟨rfl,hlt,O4,ρ4,E4,z⟩) rfl rfl rfl rfl⟩
 ·left;have ei:i=ds.length:=by omega
  subst ei;refine⟨(wk H' O' ds.length E'.env.all sD).2 rfl,?_⟩;rw[List.drop_length]at hr;exact hk.nx O' ρ' σ' H' (E'.back E1.base) hr⟩
theorem yo{c:RH}{tc:bF}{B:bU}(n:Nat)(hp:R9 (model X.prog X.w) X.A X.env X.xe)(hc:XT X c tc)(hb:ow X body B):XS X (.While c body [] pos) (nO n tc B):=⟨λHb Ob pins s σ H E I ⟨O,ρ,k,r,S,hF,hk⟩=>by
 have hall:oV X body (λE σ H=>∃Hb',JN X Hb' Ob B E σ H):=λpins s σ H E I ⟨Hb',q⟩=>hb.h Hb' Ob pins s σ H E I q;refine yZ hp hc.h hall pins s σ H E I ⟨λm σ H'=>∃O' ρ',dS X.K (lb H O Ob) Ob O' H' ρ' σ/\eM tc B k m ρ'=r,⟨n,O,ρ,S.loop,hF⟩,?_⟩;rintro m σ' H' ⟨O',ρ',E',hr⟩;cases m with
 |zero=>exact absurd hr.symm hk.ne
 |succ m=>
  refine⟨O',ρ',E'.env,?_⟩;have hr':ll (tc ρ') k ρ' (λb=>if b then B ⟨eM tc B k m,k.nx,eM tc B k m,k.ex⟩ ρ' else k.nx ρ')=r:=hr;refine fG.on hr' hk (E'.back S.base) λb hr H1 s1=>?_;cases b with
  |true=>
   refine qs ⟨λσ2 H2=>∃O' ρ',dS X.K (lb H O Ob) Ob O' H2 ρ' σ2/\eM tc B k m ρ'=r,λσ2 H2 z=>⟨m,Nz m,z⟩,?_⟩;exact⟨lb H O Ob,O',ρ',⟨eM tc B k m,k.nx,eM tc B k m,k.ex⟩,r,E'.same s1,hr,hk.loop S.base (λO4 ρ4 σ4 H4 E4 z=>⟨O4,ρ4,E4,z⟩) (λO4 ρ4 σ4 H4 E4 z=>⟨O4,ρ4,E4,z⟩) rfl rfl rfl rfl⟩
  |false=>exact qH (hk.nx O' ρ' σ' H1 ((E'.back S.base).same s1) hr)⟩
end
section
variable[aC]{X:Cx}{pos:Pos}
theorem Em{es:bA}{g:aW}(h:XA X es g):XN X (.List es pos) (fU g):=⟨PE.weak (yX h.h) λσ H Q ⟨O,ρ,E,hF⟩=>⟨O,ρ,E,(fG.bind hF).imp λxs hF vs H1 s1 d1=>by
  obtain⟨d,e,q⟩:=fG.rO hF;obtain⟨hz,e⟩:=bE e;subst e;refine⟨by rw[<-d1.length];exact cU hz,λp hp=>?_⟩;exact q p _ (s1.trans (cJ hp _)) (s1.free hp) ⟨_,aK,trivial⟩ (sN hp d1)⟩⟩
theorem DL{i:Nat}{x:Str}{e:RH}{f:FX}{pos':Pos}(hN:X.N.Nodup)(hi:X.N[i]?=some x)(hx:Loc X.env.scope x)(he:XN X e f)(hs:swapsWith e (some (.Name x pos')) pos.line X.env=pure false:=by rfl)(hf:X.fn x=true\/X.env.scope.names.lookup x=some .local:=by first|exact .inl rfl|exact .inr rfl|assumption):XS X (.Assign [.Name x pos'] e pos) (jc i f):=⟨pD (List.getElem?_eq_some_iff.mp hi).1 (z7 hN hi hx he.h hs hf)⟩
end
section
variable[aC]
theorem xL{X:Cx}{elt tg iter:RH}{ifs:bA}{scope:RW}{N:au}{ix:fH}{G:aW}{g:GF}{C:bF}{Fe:FX}{i:Nat}{y:Str}{lpos py spos:Pos}(hN:X.N.Nodup)(hi':X.N[i]?=some y)(hx:Loc X.env.scope y)(hc:X.calm=true)(ok:j7 X scope N ix)(tk:mq ix g)(hi:XI X tg iter G)(hb:oP X scope N tg elt ifs g C Fe)(hsw:swapsWith (.ListComp elt [⟨tg,iter,ifs,0⟩] scope lpos) (some (.Name y py)) spos.line X.env=pure true:=by rfl)(hs:∀x,Si iter X.env x=pure x:=by intro _;rfl)(hf:X.fn y=true\/X.env.scope.names.lookup y=some .local:=by first|exact .inl rfl|exact .inr rfl|assumption):XS X (.Assign [.Name y py] (.ListComp elt [⟨tg,iter,ifs,0⟩] scope lpos) spos) (jc i (eQ ix G g C Fe)):=⟨pD (List.getElem?_eq_some_iff.mp hi').1 (PS.weak (Fa hN hi' hx hc ok.cell ok.kind ok.names ok.free ok.ix hi.h hb.h.k hsw hs hf) λE σ H q=>zJ tk σ H _ (EW σ H _ q))⟩
theorem FH{X:Cx}{elt tg iter:RH}{ifs:bA}{scope:RW}{pos:Pos}{N:au}{ix:fH}{G:aW}{g:GF}{C:bF}{Fe:FX}(hc:X.calm=true)(ok:j7 X scope N ix)(tk:mq ix g)(hi:XI X tg iter G)(hb:oP X scope N tg elt ifs g C Fe)(hs:∀x,Si iter X.env x=pure x:=by intro _;rfl):XN X (.ListComp elt [⟨tg,iter,ifs,0⟩] scope pos) (eQ ix G g C Fe):=⟨PE.weak (EB hc ok.cell ok.kind ok.names ok.free ok.ix hi.h hb.h.k hs) λσ H Q q=>zJ tk σ H _ (EW σ H _ q)⟩
theorem zY{X : Cx}{i : Nat}{x m : Str}{id : String}{r : V -> aH -> Hp -> VK -> Prop}{u : List D -> List D -> Option (List D)}{e : RH}{es : bA}{f : aW}{npos apos cpos pos : Pos}(slot : Slot "list" m id)(hty : typeOf (.builtin id) = pure (.type "method_descriptor"))(hm : JT X id r)(ok : Af X.K r u)(hx : XV X (.Name x npos) i)(he : XA X (e :: es) f)(hbase : Sv (.Name x npos) m X.env (eval (.Name x npos) X.env) = eval (.Name x npos) X.env := by rfl)(hfew : ((backTo cpos (RZ (e :: es) X.env)).all (fun x => !x.1) && (backToKw cpos (Sy [] X.env)).all (fun x => x.1.isSome)
      && decide ((e::es:bA).length+([]:List S5).length+(if([]:List S5).isEmpty then 0 else 1)<30))=true:=by rfl)(hline:(apos.endLine==cpos.line)=true:=by rfl)(hs:RZ (e::es) X.env=(false,eval e X.env)::RZ es X.env:=by rfl)(hplain:(backTo cpos (RZ es X.env)).any (·.1)=false:=by rfl)(hsw:swapsWith (.Call (.Attribute (.Name x npos) m apos) (e::es) [] cpos) none pos.line X.env=pure false:=by rfl):XS X (.Expr (.Call (.Attribute (.Name x npos) m apos) (e::es) [] cpos) pos) (p8 i u f):=⟨λHb Ob pins s σ H E I ⟨O,ρ,k,rr,S,hF,hk⟩=>by
  unfold p8 at hF;split at hF
  · rename_i xs hxs
    obtain⟨a,ha,haO,hat⟩:=S.env.own i _ hxs;obtain⟨o,vs0,ho,eo,dn⟩:=hat;subst eo;refine wa (E5 F.plainAttrs_list slot hty hm hx.h he.h hbase hfew hline hs hplain) hsw pins s σ H E I ⟨.ref a,ha,.inl ⟨rfl,vs0,jR.of ho⟩,O,ρ,S.env,fG.on hF hk S λds hr vs H1 s1 d1=>?_⟩;have S1:=S.same s1;cases hu1:u xs ds with
    |none=>rw[hu1]at hr;exact absurd hr.symm hk.ne
    |some ys=>
      rw[hu1]at hr;exact ok H1 O a xs ys ds vs0 vs _ S1.env.all haO (s1 _ _ ho) (dn.mono (cw s1)) d1 hu1 λws' v new=>hk.nx O _ σ _ (S1.setO hxs ha trivial (tM haO new)) hr
  ·exact absurd hF.symm hk.ne⟩
theorem yT{X:Cx}{st:dM}{F:bU}(i:Nat)(h:ow X st F):ow X st (jM i F):=⟨λHb Ob=>oV.weak (h.h Hb Ob) λE σ H ⟨O,ρ,k,r,S,hF,hk⟩=>by
 obtain⟨O',S'⟩:=S.frz i;exact⟨O',TG.frz i ρ,k,r,S',hF,hk⟩⟩
theorem BW{X:Cx}{e:RH}{f:FX}(is:List Nat)(h:XE X e f):XE X e (jC is f):=⟨PE.weak h.h λσ H Q ⟨O,ρ,E,hF⟩=>by
 obtain⟨O',E'⟩:=E.frzs is;refine⟨O',TG.frzs is ρ,E',?_⟩;unfold jC at hF;cases hf:f (TG.frzs is ρ)with
 |error z=>rw[hf]at hF;exact hF.elim
 |ok d=>
  rw[hf]at hF;have hF':fG X σ O H (if lf d then .ok d else un) _:=hF;cases hl:lf d with
  |false=>rw[hl]at hF';exact hF'.elim
  |true=>
   rw[hl]at hF';exact λv H' s' dv=>hF' v H' s' (AW (E.all.same s') hl dv)⟩
theorem zE{X:Cx}{e:RH}{f:bF}(is:List Nat)(h:XT X e f):XT X e (dy is f):=⟨PT.weak h.h λσ H Q ⟨O,ρ,E,hF⟩=>by
 obtain⟨O',E'⟩:=E.frzs is;refine⟨O',TG.frzs is ρ,E',?_⟩;unfold dy at hF;cases hf:f (TG.frzs is ρ)with
 |error z=>rw[hf]at hF;exact hF.elim
 |ok d=>rw[hf]at hF;exact hF⟩
theorem uq{X:Cx}{k k':Nat}{ps:au}{g:cP}{h:aW}{x:Str}{p pos:Pos}{e:RH}{es:bA}(C:Callee X.prog X.w X.K X.mg X.base k x ps g)(hn:Ar ps.length g)(hr:eI k' X.A)(hk:k<=k')(ha:XA X (e::es) h)(hg:Gl X x:=by rfl)(hdb:(x==("__debug__":Str))=false:=by decide)(hns:(e::es).all noStar=true:=by rfl):XE X (.Call (.Name x p) (e::es) [] pos) (fR g h):=by
 refine⟨?_⟩;obtain⟨f,fd,F,b,kp,m⟩:=C;exact PE.weak (Aw F (hr.mono hk) hg m kp b ha.h hdb (dC (NU _ _ ▸ hns).1) (dW (NU _ _ ▸ hns).2)) (xK hn)
end
section
variable[aC]{X:Cx}{a b c:RH}{fa fb fc:FX}{pos:Pos}
theorem xB{op op':R4}{r r':R2}{g g':D->D->bM}(ho:ic X (R5 op) r)(s:de X.K r g)(ho':ic X (R5 op') r')(s':de X.K r' g')(ha:XE X a fa)(hb:XE X b fb)(hc:XE X c fc)(hm:lastMarks [op,op'] [b,c]=false:=by with_unfolding_all rfl):XE X (.Compare a [op,op'] [b,c] pos) (iu g g' fa fb fc):=⟨PE.weak (A7 ho ho' ha.h hb.h hc.h hm) (pY s s')⟩
theorem yi{op op':R4}{r r':R2}{g g':D->D->bM}(ho:ic X (R5 op) r)(s:de X.K r g)(ho':ic X (R5 op') r')(s':de X.K r' g')(ha:XE X a fa)(hb:XE X b fb)(hc:XE X c fc)(hm:lastMarks [op,op'] [b,c]=false:=by with_unfolding_all rfl):XT X (.Compare a [op,op'] [b,c] pos) (fB (iu g g' fa fb fc)):=⟨PT.weak (BM ho ho' ha.h hb.h hc.h hm) (kJ (pY s s'))⟩
theorem Du(ha:XE X a fa):XE X (.UnaryOp .USub a pos) (jH fa):=⟨PE.weak (Ii GX ha.h) (Gd λx d v O H Q _ e dv q=>by
 cases x with
 |int i=>cases e;exact⟨i,eZ.mp dv,q _ H (aZ.refl H) (eZ.mpr rfl)⟩
 |_=>cases e)⟩
theorem Ax{x:Str}{i:Int}(hg:Gl X x)(hm:∃t,X.mg x=some (.int i t))(hd:(x==("__debug__":Str))=false:=by decide):XE X (.Name x pos) (fC (.int i)):=by
 refine⟨?_⟩;obtain⟨t,m⟩:=hm;exact iS (Cq (v:=.int i) hg m ⟨t,rfl⟩ hd) λ_ _=>eZ.mpr rfl
end
section
variable[aC]{X:Cx}
theorem DB{a b:RH}{es:bA}{k:Nat}{tpos:Pos}{f:aW}{p pos:Pos}(hg:Gl X "zip")(hm:X.mg "zip"=none)(ha:XA X [a,b] f)(hs:RZ [a,b] X.env=(false,eval a X.env)::RZ [b] X.env:=by rfl)(hpl:(backTo pos (RZ [b] X.env)).any (·.1)=false:=by rfl):XI X (.Tuple es k tpos) (.Call (.Name "zip" p) [a,b] [] pos) (xM f):=by
 refine⟨?_⟩;rintro pins s σ H RR I ⟨O,ρ,E,hG⟩;have hA:=ha.h pos pins s σ H (λvs H1=>∃ds r,xE ds=some r/\aX X.K (hid H1 O) ds vs/\∀J,Walk X.K (hid H1 O) J r->RR J H1) I ⟨O,ρ,E,(fG.bind hG).imp λds hG vs H1 s1 d1=>by
  obtain⟨r,e,q⟩:=fG.rO hG;exact⟨ds,r,e,d1,λJ wk=>q J H1 s1 wk⟩⟩
 refine Rw (gV I hg hm PyProof.Rows.boot_zip (Rr (cN hA λus s1 ⟨vs,H1,I1,r1,ds,r,er,d1,q⟩=>?_) hs hpl));exact HF I1 er d1 r1 q
theorem oA{a:RH}{es:bA}{k:Nat}{tpos:Pos}{f:aW}{p pos:Pos}(hg:Gl X "enumerate")(hm:X.mg "enumerate"=none)(ha:XA X [a] f)(hs:RZ [a] X.env=(false,eval a X.env)::RZ [] X.env:=by rfl)(hpl:(backTo pos (RZ [] X.env)).any (·.1)=false:=by rfl):XI X (.Tuple es k tpos) (.Call (.Name "enumerate" p) [a] [] pos) (eh f):=by
 refine⟨?_⟩;rintro pins s σ H RR I ⟨O,ρ,E,hG⟩;have hA:=ha.h pos pins s σ H (λvs H1=>∃ds r,pV ds=some r/\aX X.K (hid H1 O) ds vs/\∀J,Walk X.K (hid H1 O) J r->RR J H1) I ⟨O,ρ,E,(fG.bind hG).imp λds hG vs H1 s1 d1=>by
  obtain⟨r,e,q⟩:=fG.rO hG;exact⟨ds,r,e,d1,λJ wk=>q J H1 s1 wk⟩⟩
 refine Rw (gV I hg hm PyProof.Rows.boot_enumerate (Rr (cN hA λus s1 ⟨vs,H1,I1,r1,ds,r,er,d1,q⟩=>?_) hs hpl));exact D5 I1 er d1 r1 q
end
section
variable[aC]{X:Cx}{a o e:RH}{es:bA}{fa fo:FX}{fas:aW}{f m x:Str}{cs:au}{pos apos p:Pos}{k k':Nat}{ps:au}
theorem Ed(ok:dU X.K f cs)(h:XE X a fa)(hb:Sv a f X.env (eval a X.env)=eval a X.env:=by rfl):XE X (.Attribute a f pos) (f1 (bZ f cs) fa):=⟨PE.weak (FP h.h hb) λσ H Q ⟨O,ρ,E,hF⟩=>⟨O,ρ,E,(fG.bind hF).imp λd hF v H1 s1 d1=>by
  obtain⟨r,e,q⟩:=fG.rO hF;cases d with
  |obj c fs vs=>
   have e':(if cs.contains c then(fs.zip vs).lookup f else none)=some r:=e;cases hc:cs.contains c with
   |false=>rw[hc]at e';cases e'
   |true=>
    rw[hc]at e';obtain⟨a,ws,ev,g1,g2,C,dx,g3,g4⟩:=Dz.mp d1;obtain⟨w,l1,l2⟩:=nJ g1 e';obtain⟨cl,na⟩:=ok c (List.contains_iff_mem.mp hc) C g3;exact⟨a,C,dx,_,w,ev,aO H1 O _ _ g4,cl,na,l1,q w H1 s1 l2⟩
  |_=>cases e⟩⟩
theorem BR{tbl : List (Str × (cP))}{pl : Sem Bool}(tb : n5 X.prog X.w X.K X.mg X.base k m ps tbl)(hr : eI k' X.A)(hk : k <= k')(ho : XE X o fo)(ha : XA X (e :: es) fas)(hns : (e :: es).all noStar = true := by rfl)(ht : eval (.Call (.Attribute o m apos) (e :: es) [] pos) X.env = (do
      let ov<-eval o X.env
      standAt apos.atName
      let (f,first)<-holding [ov] (getMethod ov m pl)
      Sx pos f first (backTo pos (RZ (e::es) X.env)) (backToKw pos (Sy [] X.env))):=by rfl):XE X (.Call (.Attribute o m apos) (e::es) [] pos) (cY m tbl fo fas):=⟨tO tb (hr.mono hk) ho.h (λpins s1 σ H1 O ρ a f od Q g fd _ kp F b ar I1 E1 dO hP=>by
    refine QK (first:=[.ref a]) (h₀:=X.base) I1.ok.mod.kin kp (cN (ha.h pos pins s1 σ H1 _ I1 ⟨O,ρ,E1,(fG.bind hP).imp λas hP vs H2 s2 d2=>nT (vs:=.ref a::vs) ar (E1.all.same s2) (bH.mpr ⟨_,_,rfl,dO.mono (cw s2),d2⟩) ((hP.mono s2).imp λd q v H3 s3 d3=>q v H3 (s2.trans s3) d3)⟩) λus s2 ⟨vs,H2,I2,r,Ex,hx,q2⟩=>⟨I2.kIn,?_⟩) (dC (NU _ _ ▸ hns).1) (dW (NU _ _ ▸ hns).2);exact qm (us:=.ref a::us) (vs:=.ref a::vs) F (hr.mono hk) b hx I2 (.cons rfl r) q2) ht⟩
theorem yF{tbl : List (Str × (cP))}{pl : Sem Bool}(tb : n5 X.prog X.w X.K X.mg X.base k m ps tbl)(hr : eI k' X.A)(hk : k <= k')(ho : XE X o fo)(ht : eval (.Call (.Attribute o m apos) [] [] pos) X.env = (do
      let ov<-eval o X.env
      standAt apos.atName
      let (f,first)<-holding [ov] (getMethod ov m pl)
      Sx pos f first (backTo pos (RZ [] X.env)) (backToKw pos (Sy [] X.env))):=by rfl):XE X (.Call (.Attribute o m apos) [] [] pos) (cY m tbl fo ah):=⟨tO tb (hr.mono hk) ho.h (λpins s1 σ H1 O ρ a f od Q g fd _ kp F b ar I1 E1 dO hP=>by
    have hP':fG X σ O H1 (g [od]) λd=>∀v H',aZ H1 H'->cz X.K (hid H' O) d v->Q v H':=hP;obtain⟨Ex,hx,q2⟩:=nT (vs:=[.ref a]) ar E1.all (bH.mpr ⟨_,_,rfl,dO,cD.mpr rfl⟩) hP';exact PySem.W.callWith_K0 (first:=[.ref a]) I1.kIn kp (qm (us:=[.ref a]) (vs:=[.ref a]) F (hr.mono hk) b hx I1 (.cons rfl .nil) q2)) ht⟩
theorem CG{c:Str}{fs:au}(IA:iW X.prog X.w X.K X.mg X.base k c ps fs)(hr:eI k' X.A)(hk:k+1<=k')(hg:Gl X c)(ha:XA X (e::es) fas)(hdb:(c==("__debug__":Str))=false:=by decide)(hns:(e::es).all noStar=true:=by rfl):XE X (.Call (.Name c p) (e::es) [] pos) (fNew c fs fas):=by
 refine⟨?_⟩;obtain⟨C,f,fd,h1,h2,h3,h4,h5⟩:=IA;refine PE.weak (DX (dvs:=[]) (E:=E0) h2 h3 (hr.mono hk) hg h5 h4 .nil EG ha.h hdb (dC (NU _ _ ▸ hns).1) (dW (NU _ _ ▸ hns).2)) λσ H Q ⟨O,ρ,E,hF⟩=>⟨O,ρ,E,(fG.bind hF).imp λas hF vs H1 s1 d1 x dx hx hd ne=>?_⟩
 by_cases hl:as.length=fs.length
 ·rw[if_pos hl]at hF;rw[NB];refine⟨x,dx,vs,rfl,by rw[<-d1.length,hl],by rw[aK],rfl,?_⟩;obtain⟨sm,dn⟩:=sj h1 hl d1 (E.all.same s1) hx hd ne;exact hF _ _ (s1.trans sm) dn
 ·rw[if_neg hl]at hF;exact hF.elim
end
section
variable[aC]{X:Cx}
theorem AO{a e : RH}{es : bA}{fa : FX}{fs : aW}{apos cpos : Pos}(ha : XE X a fa)(hs : XA X (e :: es) fs)(hbase : Sv a "join" X.env (eval a X.env) = eval a X.env := by rfl)(hfew : ((backTo cpos (RZ (e :: es) X.env)).all (fun x => !x.1) && (backToKw cpos (Sy [] X.env)).all (fun x => x.1.isSome)
      && decide ((e::es).length+([]:List S5).length+(if([]:List S5).isEmpty then 0 else 1)<30))=true:=by rfl)(hline:(apos.endLine==cpos.line)=true:=by rfl)(hst:RZ (e::es) X.env=(false,eval e X.env)::RZ es X.env:=by rfl)(hplain:(backTo cpos (RZ es X.env)).any (·.1)=false:=by rfl):XE X (.Call (.Attribute a "join" apos) (e::es) [] cpos) (jf fa fs):=⟨PE.weak (E5 F.plainAttrs_str F.slot_str_join F.type_str_join Eg ha.h hs.h hbase hfew hline hst hplain) λσ H Q ⟨O,ρ,E,hF⟩=>⟨O,ρ,E,(fG.bind hF).imp λx hF v H1 s1 d1=>by
    obtain⟨z,ez,hF⟩:=fG.rO (fG.bind hF);rw[CZ ez d1];exact⟨rfl,O,ρ,E.same s1,((fG.bind hF).mono s1).imp λds hF vs H2 s2 d2=>by
      obtain⟨d,e,q⟩:=fG.rO hF;exact rF e d2 λw dw=>q w H2 (s1.trans s2) dw⟩⟩⟩
end
section
variable[aC]{X:Cx}{pos:Pos}
theorem xO{x:Str}{e:RH}{es:bA}{f:aW}{np cpos:Pos}(hc:X.calm=true)(hx:ExcAt X.K X.mg x)(hg:Gl X x)(ha:XA X (e::es) f)(hdb:(x==("__debug__":Str))=false:=by decide)(hns:(e::es).all noStar=true:=by rfl):XS X (.Raise (some (.Call (.Name x np) (e::es) [] cpos)) none pos) (eS x f):=⟨λHb Ob pins s σ H E I ⟨O,ρ,k,r,S,hF,hk⟩=>by
 obtain⟨C,cl,hm,hi⟩:=hx;obtain⟨tl,N,nm,q,bs,hdct,sn,sub,ab,col,dd,k0,k1,k2,k3,k5,mN,hC,hN,hni,T⟩:=(CO I.mod.kin hi x).obj;have st:RZ (e::es) X.env=_:=dC (NU _ _ ▸ hns).1;have plain:(backTo cpos (RZ (e::es) X.env)).any (·.1)=false:=dW hns;refine wpAny_Raise_call_subT (k5:=k5) (k3:=k3) (k2:=k2) (k1:=k1) (k0:=k0) (dd:=dd) (col:=col) (ab:=ab) (sub:=sub) (sn:=sn) (hdct:=hdct) (bs:=bs) (N:=N) (q:=q) (nm:=nm) RD (mN:=mN) (T.hasType PySem.F.excBase_ValueError.hasBase) (I.ok.hd hc) plain hni (jt I hg hm ⟨rfl,?_⟩ hdb);have A1:=ha.h cpos pins s σ H (λvs H1=>vs.length<=RO/\aZ H H1/\k.ex ⟨x,[],[]⟩ ρ=r) I ⟨O,ρ,S.env,fG.on hF hk S λds e vs H' s' d'=>by
  have z:small ds.length=true:=by
   cases z:small ds.length with
   |true=>rfl
   |false=>rw[z]at e;exact absurd e.symm hk.ne
  rw[z]at e;exact⟨by rw[<-d'.length];exact cU z,s',e⟩⟩
 rw[st]at A1 ⊢;refine Calls.evalArgs_plain (cN A1 λus s2 ⟨vs,H1,I1,rv,q1,q2,q3⟩=>⟨rfl,by rw[<-rv.length];exact q1,I1.bk _ _ hC,hN.keeps I1.bk,T.keeps I1.bk,λh' a m=>?_⟩);exact hk.ex O ρ σ H1 _ (S.same q2) q3 pins _ _ H1 (I1.kept (t':=s2.toks) m.keeps) (aZ.refl H1) ⟨a,C,none,rfl,⟨cl,[],cD.mpr rfl,rfl,.inl rfl⟩,zb I1 m⟩⟩
end
section
variable[aC]{X:Cx}{pins:bn}{s:RK}{σ:L2.St}{H:Hp}{O:aF}
theorem xn{f:FX}{j:Nat}{k:Nat}{c P cc:RG}{e:RH}{p lpos kp pos np mp p2 spos:Pos}{row many:Str}{params:SK}{scope:RW}(hr:eI k X.A)(hg:Gl X "sorted")(hm:X.mg "sorted"=none)(B:yY X.mg X.base c P)(hcode:X.env.code=.ref c)(hT:∀H,aC.tab H->H P=some (.ext (lq P lpos (X.env.qual++"<lambda>"))))(he:XE X e f)(hN:X.N[j]?=some many)(hkm:X.env.kindOf many=some .cell)(hv:FU X.env.scope many)(hcc:X.env.cells.lookup many=some cc)(hcl:closureFor scope X.env=pure [(many,cc)])(hdef:defaultsOf params X.env=([],[]))(hbind:∀cdv ctv v,bindArgs (PySem.W.kla_fn "<lambda>" (X.env.qual++"<lambda>") params (cutE row many np mp p2 spos) scope [(many,cc)] ((X.mg "__name__").getD .none) cdv ctv) ⟨[v],[]⟩=pure [(row,v)])(hco:scope.isCoroutine=false)(hgen:scope.isGenerator=false)(hk:scope.kind=.function)(hno:∀x∈scope.names,x.2≠.cell)(hlr:scope.names.lookup row=some .local)(hlm:scope.names.lookup many=some .free)(d1:(row==("__debug__":Str))=false)(d2:(many==("__debug__":Str))=false)(d3:(many==("__classdict__":Str))=false)(hns:noStar e=true:=by rfl):XE X (.Call (.Name "sorted" p) [e] [⟨some "key",.Lambda params (cutE row many np mp p2 spos) scope lpos,kp⟩] pos) (f2 lP f (af j)):=by
 refine⟨?_⟩;rintro pins s σ H Q I ⟨O,ρ,E,hF⟩;refine SJ (gV I hg hm rC ?_);have st:backTo pos (RZ [e] X.env)=(false,eval e X.env)::backTo pos (RZ [] X.env):=by rw[dC hns];rfl
 refine PyProof.Rows.callWith_kw ?_ ?_ (dW (by rw[Oa,hns];rfl))
 ·refine cN (mO he.h uR (dC hns) pos pins s σ H (λvs H1=>∃v d a m,vs=[v]/\aZ H H1/\ρ[j]?=some (some (.val m))/\lP a m=some d/\cz X.K (hid H1 O) a v/\∀v H',aZ H H'->cz X.K (hid H' O) d v->Q v H') I ⟨O,ρ,E,(fG.bind hF).imp λa hF v H1 s1 d1=>?_⟩) λus s1 ⟨vs,H1,I1,rv,v,d,a,m,ev,s1',em,hd,dn,q⟩=>?_
  ·obtain⟨m,em,hF⟩:=qb (fG.bind hF);obtain⟨d,e,q⟩:=fG.rO hF;exact⟨v,d,a,m,rfl,s1,em,e,d1,q⟩
  ·subst ev;obtain⟨u,eu,ru⟩:=vals1 rv;subst eu;have E1:=E.same s1';show RY _ _ (evalAll ((do let v<-eval (.Lambda params (cutE row many np mp p2 spos) scope lpos) X.env;standAt pos;pure v)::[])) _ _ s1;refine wpAny_evalAll_cons (Sd (Aq I1 B hcode (hT _ E1.all.1) hdef hcl λfa c' ctv s2 H2 I2 s2' hfa hcr=>Sd (S6 (Sb (wpAny_evalAll_nil ?_)))));show RY (model X.prog X.w) X.A (call (.builtin "sorted") [u] [(Str.ofString "key",.ref fa)]) (EP X pins σ Q) X.xe s2;have E2:=E1.same s2';obtain⟨vm,e3,dm⟩:=E2.val j m em;have core:∀(i:Int)(xs:List D),m=.int i->0<=i->nX i.toNat xs=some d->∀(ys:aH)(its:aU),aX X.K (hid H2 O) xs ys->Vals ys its->
     (∀(Q':aU->dD),(∀h' tk,(∀b o,s2.heap.get? b=some o->h'.get? b=some o)->Q' its {s2 with heap:=h',toks:=tk})->RY (model X.prog X.w) X.A.in1 (collect u) Q' X.xe s2)->
     RY (model X.prog X.w) X.A (call (.builtin "sorted") [u] [(Str.ofString "key",.ref fa)]) (EP X pins σ Q) X.xe s2:=by
    intro i xs ei h0 hs ys its dl ri hcol;subst ei;rw[eZ]at dm;subst dm;obtain⟨mm,hns',hl⟩:=I2.loc;obtain⟨uv,ruv,lk⟩:=hl j many (.int i) hN e3 hv;obtain⟨t,rfl⟩:=ruv;have hcell:s2.heap.IsCell cc (some (.int i t)):=by
     rcases lk with⟨z,_⟩|⟨_,c2,ec,hc2⟩
     ·rw[hkm]at z;cases z
     ·rw[hcc]at ec;cases ec;exact hc2
    have dp:=hr.dp;exact uL I2 E2.all dl ri h0 hs hfa hcr ‹0› (λv=>hbind (.ref c') ctv v) hco hgen hk hno hlr hlm hcell d1 d2 d3 hcol λv H' sm dd=>q v H' ((s1'.trans s2').trans sm) dd
   have dn2:=dn.mono (cw (O:=O) s2');unfold lP at hd;split at hd
   ·rename_i xs i;split at hd
    ·rename_i h0;obtain⟨l,ys,el,g1,g2⟩:=cn.mp dn2;subst el;cases ru;obtain⟨its,ri,pl,hz⟩:=I2.list ((aO H2 O).seq g1);have hlen:=ri.length;obtain⟨o,ho,hc,n,hd'⟩:=pl.isList;exact core i xs rfl h0 hd ys its g2 ri λQ' hQ=>wpAny_collect_seq l (.inl rfl) ho hc hd' (λh' k=>by simpa using hQ h' s2.toks k) (by simp only[Nt]<;>omega)
    ·cases hd
   ·rename_i xs i;split at hd
    ·rename_i h0;obtain⟨l,ys,el,g1,g2⟩:=b7.mp dn2;subst el;cases ru;obtain⟨its,ri,⟨o,ho,hc,n,hd'⟩,hz⟩:=I2.tuple (b9 (aO H2 O) g1);have hlen:=ri.length;exact core i xs rfl h0 hd ys its g2 ri λQ' hQ=>wpAny_collect_seq l (.inr rfl) ho hc hd' (λh' k=>by simpa using hQ h' s2.toks k) (by simp only[Nt]<;>omega)
    ·cases hd
   ·cases hd
 ·exact st
end
section
variable[aC]
theorem uz{X:Cx}{pos:Pos}{x:Str}{e:RH}{es:bA}{f:aW}{np cpos:Pos}{k k':Nat}{ps fs:au}(hc:X.calm=true)(hx:X.ex=[])(RA:m9 X.prog X.w X.K X.mg X.base k x ps fs)(hr:eI k' X.A)(hk':k+1<=k')(hg:Gl X x)(ha:XA X (e::es) f)(hdb:(x==("__debug__":Str))=false:=by decide)(hns:(e::es).all noStar=true:=by rfl):XS X (.Raise (some (.Call (.Name x np) (e::es) [] cpos)) none pos) (ke x fs f):=⟨λHb Ob pins s σ H D I h=>by
 obtain⟨O,ρ,k1,r,S,hF,hk⟩:=h;obtain⟨C,fI,fd,cl,EI,F,hb,hm⟩:=RA;obtain⟨nm,q,N,bs,bm,hdct,sn,sub,ab,col,dd,l0,l1,l2,l3,l5,hcls⟩:=EI.cls;have st:RZ (e::es) X.env=_:=dC (NU _ _ ▸ hns).1;rw[arm_exec_Raise];have hT:=(hcls _ I.kIn).2.2;refine Sd (S6 (uB (C:=C) (nm:=nm) (q:=q) (N:=N) (bs:=bs) (bm:=bm) (hdct:=hdct) (sn:=sn) (sub:=sub) (ab:=ab) (col:=col) (dd:=dd) (k0:=l0) (k1:=l1) (k2:=l2) (k3:=l3) (k5:=l5) (newId:="ValueError.__new__") (hT.hasType PySem.F.excBase_ValueError.hasBase) (I.ok.hd hc) ?_));refine Sd (R0 ?_ (λv s' z=>Sd (S6 (Sb z))) λ_ _ z=>z);refine SJ (jt I hg hm ?_ hdb);have A1:=ha.h cpos pins s σ H (λvs H1=>∃ds,vs.length=fs.length/\vs.length<=RO/\aZ H H1/\aX X.K (hid H1 O) ds vs/\k1.ex ⟨x,fs,ds⟩ ρ=r) I ⟨O,ρ,S.env,fG.on hF hk S λds e vs H' s' d'=>by
  cases z:(small ds.length&&ds.length==fs.length)with
  |false=>rw[z]at e;exact absurd e.symm hk.ne
  |true=>
   rw[z]at e;rw[NU,beq_iff_eq]at z;exact⟨ds,by rw[<-d'.length];exact z.2,by rw[<-d'.length];exact cU z.1,s',d',e⟩⟩
 refine QK (h₀:=X.base) I.ok.mod.kin EI.kp (cN A1 λus s1 h1=>?_) st (dW (NU _ _ ▸ hns).2);obtain⟨vs,H1,I1,rv,ds,hl,hz,sm,dn,hex⟩:=h1;refine⟨I1.kIn,?_⟩;obtain⟨hC,⟨mN,hN,hi⟩,T⟩:=hcls _ I1.kIn;obtain⟨oI,hoI,hcI⟩:∃o,s1.heap.get? fI=some o/\o.cls=.type "function":=by
  have z:(X.K.lookup fI).map (·.cls)=some (.type "function"):=EI.fn;cases y:X.K.lookup fI with
  |none=>rw[y]at z;cases z
  |some o=>rw[y]at z;exact⟨o,I1.kIn _ _ y,Option.some.inj z⟩
 refine oH (h:=s1.heap) (g:=s1.gens) (d:=s1.drawn) (t:=s1.toks) (os:=s1.os) RD (by decide +kernel) RD T hC hN hi hoI hcI (λh' ee m=>?_) (show us.length<=RO by rw[<-rv.length];exact hz);obtain⟨t,m1,m2,m3⟩:=m.there;have nf:=p7 I1 hx m.new;have I2:=adopt (ob:=.ext (oz C ee t)) (I1.kept (t':=s1.toks) m.keeps) nf.1 nf.2.1 nf.2.2.1 nf.2.2.2.1 nf.2.2.2.2 (Dg ⟨_,m1,rfl,rfl,rfl⟩);have r2:Vals (V.ref ee::vs) (Value.ref ee::us):=.cons rfl rv;have dne:∀d,upd H1 ee (.ext (oz C ee t)) d=none->d≠ee:=λd z w=>by rw[w,aK]at z;cases z
 have spec:LR C fs (V.ref ee::vs) (upd H1 ee (.ext (oz C ee t))) (λv H3=>v=.non/\∃d,H1 d=none/\d≠ee/\H3=upd (upd H1 d (.own ee)) ee (.ext (gC C ee t d (fs.zip vs)))) E0:=⟨ee,t,vs,rfl,hl,aK,λd hd ne=>⟨rfl,d,by rw[ay ne]at hd;exact hd,ne,by
  funext b;by_cases z:b=ee
  ·rw[z,aK,aK]
  ·rw[ay z,ay z];by_cases y:b=d
   ·rw[y,aK,aK]
   ·rw[ay y,ay z,ay y]⟩⟩
 have hlen:(Value.ref ee::us++[]).length=ps.length:=by
  have:=r2.length
  rw[F.len _ _ _ _ spec]at this;rw[NB];exact this.symm
 have hb':=hb {s1 with heap:=h'} (Value.ref ee::us) I2.kIn hlen;rw[NB]at hb';refine SG (SH (F.run _ X.stack _ _ ⟨Value.ref ee::us,[]⟩ (Value.ref ee::us) _ _ E0 ((hr.mono hk').make C us []) (I2.env0.make C us []) hb' r2 spec) λr s' hq'=>?_);cases r with
 |error e=>exact EG pins σ _ _ e s' I2 hq'
 |ok fl=>
  cases fl with
  |ret u=>
   obtain⟨v,H',I3,rv',⟨ev,d,hd,ne,eH⟩⟩:=I2.after hq';subst ev eH;refine⟨rv',?_⟩;obtain⟨I4,fl,sl,he⟩:=D9 I1 hx m.new hd I3;have s14:aZ H1 (upd H1 d (.xd (fs.zip vs))):=λb o z=>by rw[ay (aQ z hd)];exact z
   have dO:d∉O:=(S.env.all.same sm).not hd;exact⟨ee,t,some d,sl,rfl,(hcls _ I4.kIn).1,he,hk.ex O ρ σ _ _ (S.same (sm.trans s14)) hex pins s' _ _ I4 (aZ.refl _) ⟨ee,C,some d,rfl,⟨cl,vs,dn.mono (cw s14),hl.symm,.inr ⟨d,rfl,by rw[iT dO];exact aK⟩⟩,fl⟩⟩
  |next=>exact False.elim hq'
  |brk=>exact False.elim hq'
  |cont=>exact False.elim hq'⟩
end
section
variable[aC]{X:Cx}{tg:RH}
theorem rY{a:RH}{f:aW}{p p2 pos pos2:Pos}(hg:Gl X "range")(hm:X.mg "range"=none)(hg2:Gl X "reversed")(hm2:X.mg "reversed"=none)(ha:XA X [a] f)(hs:RZ [a] X.env=[(false,eval a X.env)]:=by rfl)(hs2:RZ [.Call (.Name "range" p) [a] [] pos] X.env=(false,eval (.Call (.Name "range" p) [a] [] pos) X.env)::RZ [] X.env:=by rfl)(hpl:(backTo pos2 (RZ [] X.env)).any (·.1)=false:=by rfl):XI X tg (.Call (.Name "reversed" p2) [.Call (.Name "range" p) [a] [] pos] [] pos2) (kr f):=by
 refine⟨?_⟩;rintro pins s σ H R I ⟨O,ρ,E,hG⟩;refine uH hg hm hg2 hm2 ha.h hs hs2 hpl pins s σ H R I ⟨O,ρ,E,(fG.bind hG).imp λes hG' vs H1 s1 d1=>?_⟩;clear hG;obtain⟨ds,hG,q⟩:=fG.rO hG';clear hG';unfold Bp at hG;split at hG
 ·rename_i j;obtain⟨h1,h2⟩:=bE hG;subst h2;obtain⟨j1,j2⟩:=of_decide_eq_true h1;obtain⟨v,ev,dv⟩:=d1.one;exact⟨j,by rw[ev,eZ.mp dv],j1,j2,q _ H1 s1 (yC _ _)⟩
 ·cases hG
end
theorem Ao{X:Cx}{pos:Pos}{body suite:dM}{b₀:RJ}{g:Str}{gp hpos:Pos}{F Fh:bU}{cs:au}(hx:X.ex=[])(hst:X.stack=X.env::X.outer)(hf:X.env.frame=some X.env.locals)(hfn:∀x,X.fn x=true)
  (hT:sL X.K X.mg g cs) (hg:Gl X g)
  (hb:∀E pn,R9 (model X.prog X.w) X.A X.env E->ow (uS X E pn) body F) (hs:∀A pn,A.depth=X.A.depth->A.units=X.A.units->ow (sY X A pn) (b₀::suite) Fh) (hdb:(g==("__debug__":Str))=false:=by decide):
  XS X (.Try body [.ExceptHandler (some (.Name g gp)) none (b₀::suite) hpos] [] [] pos) (tX cs F Fh):=⟨TG.Jo hx hst hf hfn hT hg (λE pn hp=>(hb E pn hp).h) (λA pn h1 h2=>(hs A pn h1 h2).h) hdb⟩
noncomputable abbrev Lk(K:Qw)(f:RG)(nm qual:Str)(st:RJ)(oc:RE)(od:Option RG)(kV dc pm:RE)(an:Option RG)(cd ct:RE)(sl:Array (Option RE)):Prop:=K.lookup f=some ⟨oc,od,.func (QM nm qual (gZ st) (cT st) (aw st) .none kV dc pm an cd ct),sl⟩
structure wZ(P:RM)(w:RL)(K:Qw)(mg:bP)(base:RN)(k:Nat)(N:au)(qual:Str)(st:RJ)(f:RG)(B:bU):Prop where
 h:∀(cdv:RE)(A:RV)(outer:List Env)(s:RK)(H:Hp)(E:XK),eI k (A.deeper (Ru qual (aw st) s.heap.objs.size f cdv))->R9 (model P w) (A.deeper (Ru qual (aw st) s.heap.objs.size f cdv)) (Ru qual (aw st) s.heap.objs.size f cdv) (fO (iH P w) P w K mg base N qual (aw st) f cdv A outer s H E).xe->
  ow (fO (iH P w) P w K mg base N qual (aw st) f cdv A outer s H E) (cT st) B
structure Fw(P:RM)(w:RL)(K:Qw)(mg:bP)(base:RN)(k:Nat)(N:au)(qual:Str)(st:RJ)(f:RG)(B:bU):Prop where
 h:∀(cdv:RE)(A:RV)(outer:List Env)(s:RK)(H:Hp)(E:XK),pA K f cdv->eI k (A.deeper (Ru qual (aw st) s.heap.objs.size f cdv))->R9 (model P w) (A.deeper (Ru qual (aw st) s.heap.objs.size f cdv)) (Ru qual (aw st) s.heap.objs.size f cdv) (fO (iH P w) P w K mg base N qual (aw st) f cdv A outer s H E).xe->
  ow (fO (iH P w) P w K mg base N qual (aw st) f cdv A outer s H E) (cT st) B
theorem Fw.ok{P:RM}{w:RL}{K:Qw}{mg:bP}{base:RN}{k:Nat}{N:au}{qual:Str}{st:RJ}{f:RG}{B:bU}(h:Fw P w K mg base k N qual st f B):rP P w K mg base k N qual st f B:=⟨λcdv A outer s H E hc hr hp=>(h.h cdv A outer s H E hc hr hp).h⟩
theorem wZ.ok{P:RM}{w:RL}{K:Qw}{mg:bP}{base:RN}{k:Nat}{N:au}{qual:Str}{st:RJ}{f:RG}{B:bU}(h:wZ P w K mg base k N qual st f B):BodyOk P w K mg base k N qual st f B:=⟨λcdv A outer s H E hr hp=>(h.h cdv A outer s H E hr hp).h⟩
section
variable{X:Cx}{x:Str}{pos:Pos}
theorem xw(i:Nat)(hN:X.N[i]?=some x:=by rfl)(hv:FU X.env.scope x:=by first|exact Or.inl rfl|exact Or.inr (Or.inl rfl)|exact Or.inr (Or.inr rfl))(hd:(x==("__debug__":Str))=false:=by decide)(hcd:(x==("__classdict__":Str))=false:=by decide):XE X (.Name x pos) (af i):=Cj (xv i hN hv hd hcd)
theorem xi{a b:RH}{fa fb:FX}(ha:XE X a fa)(hb:XE X b fb)(hs:qi b:=by exact λ_ _=>rfl):XE X (.Subscript a b pos) (f2 ak fa fb):=Hy ha hb hs
theorem xa1{e:RH}{f:FX}(he:XE X e f)(h:noStar e=true:=by rfl):XA X [e] (aa f ah):=ny he wx h
theorem xa2{e e':RH}{f f':FX}(he:XE X e f)(he':XE X e' f')(h:noStar e=true:=by rfl)(h':noStar e'=true:=by rfl):XA X [e,e'] (aa f (aa f' ah)):=ny he (xa1 he' h') h
theorem xs(i:Nat){e:RH}{f:FX}{pos':Pos}(hN:X.N.Nodup)(he:XE X e f)(hi:X.N[i]?=some x:=by rfl)(hx:Loc X.env.scope x:=by first|exact Or.inl rfl|exact Or.inr rfl)(hs:swapsWith e (some (.Name x pos')) pos.line X.env=pure false:=by rfl)(hf:X.fn x=true\/X.env.scope.names.lookup x=some .local:=by first|exact .inl rfl|exact .inr rfl|assumption):XS X (.Assign [.Name x pos'] e pos) (aL i f):=D8 hN hi hx he hs hf
end
noncomputable def K2:au->Bool
 |[]=>true
 |x::r=>!(r.contains x)&&K2 r
theorem sS{l:au}(h:K2 l=true):l.Nodup:=by
 induction l with
 |nil=>exact List.nodup_nil
 |cons x r ih=>
  simp only[K2,NU,Pl]at h;exact List.nodup_cons.mpr ⟨λm=>by rw[List.contains_iff_mem.mpr m]at h;exact absurd h.1 (by decide),ih h.2⟩
noncomputable def EL:RH->au
 |.Name x _=>[x]
 |.Tuple es _ _=>es.filterMap λe=>match e with
  |.Name x _=>some x
  |_=>none
 |_=>[]
noncomputable def yW(N:au):fH->au->au
 |[],_=>[]
 |some j::r,t=>N.getD j ""::yW N r t
 |none::r,x::t=>x::yW N r t
 |none::r,[]=>""::yW N r []
section
variable{X:Cx}{elt tg iter:RH}{ifs:bA}{scope:RW}{ix:fH}{G:aW}{g:GF}{C:bF}{Fe:FX}{i:Nat}{y:Str}{lpos py pos:Pos}
theorem xl(hc:X.calm=true)(tk:mq ix g)(hi:XI X tg iter G)(hb:oP X scope (yW X.N ix (EL tg)) tg elt ifs g C Fe)(ok:jr X.env.scope.names X.N scope (yW X.N ix (EL tg)) ix=true:=by rfl)(hs:∀x,Si iter X.env x=pure x:=by intro _;rfl):XE X (.ListComp elt [⟨tg,iter,ifs,0⟩] scope pos) (eQ ix G g C Fe):=G1 hc (.of ok) tk hi hb hs
theorem MT(hc:X.calm=true)(tk:mq ix g)(hi:XI X tg iter G)(hb:oP X scope (yW X.N ix (EL tg)) tg elt ifs g C Fe)(ok:jr X.env.scope.names X.N scope (yW X.N ix (EL tg)) ix=true:=by rfl)(hs:∀x,Si iter X.env x=pure x:=by intro _;rfl):XN X (.ListComp elt [⟨tg,iter,ifs,0⟩] scope pos) (eQ ix G g C Fe):=FH hc (.of ok) tk hi hb hs
theorem Mj(hN:X.N.Nodup)(hc:X.calm=true)(tk:mq ix g)(hi:XI X tg iter G)(hb:oP X scope (yW X.N ix (EL tg)) tg elt ifs g C Fe)(hi':X.N[i]?=some y:=by rfl)(hx:Loc X.env.scope y:=by first|exact Or.inl rfl|exact Or.inr rfl)(ok:jr X.env.scope.names X.N scope (yW X.N ix (EL tg)) ix=true:=by rfl)(hsw:swapsWith (.ListComp elt [⟨tg,iter,ifs,0⟩] scope lpos) (some (.Name y py)) pos.line X.env=pure true:=by rfl)(hs:∀x,Si iter X.env x=pure x:=by intro _;rfl)(hf:X.fn y=true\/X.env.scope.names.lookup y=some .local:=by first|exact .inl rfl|exact .inr rfl|assumption):XS X (.Assign [.Name y py] (.ListComp elt [⟨tg,iter,ifs,0⟩] scope lpos) pos) (aL i (eQ ix G g C Fe)):=Fd hN hi' hx hc (.of ok) tk hi hb hsw hs hf
theorem M6(hN:X.N.Nodup)(hc:X.calm=true)(tk:mq ix g)(hi:XI X tg iter G)(hb:oP X scope (yW X.N ix (EL tg)) tg elt ifs g C Fe)(hi':X.N[i]?=some y:=by rfl)(hx:Loc X.env.scope y:=by first|exact Or.inl rfl|exact Or.inr rfl)(ok:jr X.env.scope.names X.N scope (yW X.N ix (EL tg)) ix=true:=by rfl)(hsw:swapsWith (.ListComp elt [⟨tg,iter,ifs,0⟩] scope lpos) (some (.Name y py)) pos.line X.env=pure true:=by rfl)(hs:∀x,Si iter X.env x=pure x:=by intro _;rfl)(hf:X.fn y=true\/X.env.scope.names.lookup y=some .local:=by first|exact .inl rfl|exact .inr rfl|assumption):XS X (.Assign [.Name y py] (.ListComp elt [⟨tg,iter,ifs,0⟩] scope lpos) pos) (jc i (eQ ix G g C Fe)):=xL hN hi' hx hc (.of ok) tk hi hb hsw hs hf
end
structure U where
 P:RM
 w:RL
 K:Qw
 mg:bP
 base:RN
 cL:RG
 T:RG
noncomputable abbrev Ca(u:U)(k:Nat)(x:Str)(ps:au)(g:cP):Prop:=Callee u.P u.w u.K u.mg u.base k x ps g
noncomputable abbrev Ma(u:U)(k:Nat)(c m:Str)(ps:au)(g:cP):Prop:=MethAt u.P u.w u.K u.mg u.base k c m ps g
noncomputable abbrev Ta(u:U)(k:Nat)(m:Str)(ps:au)(t:List (Str×(cP))):Prop:=n5 u.P u.w u.K u.mg u.base k m ps t
noncomputable def Df(u:U)(x:Str)(st:RJ):Prop:=∃f fd,ou u.K x x st f fd/\u.mg x=some (.ref f)
noncomputable def Dl(u:U)(x:Str)(st:RJ):Prop:=∃f fd,ou u.K x x st f fd/\u.mg x=some (.ref f)/\pA u.K f (.ref u.cL)
noncomputable def Dm(u:U)(c m qual:Str)(st:RJ):Prop:=∃C f fd,clsAt u.K c C/\pH u.K C/\Meth u.K C m f/\ou u.K m qual st f fd
noncomputable def Bd(x qual:Str)(st:RJ)(ps:au):Prop:=∀us:aU,us.length=ps.length->∀(kV doc pm:RE)(an:Option RG)(cdv ct:RE),bindArgs (QM x qual (gZ st) (cT st) (aw st) .none kV doc pm an cdv ct) ⟨us,[]⟩=pure (ps.zip us)
theorem ou.bd{K:Qw}{x qual:Str}{st:RJ}{f:RG}{fd:SD}{ps:au}(F:ou K x qual st f fd)(h:Bd x qual st ps):Binds K fd ps []:=F.binds λkV doc pm an cdv ct us e=>h us e kV doc pm an cdv ct
section
variable{u:U}{x c m qual:Str}{st:RJ}{ps:au}{k:Nat}{B:bU}
theorem HJ(M:au)(d:Df u x st)(b:Bd x x st ps)(sc:cx (ps++M) ps (aw st))(h:(ps++M).Nodup->∀f,wZ u.P u.w u.K u.mg u.base k (ps++M) x st f B):Ca u (k+1) x ps (ao B ps.length (ps++M).length):=by
 obtain⟨f,fd,F,e⟩:=d;exact x8 F (ou.bd F b) e sc (h sc.nd f).ok
theorem Jk(d:Df u x st)(b:Bd x x st ps):Ca u k x ps λ_=>un:=by
 obtain⟨f,fd,F,e⟩:=d;exact sI k F (ou.bd F b) e
theorem MY(M:au)(d:Dl u x st)(b:Bd x x st ps)(sc:cx (ps++M) ps (aw st))(h:(ps++M).Nodup->∀(f:RG)(A:RV)(outer:List Env)(s:RK)(H:Hp)(E:XK),eI k (A.deeper (Ru x (aw st) s.heap.objs.size f (.ref u.cL)))->R9 (model u.P u.w) (A.deeper (Ru x (aw st) s.heap.objs.size f (.ref u.cL))) (Ru x (aw st) s.heap.objs.size f (.ref u.cL)) (fO (iH u.P u.w) u.P u.w u.K u.mg u.base (ps++M) x (aw st) f (.ref u.cL) A outer s H E).xe->
  ow (fO (iH u.P u.w) u.P u.w u.K u.mg u.base (ps++M) x (aw st) f (.ref u.cL) A outer s H E) (cT st) B):Ca u (k+1) x ps (ao B ps.length (ps++M).length):=by
 obtain⟨f,fd,F,e,hc⟩:=d;refine uX F (ou.bd F b) e sc (Fw.ok ⟨λcdv A outer s H E hd hr hp=>?_⟩);obtain rfl:=hd.one hc;exact h sc.nd f A outer s H E hr hp
theorem MJ(M:au)(d:Dm u c m qual st)(b:Bd m qual st ps)(sc:cx (ps++M) ps (aw st))(h:(ps++M).Nodup->∀f,wZ u.P u.w u.K u.mg u.base k (ps++M) qual st f B):Ma u (k+1) c m ps (ao B ps.length (ps++M).length):=by
 obtain⟨C,f,fd,h1,h2,h3,F⟩:=d;exact xN h1 h2 h3 F (ou.bd F b) sc (h sc.nd f).ok
theorem Mx(M:au){f:RG}{fd:SD}(F:ou u.K x x st f fd)(sc:cx (ps++M) ps (aw st))(h:(ps++M).Nodup->wZ u.P u.w u.K u.mg u.base k (ps++M) x st f B):fP u.P u.w u.K u.mg u.base (iH u.P u.w) (k+1) f fd ps (xP u.K ps.length (ao B ps.length (ps++M).length)):=qe F sc (h sc.nd).ok
end
noncomputable def KD(K:Qw)(x:Str)(st:RJ):Prop:=∃f oc od kV dc pm an cd ct sl,QO K RQ x=some (some (.ref f))/\Lk K f x x st oc od kV dc pm an cd ct sl/\QN K cd x=true/\QJ K (.ref f)=true
theorem KD.mk{K:Qw}{x:Str}{st:RJ}{f:RG}{oc:RE}{od:Option RG}{kV dc pm:RE}{an:Option RG}{cd ct:RE}{sl:Array (Option RE)}(a:QO K RQ x=some (some (.ref f)))(l:Lk K f x x st oc od kV dc pm an cd ct sl)(c:QN K cd x=true)(k:QJ K (.ref f)=true):KD K x st:=⟨f,oc,od,kV,dc,pm,an,cd,ct,sl,a,l,c,k⟩
noncomputable def KDs(K:Qw):List (Str×RJ)->Prop
 |[]=>True
 |p::r=>KD K p.1 p.2/\KDs K r
theorem KDs.mk{K:Qw}{x:Str}{st:RJ}{r:List (Str×RJ)}(h:KD K x st)(t:KDs K r):KDs K ((x,st)::r):=⟨h,t⟩
noncomputable def KC(u:U)(Z:Prop):List (Str×RJ)->Prop
 |[]=>Z
 |p::r=>KC u Z r/\Df u p.1 p.2
noncomputable def KZs(K:Qw):au->Prop
 |[]=>True
 |x::r=>QO K RQ x=some none/\KZs K r
theorem KZs.mk{K:Qw}{x:Str}{r:au}(h:QO K RQ x=some none)(t:KZs K r):KZs K (x::r):=⟨h,t⟩
noncomputable def Zs(u:U):au->Prop
 |[]=>True
 |x::r=>Zs u r/\u.mg x=none
section
variable{u:U}{h:RN}
theorem KC.of{Z:Prop}(X:u.K.In h)(G:h.Ns RQ u.mg)(z:Z):∀{l:List (Str×RJ)},KDs u.K l->KC u Z l
 |[],_=>z
 |_::_,h=>by
  obtain⟨⟨_,_,_,_,_,_,_,_,_,_,a,l,c,k⟩,r⟩:=h;exact⟨KC.of X G z r,_,_,cF l c k,Rb X G a⟩
theorem Zs.of(X:u.K.In h)(G:h.Ns RQ u.mg):∀{l:au},KZs u.K l->Zs u l
 |[],_=>trivial
 |_::_,⟨a,r⟩=>⟨Zs.of X G r,PySem.W.mg_none_of X G a⟩
end
theorem DQ{us:aU}{n:Nat}(h:us.length=n+1):∃a r,us=a::r/\r.length=n:=by
 cases us with
 |nil=>cases h
 |cons a r=>exact⟨a,r,rfl,Nat.succ.inj h⟩
theorem IH{us:aU}(h:us.length=1):∃a,us=[a]:=List.length_eq_one_iff.mp h
theorem Gk{us:aU}(h:us.length=2):∃a b,us=[a,b]:=by
 obtain⟨a,r,rfl,k⟩:=DQ h;obtain⟨b,rfl⟩:=IH k;exact⟨a,b,rfl⟩
theorem Ga{us:aU}(h:us.length=3):∃a b c,us=[a,b,c]:=by
 obtain⟨a,r,rfl,k⟩:=DQ h;obtain⟨b,c,rfl⟩:=Gk k;exact⟨a,b,c,rfl⟩
theorem IJ{us:aU}(h:us.length=4):∃a b c d,us=[a,b,c,d]:=by
 obtain⟨a,r,rfl,k⟩:=DQ h;obtain⟨b,c,d,rfl⟩:=Ga k;exact⟨a,b,c,d,rfl⟩
theorem IU{us:aU}(h:us.length=5):∃a b c d e,us=[a,b,c,d,e]:=by
 obtain⟨a,r,rfl,k⟩:=DQ h;obtain⟨b,c,d,e,rfl⟩:=IJ k;exact⟨a,b,c,d,e,rfl⟩
end TX
namespace TG
open L2
instance(priority:=low) noTabs:aC:=⟨λ_=>True,λ_ _=>trivial,λ_ _ _=>trivial⟩
open PySem PySem.Spec L2
theorem nr{α:Sort _}{a b:α}(h:a=b):a=b:=h
theorem eB{α β:Type}(a:α)(f:α->R β):Except.bind (Except.ok a:R α) f=f a:=nr rfl
theorem wo{α β:Type}(x:Option Ex)(f:α->R β):Except.bind (Except.error x:R α) f=.error x:=nr rfl
theorem o6{α:Type}(a:α)(k:Ks)(ρ:av)(f:α->R D):ll (.ok a) k ρ f=f a:=nr rfl
theorem wz{α:Type}(x:Ex)(k:Ks)(ρ:av)(f:α->R D):ll (.error (some x)) k ρ f=k.ex x ρ:=nr rfl
theorem jE{α:Type}(a:α):uy (.ok a:R α)=.ok a:=nr rfl
theorem fj{α:Type}(a:α):rO (some a)=.ok a:=nr rfl
theorem ge_0(d:D)(ρ:av):oM (some (.val d)::ρ) 0=.ok d:=rfl
theorem DU(x:Option S)(ρ:av)(i:Nat):oM (x::ρ) (i+1)=oM ρ i:=rfl
theorem qQ(i:Nat)(ρ:av):af i ρ=oM ρ i:=rfl
theorem DI(d:D)(ρ:av):fC d ρ=.ok d:=rfl
theorem qR(ρ:av):ah ρ=.ok []:=rfl
theorem mJ(f:FX)(g:aW)(ρ:av):aa f g ρ=(f ρ).bind λx=>(g ρ).bind λxs=>.ok (x::xs):=rfl
theorem ro(g:aW)(ρ:av):bY g ρ=(g ρ).bind λxs=>rO (pR xs):=rfl
theorem rA(g:aW)(ρ:av):fU g ρ=(g ρ).bind λxs=>rO (jY xs):=rfl
theorem Ek(g:D->bM)(f:FX)(ρ:av):f1 g f ρ=(f ρ).bind λa=>rO (g a):=rfl
theorem DM(g:D->D->bM)(f h:FX)(ρ:av):f2 g f h ρ=(f ρ).bind λa=>(h ρ).bind λb=>rO (g a b):=rfl
theorem DZ(f:FX)(ρ:av):fB f ρ=(f ρ).bind λd=>rO (Ko d):=rfl
theorem CP(g:List D->bM)(f:aW)(ρ:av):fL g f ρ=(f ρ).bind λds=>rO (g ds):=rfl
theorem Cb(g:cP)(f:aW)(ρ:av):fR g f ρ=(f ρ).bind g:=nr rfl
theorem qX(f:bF)(ρ:av):nD f ρ=(f ρ).bind λb=>.ok (!b):=rfl
theorem qI(f g:bF)(ρ:av):jJ f g ρ=(f ρ).bind λb=>if b then g ρ else .ok false:=rfl
theorem wU(f g:bF)(ρ:av):oq f g ρ=(f ρ).bind λb=>if b then .ok true else g ρ:=rfl
theorem kh(f:FX)(ρ:av):ed f ρ=(f ρ).bind λd=>rO (truth d):=rfl
theorem mU(f g:FX)(ρ:av):iB f g ρ=(f ρ).bind λd=>u9 d (g ρ):=rfl
theorem rg(f g:FX)(ρ:av):DC f g ρ=(f ρ).bind λd=>HL d (g ρ):=rfl
theorem ng(f:FX)(ρ:av):tZ f ρ=(f ρ).bind λa=>rO (FC a):=rfl
theorem v9(t:bF)(f g:FX)(ρ:av):JQ t f g ρ=(t ρ).bind λc=>if c then f ρ else g ρ:=rfl
theorem rN(T:String)(f:FX)(ρ:av):oh T f ρ=(f ρ).bind λa=>rO (yn T a):=rfl
theorem ql(f:FX)(ρ:av):mr f ρ=(f ρ).bind λa=>.ok (.bl (isNon a)):=rfl
theorem mS(f:FX)(ρ:av):lY f ρ=(f ρ).bind λa=>.ok (.bl (!isNon a)):=rfl
theorem rj(f:FX)(ρ:av):jH f ρ=(f ρ).bind λa=>rO (Fq a):=rfl
theorem kH(f:FX)(ρ:av):Fy f ρ=(f ρ).bind λa=>rO (zt a):=rfl
theorem rK(f:FX)(ρ:av):KR f ρ=(f ρ).bind λa=>rO (HD a):=rfl
theorem jW(g g':D->D->bM)(fa fb fc:FX)(ρ:av):iu g g' fa fb fc ρ=(fa ρ).bind λx=>(fb ρ).bind λy=>(rO (g x y)).bind λz=>u9 z ((fc ρ).bind λw=>rO (g' y w)):=rfl
theorem kA(f:FX)(ρ:av):bO f ρ=(f ρ).bind λd=>rO (nV d):=rfl
theorem ju(f:aW)(ρ:av):bh f ρ=(f ρ).bind λds=>rO (gu ds):=rfl
theorem jw(f:aW)(ρ:av):Ep f ρ=(f ρ).bind λds=>rO (vG ds):=rfl
theorem rz(f:aW)(ρ:av):xM f ρ=(f ρ).bind λds=>rO (xE ds):=rfl
theorem my(f:aW)(ρ:av):eh f ρ=(f ρ).bind λds=>rO (pV ds):=rfl
theorem rR(f:FX)(g:aW)(ρ:av):jf f g ρ=(f ρ).bind λa=>(rO (Jy a)).bind λz=>(g ρ).bind λds=>rO (nZ z ds):=rfl
theorem qz(z:Str):Jy (.str z)=some z:=rfl
theorem jq(ρ:av):aM ρ=.ok none:=rfl
theorem mM(f:FX)(ρ:av):aY f ρ=(f ρ).bind λd=>rO (ug d):=rfl
theorem jT(f:FX)(l h:av->R cR)(ρ:av):aS f l h ρ=(f ρ).bind λa=>(l ρ).bind λlo=>(h ρ).bind λhi=>rO (jd a lo hi):=rfl
theorem mG(ρ:av):bo ρ=.ok true:=rfl
theorem mV(k:Ks)(ρ:av):bz k ρ=k.nx ρ:=nr rfl
theorem dP(A B:bU)(k:Ks)(ρ:av):aq A B k ρ=A {k with nx:=B k} ρ:=nr rfl
theorem mX(f:FX)(k:Ks)(ρ:av):bu f k ρ=ll (f ρ) k ρ .ok:=nr rfl
theorem kR(k:Ks)(ρ:av):Iw k ρ=.ok .non:=nr rfl
theorem qt(c:bF)(A B:bU)(k:Ks)(ρ:av):eN c A B k ρ=ll (c ρ) k ρ λb=>if b then A k ρ else B k ρ:=nr rfl
theorem fQ(i:Nat)(f:FX)(k:Ks)(ρ:av):aL i f k ρ=ll (f ρ) k ρ λd=>k.nx (setV i d ρ):=nr rfl
theorem kF(is:List Nat)(F:bU)(k:Ks)(ρ:av):dB is F k ρ=F k (kill is ρ):=nr rfl
theorem gR(G:aW)(g:GF)(B:bU)(k:Ks)(ρ:av):iP G g B k ρ=ll (G ρ) k ρ λds=>eY g B k ds ρ:=nr rfl
theorem Cu(d:D)(x:Option S)(ρ:av):setV 0 d (x::ρ)=some (.val d)::ρ:=rfl
theorem Eo(i:Nat)(d:D)(x:Option S)(ρ:av):setV (i+1) d (x::ρ)=x::setV i d ρ:=rfl
theorem qE(ρ:av):kill [] ρ=ρ:=rfl
theorem mE(i:Nat)(is:List Nat)(ρ:av):kill (i::is) ρ=kill is (ρ.set i none):=rfl
theorem gB(B:bU)(n:Nat)(a:D):ao B 1 n [a]=B K0 (env0 n [a]):=nr rfl
theorem bB(B:bU)(n:Nat)(a b:D):ao B 2 n [a,b]=B K0 (env0 n [a,b]):=nr rfl
theorem fK(B:bU)(n:Nat)(a b c:D):ao B 3 n [a,b,c]=B K0 (env0 n [a,b,c]):=nr rfl
theorem nz(B:bU)(n:Nat)(a b c d:D):ao B 4 n [a,b,c,d]=B K0 (env0 n [a,b,c,d]):=nr rfl
theorem rh(ρ:av):inB [] ρ=[]:=rfl
theorem mC(ix:fH)(ρ:av):inB (none::ix) ρ=none::inB ix ρ:=rfl
noncomputable def pick(ρ:av)(i:Nat):Option S:=match ρ[i]? with
 |some (some (.val d))=>some (.val d)
 |_=>none
theorem mK(i:Nat)(ix:fH)(ρ:av):inB (some i::ix) ρ=pick ρ i::inB ix ρ:=rfl
theorem CU(d:D)(ρ:av):pick (some (.val d)::ρ) 0=some (.val d):=rfl
theorem Cd(x:Option S)(ρ:av)(i:Nat):pick (x::ρ) (i+1)=pick ρ i:=rfl
theorem mI(i:Nat)(f:FX)(k:Ks)(ρ:av):jc i f k ρ=ll (f ρ) k ρ λd=>k.nx (ρ.set i (some (.own d))):=nr rfl
theorem mH(i:Nat)(F:bU)(k:Ks)(ρ:av):jM i F k ρ=F k (frz i ρ):=nr rfl
theorem D3(d:D)(ρ:av):frz 0 (some (.own d)::ρ)=some (.val d)::ρ:=rfl
theorem wt(d:D)(ρ:av):frz 0 (some (.val d)::ρ)=some (.val d)::ρ:=rfl
theorem Ds(i:Nat)(x:Option S)(ρ:av):frz (i+1) (x::ρ)=x::frz i ρ:=by
 unfold frz;rw[OI];split<;>rename_i h
 ·rw[h];rfl
 ·rfl
theorem gF(i:Nat)(u:List D->List D->Option (List D))(f:aW)(k:Ks)(ρ:av){xs:List D}(h:ρ[i]?=some (some (.own (.lst xs)))):p8 i u f k ρ=ll (f ρ) k ρ λds=>(rO (u xs ds)).bind λys=>k.nx (ρ.set i (some (.own (.lst ys)))):=by
 unfold p8;rw[h]
theorem jG{xs:List D}{y:D}(h:xs.length<100000):gI xs [y]=some (xs++[y]):=by
 show(if small (xs.length+1)then some (xs++[y])else none)=_;rw[dG ‹0›];rfl
theorem qB(i j:Int):aI (.int i) (.int j)=some (.int (i+j)):=nr rfl
theorem rq(i j:Int):TG.ib (.int i) (.int j)=some (.int (i-j)):=nr rfl
theorem vM(i j:Int):Mr (.int i) (.int j)=some (.bl (decide (i<j))):=nr rfl
theorem qw(i j:Int):eU (.int i) (.int j)=some (.bl (decide (i<j))):=nr rfl
theorem qf(x y:Str):eU (.str x) (.str y)=some (.bl (decide (x.cps.toList<y.cps.toList))):=nr rfl
theorem qM(c d:Bool):Kh (.bl c) (.bl d)=some (.bl (c==d)):=nr rfl
theorem jg(c d:Bool):gq (.bl c) (.bl d)=some (.bl (!(c==d))):=nr rfl
theorem wD(i j:Int):yh (.int i) (.int j)=some (.bl (decide (i<=j))):=nr rfl
theorem wH(i j:Int):L8 (.int i) (.int j)=some (.bl (decide (j<i))):=nr rfl
theorem wW(i j:Int):IZ (.int i) (.int j)=some (.bl (decide (j<=i))):=nr rfl
theorem ra(i:Int):Fq (.int i)=some (.int (-i)):=nr rfl
theorem bf{i j:Int}(h:0<j):bI (.int i) (.int j)=some (.int (i%j)):=by
 show(if decide (0<j)then some (D.int (i%j))else none)=_;rw[decide_eq_true h];rfl
theorem cQ{i j:Int}(h:0<j)(h':j<10^200):du (.int i) (.int j)=some (.int (i/j)):=by
 show(if decide (0<j/\j<10^200)then some (D.int (i/j))else none)=_;rw[decide_eq_true ⟨h,h'⟩];rfl
theorem jx{i j:Int}(h:-(2^64)<i)(h':i<2^64):fX (.int i) (.int j)=some (.int (i*j)):=by
 show(if decide ((-(2^64)<i/\i<2^64)\/(-(2^64)<j/\j<2^64))then some (D.int (i*j))else none)=_;rw[decide_eq_true (.inl ⟨h,h'⟩)];rfl
theorem gx{i j:Int}(h:-(2^64)<j)(h':j<2^64):fX (.int i) (.int j)=some (.int (i*j)):=by
 show(if decide ((-(2^64)<i/\i<2^64)\/(-(2^64)<j/\j<2^64))then some (D.int (i*j))else none)=_;rw[decide_eq_true (.inr ⟨h,h'⟩)];rfl
theorem rE(i:Int)(n:Nat)(h:n<=1000000)(h':i.natAbs<2^64):kG (.int i) (.int n)=some (.int (i^n)):=by
 show(if decide (0<=(n:Int)/\(n:Int)<=1000000/\i.natAbs<2^64)then some (D.int (i^(n:Int).toNat))else none)=_;rw[decide_eq_true ⟨by omega,by omega,h'⟩];rfl
theorem BO:kG (.int 10) (.int 59)=some (.int (10^59)):=rE 10 59 (by decide) (by decide)
noncomputable def ub:Int:=10^59
noncomputable def HK:Int:=10^60
theorem Ik:1000000<ub/\ub*10=HK:=by decide +kernel
theorem EC:1000000<HK/\HK<10^199/\HK<10^69:=by decide +kernel
theorem Fm:kG (.int 10) (.int 59)=some (.int ub):=BO
theorem j6(i j:Int):gd (.int i) (.int j)=some (.bl (i==j)):=by unfold gd pyEq;rfl
theorem kN(i j:Str):gd (.str i) (.str j)=some (.bl (i==j)):=by unfold gd pyEq;rfl
theorem j4(i j:Bool):gd (.bl i) (.bl j)=some (.bl (i==j)):=by unfold gd pyEq;rfl
theorem kQ(i j:Int):iI (.int i) (.int j)=some (.bl (!(i==j))):=by unfold iI pyEq;rfl
theorem ky(i j:Str):iI (.str i) (.str j)=some (.bl (!(i==j))):=by unfold iI pyEq;rfl
theorem kL(i j:Bool):iI (.bl i) (.bl j)=some (.bl (!(i==j))):=by unfold iI pyEq;rfl
theorem j5{α:Type}(xs:List α)(n:Nat):jQ xs (n:Int)=xs[n]?:=by
 unfold jQ Fc;rw[if_pos ‹0›];by_cases h:n<xs.length
 ·rw[if_pos ‹0›];rfl
 ·rw[if_neg ‹0›,Pp ‹0›];rfl
theorem xr{α:Type}(a:α)(xs:List α):jQ (a::xs) 0=some a:=j5 (a::xs) 0
theorem xZ{α:Type}(a:α)(xs:List α)(n:Nat):jQ (a::xs) ((n+1:Nat):Int)=jQ xs (n:Int):=by
 rw[j5,j5,OI]
theorem Au(xs:List D)(i:Int):ak (.tup xs) (.int i)=jQ xs i:=nr rfl
theorem lQ(xs:List D)(i:Int):ak (.lst xs) (.int i)=jQ xs i:=nr rfl
theorem sG(a:D)(xs:List D):ak (.tup (a::xs)) (.int 0)=some a:=xr a xs
theorem xf(a b:D)(xs:List D):ak (.tup (a::b::xs)) (.int 1)=some b:=(xZ a _ 0).trans (xr b xs)
theorem wj(a b c:D)(xs:List D):ak (.tup (a::b::c::xs)) (.int 2)=some c:=(xZ a _ 1).trans ((xZ b _ 0).trans (xr c xs))
theorem wX(a:D)(xs:List D):ak (.lst (a::xs)) (.int 0)=some a:=xr a xs
theorem w8(a b:D)(xs:List D):ak (.lst (a::b::xs)) (.int 1)=some b:=(xZ a _ 0).trans (xr b xs)
theorem vU(a b c:D)(xs:List D):ak (.lst (a::b::c::xs)) (.int 2)=some c:=(xZ a _ 1).trans ((xZ b _ 0).trans (xr c xs))
theorem jZ(xs:List D):cO [.lst xs]=some (.int xs.length):=nr rfl
theorem kB(xs:List D):cO [.tup xs]=some (.int xs.length):=nr rfl
theorem iw(xs:List D):cE [.lst xs]=some (.tup xs):=nr rfl
theorem iy(xs:List D):cE [.tup xs]=some (.tup xs):=nr rfl
theorem qL(b:Bool):Ko (.bl b)=some b:=nr rfl
theorem jy(i:Int):ug (.int i)=some (some i):=nr rfl
theorem ig(b:Bool):truth (.bl b)=some b:=nr rfl
theorem gU(xs:List D):truth (.tup xs)=some (!xs.isEmpty):=nr rfl
theorem gS(xs:List D):truth (.lst xs)=some (!xs.isEmpty):=nr rfl
theorem qg(i j:Int):Ih [.int i,.int j]=some (.int (if j>i then j else i)):=nr rfl
theorem qW(i j:Int):IK [.int i,.int j]=some (.int (if j<i then j else i)):=nr rfl
theorem Bl(b:Bool):pO [.bl b]=some (.int (if b then 1 else 0)):=nr rfl
theorem hZ(xs:List D):nV (.lst xs)=some xs:=nr rfl
theorem ir(xs:List D):nV (.tup xs)=some xs:=nr rfl
theorem kP(k:R D):u9 (.bl true) k=k:=nr rfl
theorem jX(k:R D):u9 (.bl false) k=.ok (.bl false):=nr rfl
theorem mY(k:R D):HL (.bl true) k=.ok (.bl true):=nr rfl
theorem mD(k:R D):HL (.bl false) k=k:=nr rfl
theorem ja(a b:Bool):u9 (.bl a) (.ok (.bl b))=.ok (.bl (a&&b)):=by cases a<;>rfl
theorem mB(a b:Bool):HL (.bl a) (.ok (.bl b))=.ok (.bl (a||b)):=by cases a<;>rfl
theorem rB(b:Bool):FC (.bl b)=some (.bl (!b)):=nr rfl
theorem qC(xs:List D):HD (.lst xs)=some (.lst xs.reverse):=nr rfl
theorem cV(n:Nat)(h:n<2^62):gu [.int n]=some (bJ 0 n):=by
 show(if okR (n:Int)then some (bJ 0 ((n:Int).toNat))else none)=_
 have:okR (n:Int)=true:=decide_eq_true ⟨by omega,by omega⟩
 rw[this];rfl
theorem qJ{α:Type}(f:α->D)(h:∀a,pl (f a)=true):∀xs:List α,gH (xs.map f)=true
 |[]=>rfl
 |x::xs=>by
  show(pl (f x)&&gH (xs.map f))=true;rw[h,qJ f h xs];rfl
theorem B9(f:Str->D)(hf:f=D.str)(w:Str)(ws:au):inD (.str w) (ws.map f)=ws.any λy=>y==w:=by
 subst hf;unfold inD;rw[OY];congr 1
theorem vB(w:Str)(ws:au):G0 (.str w) (.tup (ws.map .str))=some (.bl (ws.contains w)):=by
 show(if(pl (.str w)&&gH (ws.map .str))&&cS 8 (.str w)then some (D.bl (inD (.str w) (ws.map .str)))else none)=_;rw[B9 _ rfl,qJ _ λ_=>rfl];show some (D.bl _)=_;congr 2
 induction ws with
 |nil=>rfl
 |cons x xs ih=>rw[Oj,OS,ih,Bool.beq_comm]
theorem zu(xs ys:List D)(h:xs.length+ys.length<=100000):aI (.lst xs) (.lst ys)=some (.lst (xs++ys)):=by
 show(if small (xs.length+ys.length)then some (D.lst (xs++ys))else none)=_;rw[dG h];rfl
theorem cI(xs ys:List D)(h:xs.length+ys.length<=100000):aI (.tup xs) (.tup ys)=some (.tup (xs++ys)):=by
 show(if small (xs.length+ys.length)then some (D.tup (xs++ys))else none)=_;rw[dG h];rfl
theorem mQ(xs:List D)(lo hi:cR):jd (.lst xs) lo hi=some (.lst (cutD xs lo hi)):=nr rfl
theorem mP(xs:List D)(lo hi:cR):jd (.tup xs) lo hi=some (.tup (cutD xs lo hi)):=nr rfl
theorem bX{ix:fH}{G:aW}{g:GF}{C:bF}{Fe:FX}{ρ:av}{ds r:List D}(h1:G ρ=.ok ds)(h2:ds.length<=100000)(h3:oY (inB ix ρ) g C Fe ds=.ok r):eQ ix G g C Fe ρ=.ok (.lst r):=by
 unfold eQ;rw[h1,eB,dG h2,h3];rfl
theorem nN{α:Type}{ρ:av}{g:GF}{C:bF}{Fe:FX}(mk:α->D)(p:α->Bool)(v:α->D):∀xs:List α,(∀a∈xs,∃ρ1,g (mk a) ρ=some ρ1/\C ρ1=.ok (p a)/\Fe ρ1=.ok (v a))->
  oY ρ g C Fe (xs.map mk)=.ok ((xs.filter p).map v)
 |[],_=>rfl
 |a::xs,h=>by
  obtain⟨ρ1,h1,h2,h3⟩:=h a Nh;rw[Nw,j0,h1,fj,eB,h2,jE,eB,h3,jE,eB,nN mk p v xs λb hb=>h b (Ni _ hb)];cases e:p a with
  |true=>rw[if_pos rfl,O7 e];rfl
  |false=>rw[if_neg Nn,O8 (by simp[e])]
theorem dX{α:Type}{ρ:av}{g:GF}{C:bF}{Fe:FX}(mk:α->D)(v:α->D)(xs:List α)(h:∀a∈xs,∃ρ1,g (mk a) ρ=some ρ1/\C ρ1=.ok true/\Fe ρ1=.ok (v a)):oY ρ g C Fe (xs.map mk)=.ok (xs.map v):=by
 rw[nN mk (λ_=>true) v xs h,List.filter_eq_self.mpr λ_ _=>rfl]
theorem gP{ρ:av}{g:GF}{C:bF}{Fe:FX}(P:D->Prop):∀ds:List D,(∀d∈ds,∃ρ1 v,g d ρ=some ρ1/\C ρ1=.ok true/\Fe ρ1=.ok v/\P v)->∃vs:List D,vs.length=ds.length/\(∀v∈vs,P v)/\oY ρ g C Fe ds=.ok vs
 |[],_=>⟨[],rfl,(λ_ h=>nomatch h),rfl⟩
 |d::ds,h=>by
  obtain⟨ρ1,w,h1,h2,h3,h4⟩:=h d Nh;obtain⟨ws,e1,e2,e3⟩:=gP P ds λd' hd=>h d' (Ni _ hd);refine⟨w::ws,by rw[Nv,Nv,e1],λw' hw=>?_,?_⟩
  ·rcases List.mem_cons.mp hw with z|z
   ·rw[z];exact h4
   ·exact e2 w' z
  ·rw[j0,h1,fj,eB,h2,jE,eB,h3,jE,eB,e3];rfl
theorem vQ{g:GF}{B:bU}{k:Ks}(Iv:Nat->av->Prop):∀(ds:List D)(i:Nat)(ρ:av),(∀j d ρ (k':Ks),i<=j->ds[j-i]?=some d->Iv j ρ->∃ρ1 ρ2,g d ρ=some ρ1/\Iv (j+1) ρ2/\B k' ρ1=k'.nx ρ2)->Iv i ρ->∃ρ',Iv (i+ds.length) ρ'/\eY g B k ds ρ=k.nx ρ'
 |[],i,ρ,_,h=>⟨ρ,h,rfl⟩
 |d::ds,i,ρ,st,h=>by
  obtain⟨ρ1,ρ2,e1,h2,e2⟩:=st i d ρ ⟨eY g B k ds,k.nx,eY g B k ds,k.ex⟩ (Nq _) (by rw[OV];rfl) h;obtain⟨ρ',h3,e3⟩:=vQ (g:=g) (B:=B) (k:=k) Iv ds (i+1) ρ2 (λj d' ρ k' hj hd=>st j d' ρ k' ‹0› (by rw[show j-i=(j-(i+1))+1 by omega,OI];exact hd)) h2;refine⟨ρ',?_,?_⟩
  ·rw[Nv]
   have:i+(ds.length+1)=i+1+ds.length:=(by omega);rw[this];exact h3
  ·show((rO (g d ρ)).bind λρ1=>B ⟨eY g B k ds,k.nx,eY g B k ds,k.ex⟩ ρ1)=_;rw[e1,fj,eB,e2];exact e3
theorem fm{g:GF}{B:bU}{k:Ks}{ds:List D}{ρ:av}{Q:R D->Prop}(Iv:Nat->av->Prop)(st:∀i d ρ (k':Ks),ds[i]?=some d->Iv i ρ->∃ρ1 ρ2,g d ρ=some ρ1/\Iv (i+1) ρ2/\B k' ρ1=k'.nx ρ2)(h:Iv 0 ρ)(q:∀ρ',Iv ds.length ρ'->Q (k.nx ρ')):Q (eY g B k ds ρ):=by
 obtain⟨ρ',h1,e⟩:=vQ (k:=k) Iv ds 0 ρ (λj d ρ k' _ hd=>st j d ρ k' hd) h;rw[e];rw[OO]at h1;exact q ρ' h1
theorem ax{α:Type}{xs:List α}{i:Nat}{a:α}(h:xs[i]?=some a):i<xs.length:=by
 rcases Pn i xs.length with z|z
 ·exact z
 ·rw[Pp z]at h;cases h
theorem hJ{α β:Type}(f:α->β)(xs:List α)(i:Int):jQ (xs.map f) i=(jQ xs i).map f:=by
 unfold jQ;rw[Nx];cases Fc xs.length i with
 |none=>rfl
 |some j=>simp
theorem fV{α:Type}{xs:List α}{k:Nat}(h:k<xs.length):jQ xs (k:Int)=some xs[k]:=by
 unfold jQ Fc;rw[if_pos ‹0›,if_pos ‹0›];simp[h]
theorem rM{α:Type}{xs:List α}{i:Int}(h0:0<=i)(h:i<xs.length):jQ xs i=some (xs[i.toNat]'‹0›):=by
 have e:i=((i.toNat:Nat):Int):=by omega
 conv=>lhs;rw[e]
 exact fV ‹0›
noncomputable def E9:bU:=aq (eN (fB (f2 eU (af 1) (fL cO (aa (af 0) ah)))) (bu (f2 ak (af 0) (af 1))) bz) (bu (fC (.int 0)))
theorem CI(ns:List Int)(k:Nat):ao E9 2 2 [.lst (ns.map .int),.int k]=.ok (.int (ns.getD k 0)):=by
 show(if decide ((k:Int)<((ns.map D.int).length:Int))then ll (rO (jQ (ns.map D.int) (k:Int))) _ _ .ok else .ok (.int 0))=_;rw[Nx];by_cases h:k<ns.length
 ·rw[if_pos (by simpa using h),hJ,fV h,Pu,Ph,Od h];rfl
 ·rw[if_neg (by simpa using h),Ph,Pp ‹0›];rfl
theorem zR(ns:List Int)(i:Int)(h:0<=i):∃c:Int,ao E9 2 2 [.lst (ns.map .int),.int i]=.ok (.int c):=by
 have e:i=((i.toNat:Nat):Int):=by omega
 exact⟨ns.getD i.toNat 0,by rw[e];exact CI ns i.toNat⟩
theorem oX(x:Str)(h:x.length<=1000)(lo hi:cR):∃y:Str,y.length<=x.length/\jd (.str x) lo hi=some (.str y):=by
 refine⟨⟨(cutD x.cps.toList lo hi).toArray⟩,?_,?_⟩
 ·show(cutD x.cps.toList lo hi).toArray.size<=x.cps.size;rw[Nt]
  have:=mi x.cps.toList lo hi
  rw[Array.length_toList]at this;exact this
 ·show(if small x.length then some (D.str ⟨(cutD x.cps.toList lo hi).toArray⟩)else none)=_;rw[dG ‹0›];rfl
theorem jh(x y:Str):(x++y).length=x.length+y.length:=by
 show(x.cps++y.cps).size=_;rw[Array.size_append];rfl
theorem kg(x y:Str)(h:x.length<=1000)(h':y.length<=1000):aI (.str x) (.str y)=some (.str (x++y)):=by
 show(if small (x.length+y.length)then some (D.str (x++y))else none)=_;rw[dG ‹0›];rfl
theorem vI(x:Str)(h:x.length<=1000)(i:Int)(h0:0<=i)(h1:i<x.length):∃y:Str,y.length=1/\ak (.str x) (.int i)=some (.str y):=by
 have hl:x.cps.toList.length=x.length:=by simp[Str.length]
 have hi:i<x.cps.toList.length:=by omega
 refine⟨⟨#[x.cps.toList[i.toNat]'‹0›]⟩,rfl,?_⟩;show(if small x.length then(jQ x.cps.toList i).bind λc=>some (D.str ⟨#[c]⟩)else none)=_;rw[dG ‹0›,if_pos rfl,rM h0 hi];rfl
theorem fS{lo:Int}{n:Nat}{d:D}(h:d∈bJ lo n):∃k:Nat,k<n/\d=.int (lo+k):=by
 unfold bJ at h;obtain⟨k,h1,h2⟩:=List.mem_map.mp h;exact⟨k,List.mem_range.mp h1,h2.symm⟩
theorem eE(lo:Int)(n:Nat):bJ lo n=(List.range n).map λ(k:Nat)=>D.int (lo+(k:Int)):=nr rfl
theorem aP(lo:Int)(n:Nat):(bJ lo n).length=n:=by unfold bJ;rw[Nx,Ou]
theorem zV{α:Type}{xs:List α}{lo hi:cR}{a:α}(h:a∈cutD xs lo hi):a∈xs:=List.mem_of_mem_drop (List.mem_of_mem_take h)
theorem qD{α β:Type}(f:α->β)(xs:List α)(lo hi:cR):cutD (xs.map f) lo hi=(cutD xs lo hi).map f:=by
 unfold cutD;rw[Nx,<-Pw,<-Px]
theorem pS(g:Array Nat):∀(ps:au)(a:Array Nat),(ps.foldl (λacc p=>acc++g++p.cps) a).size=a.size+ps.length*g.size+(ps.map (λy=>y.length)).sum
 |[],a=>by simp
 |p::ps,a=>by
  rw[List.foldl_cons,pS g ps,Array.size_append,Array.size_append,Nv,Nw,Py,Nat.succ_mul];show _=a.size+(ps.length*g.size+g.size)+(p.cps.size+_);omega
theorem zZ(ys:au):(Txt.join "" ys).length=(ys.map (λy=>y.length)).sum:=by
 have e0:(("":Str)).cps.size=0:=by decide +kernel
 cases ys with
 |nil=>show(List.foldl _ _ _:Array Nat).size=_;simp[Str.empty]
 |cons y ys=>
  show(List.foldl (λacc p=>acc++(("":Str)).cps++p.cps) y.cps ys).size=_;rw[pS,e0];simp[Str.length]
theorem nu:∀ys:au,kD (ys.map .str)=some ys
 |[]=>rfl
 |y::ys=>by
  show(kD (ys.map .str)).bind (λzs=>some (y::zs))=_;rw[nu ys];rfl
theorem wN(ys:au)(h:(ys.map (λy=>y.length)).sum<=1000):∃x:Str,x.length=(ys.map (λy=>y.length)).sum/\nZ "" [.lst (ys.map .str)]=some (.str x):=by
 refine⟨Txt.join "" ys,zZ ys,?_⟩;have e0:(("":Str)).length=0:=by decide +kernel
 have e:nZ "" [.lst (ys.map .str)]=(kD (ys.map .str)).bind λys=>if small ((ys.map (λy=>y.length)).sum+ys.length*(("":Str)).length)then some (.str (Txt.join "" ys))else none:=rfl
 rw[e,nu];show(if small _ then _ else _)=_;rw[e0,dG ‹0›];rfl
theorem qk(n:Nat):∀vs:List D,(∀v∈vs,∃w:Str,v=.str w/\w.length<=n)->∃ws:au,vs=ws.map .str/\∀w∈ws,w.length<=n
 |[],_=>⟨[],rfl,λ_ h=>nomatch h⟩
 |v::vs,h=>by
  obtain⟨w,rfl,hw⟩:=h v Nh;obtain⟨ws,rfl,h2⟩:=qk n vs λv' hv=>h v' (Ni _ hv);refine⟨w::ws,rfl,λw' hw'=>?_⟩;rcases List.mem_cons.mp hw' with z|z
  ·rw[z];exact hw
  ·exact h2 w' z
theorem zX(n:Nat):∀ws:au,(∀w∈ws,w.length<=n)->(ws.map (λy=>y.length)).sum<=ws.length*n
 |[],_=>by simp
 |w::ws,h=>by
  have:=zX n ws λw' h'=>h w' (Ni _ h')
  have h1:=h w Nh;rw[Nw,Py,Nv,Nat.succ_mul];omega
theorem hW{α:Type}(xs:List α)(m:Nat):cutD xs none (some (m:Int))=xs.take m:=by
 unfold cutD;rw[HT.HY,HT.JM,N7,Ow];rcases Pq m xs.length with h|h
 ·rw[Pr h]
 ·rw[Pt h,OB h,OB (Nq _)]
theorem kK{α:Type}(xs:List α)(m:Nat):cutD xs (some (m:Int)) none=xs.drop m:=by
 unfold cutD;rw[HT.HY,HT.JM];rcases Pq m xs.length with h|h
 ·rw[Pr h];exact OB (by rw[NT];exact Nq _)
 ·rw[Pt h,OV,N4,Pz h]
local macro_rules
 |`(tactic| simp! only[$xs,*])=>`(tactic| simp only[eB,wo,o6,wz,jE,fj,ge_0,DU,qQ,DI,qR,mJ,ro,rA,Ek,DM,DZ,CP,Cb,qX,qI,wU,kh,mU,rg,ng,v9,rN,ql,mS,rj,kH,rK,jW,kA,ju,jw,rz,my,jq,mM,jT,mG,mV,dP,mX,kR,qt,fQ,kF,gR,mI,mH,D3,wt,Ds,Cu,Eo,qE,mE,rh,mC,mK,CU,Cd,PB,PD,Nw,NY,N3,Ol,K0,env0,List.replicate,OW,NB,OO,Nat.reduceAdd,Nat.reduceSub,Nv,O0,qB,rq,vM,qw,qf,qM,jg,qz,wD,wH,wW,ra,j6,kN,j4,kQ,ky,kL,sG,xf,wj,wX,w8,vU,jZ,kB,iw,iy,qL,jy,ig,gU,gS,qg,qW,hZ,ir,kP,jX,mY,mD,ja,mB,rB,qC,mQ,mP,gN,if_true,if_false,PF,PH,N1,$xs,*])
theorem B1(a b c:D):pR [a,b,c]=some (.tup [a,b,c]):=nr rfl
theorem uK(a b:D):pR [a,b]=some (.tup [a,b]):=nr rfl
theorem ya(a:D):pR [a]=some (.tup [a]):=nr rfl
theorem CM:pR []=some (.tup []):=nr rfl
theorem JK(a:D):jY [a]=some (.lst [a]):=nr rfl
theorem EQ:jY []=some (.lst []):=nr rfl
theorem kW:((("word":Str))==(("number":Str)))=false:=by decide +kernel
theorem iU:((("rows":Str))==(("number":Str)))=false:=by decide +kernel
theorem ie:((("rows":Str))==(("word":Str)))=false:=by decide +kernel
noncomputable def AX:bU:=bu (fL cE (aa (eQ [none] (bO (f2 aI (f2 ak (af 0) (fC (.int 0))) (f2 ak (af 0) (fC (.int 1))))) (gN 0) bo (f2 ak (af 0) (fC (.int 1)))) ah))
theorem kinds_ok(kf rf:List D)(ps:cf)(hl:kf.length+rf.length<=100)(e:kf++rf=ps.map (λp=>.tup [.str p.1,p.2])):ao AX 1 1 [.tup [.tup kf,.tup rf]]=.ok (.tup (ps.map (·.2))):=by
 have hl':ps.length<=100:=by have:=congrArg List.length e;rw[NR,Nx]at this;omega
 have f0:eQ [none] (bO (f2 aI (f2 ak (af 0) (fC (.int 0))) (f2 ak (af 0) (fC (.int 1))))) (gN 0) bo (f2 ak (af 0) (fC (.int 1))) [some (.val (.tup [.tup kf,.tup rf]))]=.ok (.lst (ps.map (·.2))):=by
  refine bX (ds:=ps.map (λp=>.tup [.str p.1,p.2])) ?_ (by rw[Nx];omega) ?_
  ·simp! only[];rw[cI _ _ ‹0›,e];simp! only[]
  ·refine dX _ _ ps λp _=>⟨_,rfl,rfl,?_⟩
   simp! only[]
 rw[gB];unfold AX;simp! only[f0]
noncomputable def vW(m:Nat)(rows:bw):Prop:=rows.Pairwise λr s=>cp (r.take m) (s.take m)=some true
noncomputable def cnt(m:Nat)(key:List D):bw->Nat
 |[]=>0
 |r::rs=>if cp (r.take m) key=some true then cnt m key rs+1 else 0
open Classical in
noncomputable def gM(m:Nat)(row:List D):bw->bw
 |[]=>[row]
 |r::rs=>if cp (r.take m) (row.take m)=some true then r::gM m row rs else if r.take m=row.take m then r::rs else row::r::rs
theorem nR{m:Nat}{row x:List D}:∀{rows:bw},x∈gM m row rows->x=row\/x∈rows
 |[],h=>by
  unfold gM at h;exact .inl (List.mem_singleton.mp h)
 |r::rs,h=>by
  unfold gM at h;split at h
  ·rcases List.mem_cons.mp h with z|z
   ·exact .inr (List.mem_cons.mpr (.inl z))
   ·rcases nR z with z|z
    ·exact .inl z
    ·exact .inr (List.mem_cons.mpr (.inr z))
  ·split at h
   ·exact .inr h
   ·rcases List.mem_cons.mp h with z|z
    ·exact .inl z
    ·exact .inr z
theorem sM{m:Nat}{σ:cy}{row:List D}(hr:Sh σ (row.take m)):∀{rows:bw},(∀r∈rows,Sh σ (r.take m))->vW m rows->vW m (gM m row rows)
 |[],_,_=>by
  unfold gM;exact O6 _ _
 |r::rs,h,p=>by
  have p':=List.pairwise_cons.mp p;have hh:=h r Nh;unfold gM;split
  ·rename_i q;refine List.pairwise_cons.mpr ⟨λx hx=>?_,sM hr (λx hx=>h x (Ni _ hx)) p'.2⟩;rcases nR hx with z|z
   ·rw[z];exact q
   ·exact p'.1 x z
  ·split
   ·exact p
   ·rename_i q1 q2;have lt:cp (row.take m) (r.take m)=some true:=by
     rcases js hh hr with⟨z,_⟩|z|⟨z,_⟩
     ·exact absurd z q1
     ·exact absurd z q2
     ·exact z
    refine List.pairwise_cons.mpr ⟨λx hx=>?_,p⟩;rcases List.mem_cons.mp hx with z|z
    ·rw[z];exact lt
    ·exact lU hr hh (h x (Ni _ z)) lt (p'.1 x z)
theorem CV{m:Nat}{row:List D}:∀rows:bw,gM m row rows≠[]
 |[]=>by unfold gM;simp
 |r::rs=>by
  unfold gM;split
  ·simp
  ·split<;>simp
theorem tJ{m:Nat}{row:List D}:∀rows:bw,(gM m row rows).length<=rows.length+1
 |[]=>by unfold gM;simp
 |r::rs=>by
  unfold gM
  have:=tJ (m:=m) (row:=row) rs
  split
  ·simp;omega
  ·split<;>simp
theorem Bw(m:Nat)(key:List D):∀rows:bw,cnt m key rows<=rows.length
 |[]=>Nq _
 |r::rs=>by
  unfold cnt;split
  ·have:=Bw m key rs;simp;omega
  ·simp
open Classical in
theorem mw{m:Nat}{row:List D}:∀rows:bw,gM m row rows=if(rows[cnt m (row.take m) rows]?).map (List.take m)=some (row.take m)then rows else rows.take (cnt m (row.take m) rows)++row::rows.drop (cnt m (row.take m) rows)
 |[]=>by unfold gM;simp
 |r::rs=>by
  unfold gM cnt;split
  ·rw[mw rs,OI];split
   ·rfl
   ·rw[N6,N9];rfl
  ·rename_i q;rw[OH,Pu];split
   ·rename_i e;rw[if_pos (by rw[e])]
   ·rename_i e;rw[if_neg (λz=>e (Option.some.inj z))];rfl
inductive F2{α β:Type}(R:α->β->Prop):List α->List β->Prop where
 |nil:F2 R [] []
 |cons {a:α} {b:β} {as:List α} {bs:List β} (h:R a b) (t:F2 R as bs):F2 R (a::as) (b::bs)
theorem F2.length{α β:Type}{R:α->β->Prop}:∀{as:List α}{bs:List β},F2 R as bs->as.length=bs.length
 |_,_,.nil=>rfl
 |_,_,.cons _ t=>by rw[Nv,Nv,t.length]
theorem F2.imp{α β:Type}{R S:α->β->Prop}(f:∀a b,R a b->S a b):∀{as:List α}{bs:List β},F2 R as bs->F2 S as bs
 |_,_,.nil=>.nil
 |_,_,.cons h t=>.cons (f _ _ h) (t.imp f)
theorem F2.take{α β:Type}{R:α->β->Prop}:∀(m:Nat){as:List α}{bs:List β},F2 R as bs->F2 R (as.take m) (bs.take m)
 |0,_,_,_=>by rw[N4,N4];exact .nil
 |m+1,_,_,.nil=>by rw[N5,N5];exact .nil
 |m+1,_,_,.cons h t=>by rw[N6,N6];exact .cons h (t.take m)
theorem F2.drop{α β:Type}{R:α->β->Prop}:∀(m:Nat){as:List α}{bs:List β},F2 R as bs->F2 R (as.drop m) (bs.drop m)
 |0,_,_,h=>by rw[N7,N7];exact h
 |m+1,_,_,.nil=>by rw[N8,N8];exact .nil
 |m+1,_,_,.cons h t=>by rw[N9,N9];exact t.drop m
theorem F2.get{α β:Type}{R:α->β->Prop}:∀{as:List α}{bs:List β}{i:Nat}{a:α}{b:β},F2 R as bs->as[i]?=some a->bs[i]?=some b->R a b
 |_,_,0,_,_,.cons h _,e1,e2=>by cases e1;cases e2;exact h
 |_,_,i+1,_,_,.cons _ t,e1,e2=>by rw[OI]at e1 e2;exact t.get e1 e2
theorem F2.of{α β:Type}{R:α->β->Prop}:∀{as:List α}{bs:List β},as.length=bs.length->(∀(i:Nat)(a:α)(b:β),as[i]?=some a->bs[i]?=some b->R a b)->F2 R as bs
 |[],[],_,_=>.nil
 |a::as,b::bs,l,h=>.cons (h 0 a b rfl rfl) (F2.of (by simpa using l) λi x y e1 e2=>h (i+1) x y (by rw[OI];exact e1) (by rw[OI];exact e2))
theorem F2.append{α β:Type}{R:α->β->Prop}:∀{as cs:List α}{bs ds:List β},F2 R as bs->F2 R cs ds->F2 R (as++cs) (bs++ds)
 |_,_,_,_,.nil,h=>h
 |_,_,_,_,.cons h t,h'=>.cons h (t.append h')
theorem F2.mem{α β:Type}{R:α->β->Prop}{b:β}:∀{as:List α}{bs:List β},F2 R as bs->b∈bs->∃a∈as,R a b
 |_,_,.nil,h=>nomatch h
 |_,_,.cons h t,hb=>by
  rcases List.mem_cons.mp hb with rfl|z
  ·exact⟨_,Nh,h⟩
  ·obtain⟨a,h1,h2⟩:=t.mem z;exact⟨a,Ni _ h1,h2⟩
theorem lL{ρ:av}{g:GF}{C:bF}{Fe:FX}:∀(ds:List D)(P:Nat->D->Prop),(∀i d,ds[i]?=some d->∃ρ1 v,g d ρ=some ρ1/\C ρ1=.ok true/\Fe ρ1=.ok v/\P i v)->∃vs:List D,vs.length=ds.length/\(∀i v,vs[i]?=some v->P i v)/\oY ρ g C Fe ds=.ok vs
 |[],_,_=>⟨[],rfl,(λ_ _ h=>nomatch h),rfl⟩
 |d::ds,P,h=>by
  obtain⟨ρ1,w,h1,h2,h3,h4⟩:=h 0 d rfl;obtain⟨ws,e1,e2,e3⟩:=lL (ρ:=ρ) (g:=g) (C:=C) (Fe:=Fe) ds (λi v=>P (i+1) v) λi d' hd=>h (i+1) d' (by rw[OI];exact hd);refine⟨w::ws,by rw[Nv,Nv,e1],λi v hv=>?_,?_⟩
  ·cases i with
   |zero=>cases hv;exact h4
   |succ i=>rw[OI]at hv;exact e2 i v hv
  ·rw[j0,h1,fj,eB,h2,jE,eB,h3,jE,eB,e3];rfl
theorem qP:∀{σ:cy}{a b:List D},Sh σ a->Sh σ b->(pyEqL a b=true↔a=b)
 |_,_,_,.nil,.nil=>by unfold pyEqL;simp
 |_,_,_,.int i h,.int j h'=>by
  unfold pyEqL pyEq;rw[NU,qP h h'];simp
 |_,_,_,.str i h,.str j h'=>by
  unfold pyEqL pyEq;rw[NU,qP h h'];simp
theorem wG:∀{σ:cy}{a:List D},Sh σ a->gH a=true
 |_,_,.nil=>rfl
 |_,_,.int i h=>by
  show(pl (.int i)&&gH _)=true;rw[wG h];rfl
 |_,_,.str i h=>by
  show(pl (.str i)&&gH _)=true;rw[wG h];rfl
theorem uW:∀{σ:cy}{a:List D}(n:Nat),Sh σ a->a.all (cS (n+1))=true
 |_,_,_,.nil=>rfl
 |_,_,n,.int i h=>by rw[Oa,uW n h];rfl
 |_,_,n,.str i h=>by rw[Oa,uW n h];rfl
theorem Ae{σ:cy}{a b:List D}(h:Sh σ a)(h':Sh σ b):eU (.tup a) (.tup b)=some (.bl (kLt a b)):=by
 show(if jB a&&jB b then(cp a b).bind λr=>some (D.bl r)else none)=_;rw[kO h,kO h'];show((cp a b).bind λr=>some (D.bl r))=_;unfold kLt;rcases js h h' with⟨e,_⟩|e|⟨_,e,_⟩
 ·rw[e];rfl
 ·subst e;rw[gY h];rfl
 ·rw[e];rfl
theorem Fx{σ:cy}{a b:List D}(h:Sh σ a)(h':Sh σ b):iI (.tup a) (.tup b)=some (.bl (!pyEqL a b)):=by
 have e:iI (.tup a) (.tup b)=if(pl (.tup a)&&pl (.tup b))&&(cS 8 (.tup a)||cS 8 (.tup b))then some (.bl (!pyEq (.tup a) (.tup b)))else none:=rfl
 have d:cS 8 (.tup a)=true:=by show a.all (cS 7)=true;exact uW 6 h
 rw[e,bW,bW,wG h,wG h',d];show some (D.bl (!pyEq (.tup a) (.tup b)))=_;rw[pyEq]
end TG
namespace TD
open PySem PySem.Spec L2 TG TX
noncomputable def aA:bU:=aq (aL 2 (f2 bI (f2 aI (f2 aI (f2 aI (f2 fX (f2 bI (af 0) (fC (.int 2147483647))) (fC (.int 48271))) (f2 fX (f2 fX (fC (.int 7919)) (af 1)) (af 1))) (f2 fX (fC (.int 101)) (af 1))) (fC (.int 11))) (fC (.int 2147483629)))) (aq (aL 2 (f2 bI (f2 aI (f2 fX (af 2) (fC (.int 69621))) (f2 fX (fC (.int 7)) (af 1))) (fC (.int 2147483587)))) (bu (f2 aI (af 2) (f2 fX (fC (.int 2147483587)) (f2 bI (f2 du (af 0) (f2 aI (af 1) (fC (.int 2)))) (f2 kG (fC (.int 10)) (fC (.int 61))))))))
noncomputable def df(aG aJ:cP):bU:=aq (eN (fB (f2 gd (f2 ak (af 0) (fC (.int 0))) (fC (.str "number")))) (bu (f2 aI (f2 ak (af 0) (fC (.int 1))) (f2 bI (af 1) (f2 aI (f2 ib (f2 ak (af 0) (fC (.int 2))) (f2 ak (af 0) (fC (.int 1)))) (fC (.int 1)))))) bz) (aq (eN (fB (f2 gd (f2 ak (af 0) (fC (.int 0))) (fC (.str "word")))) (bu (f2 ak (f2 ak (af 0) (fC (.int 1))) (f2 bI (af 1) (fL cO (aa (f2 ak (af 0) (fC (.int 1))) ah))))) bz) (bu (fR aJ (aa (f2 ak (af 0) (fC (.int 1))) (aa (eQ [none,some 1] (bh (aa (f2 aI (fL pO (aa (f2 ak (af 0) (fC (.int 2))) ah)) (f2 bI (af 1) (fC (.int 3)))) ah)) (gN 0) bo (fR (ao aA 2 3) (aa (af 1) (aa (f2 aI (fC (.int 30)) (af 0)) ah)))) ah)))))
noncomputable def dH(aG aJ:cP):bU:=aq (aL 2 (eQ [none,none] (bO (f2 aI (f2 ak (af 0) (fC (.int 0))) (f2 ak (af 0) (fC (.int 1))))) (gT 2 (o9 [0,1])) bo (af 1))) (aq (aL 3 (fL cO (aa (f2 ak (af 0) (fC (.int 0))) ah))) (aq (jc 4 (fU ah)) (dB [0] (aq (iP (bO (af 1)) (gN 5) (aq (aL 6 (fL cE (aa (eQ [none,some 2,some 5] (bh (aa (fL cO (aa (af 2) ah)) ah)) (gN 0) bo (fR aG (aa (f2 ak (af 1) (af 0)) (aa (fR (ao aA 2 3) (aa (af 2) (aa (f2 aI (fC (.int 40)) (af 0)) ah))) ah)))) ah))) (aq (aL 7 (fC (.int 0))) (dB [0,1,5] (aq (nO 200 (dy [4] (jJ (fB (f2 eU (af 7) (fL cO (aa (af 4) ah)))) (fB (f2 eU (aS (f2 ak (af 4) (af 7)) aM (aY (af 3))) (aS (af 6) aM (aY (af 3))))))) (aL 7 (f2 aI (af 7) (fC (.int 1))))) (aq (eN (dy [4] (oq (fB (f2 gd (af 7) (fL cO (aa (af 4) ah)))) (fB (f2 iI (aS (f2 ak (af 4) (af 7)) aM (aY (af 3))) (aS (af 6) aM (aY (af 3))))))) (p8 4 xI (aa (af 7) (aa (af 6) ah))) bz) (dB [5,6,7] bz))))))) (jM 4 (bu (fL cE (aa (af 4) ah))))))))
mutual
noncomputable def aG:Nat->cP
 |0=>λ_=>un
 |n+1=>ao (df (aG n) (aJ n)) 2 2
noncomputable def aJ:Nat->cP
 |0=>λ_=>un
 |n+1=>ao (dH (aG n) (aJ n)) 2 8
end
theorem cg(n:Nat):aG (n+1)=ao (df (aG n) (aJ n)) 2 2:=by rw[aG]
theorem iF:∀n:Nat,Ar 2 (aG n)
 |0=>λ_ h=>absurd (by rw[aG]) h
 |n+1=>by rw[cg];exact jL
theorem dA(n:Nat):aJ (n+1)=ao (dH (aG n) (aJ n)) 2 8:=by rw[aJ]
theorem iA:∀n:Nat,Ar 2 (aJ n)
 |0=>λ_ h=>absurd (by rw[aJ]) h
 |n+1=>by rw[dA];exact jL
noncomputable def cM:bU:=aq (aL 1 (fC (.str "abcdefghijklmnopqrstuvwxyz"))) (aq (aL 2 (f2 aI (fC (.int 1)) (f2 bI (f2 du (af 0) (fC (.int 4))) (fC (.int 3))))) (aq (eN (fB (f2 gd (f2 bI (af 0) (fC (.int 4))) (fC (.int 1)))) (aL 2 (f2 aI (fC (.int 1)) (f2 bI (f2 du (af 0) (fC (.int 4))) (fC (.int 12))))) bz) (aq (aL 3 (jf (fC (.str "")) (aa (eQ [none,some 1,some 0] (bh (aa (fC (.int 8)) ah)) (gN 0) bo (f2 ak (af 1) (f2 bI (fR (ao aA 2 3) (aa (af 2) (aa (f2 aI (fC (.int 20)) (af 0)) ah))) (fC (.int 26))))) ah))) (aq (eN (jJ (fB (f2 gd (f2 bI (f2 du (af 0) (fC (.int 48))) (fC (.int 4))) (fC (.int 1)))) (fB (f2 eU (af 2) (fC (.int 10))))) (bu (fL cE (aa (eQ [none,some 3] (bh (aa (af 2) ah)) (gN 0) bo (aS (af 1) aM (aY (af 0)))) ah))) bz) (aq (aL 4 (f2 bI (f2 du (af 0) (fC (.int 192))) (fC (.int 8)))) (aq (aL 5 (f2 bI (f2 du (af 0) (fC (.int 1536))) (f2 ib (fC (.int 27)) (af 2)))) (aq (aL 6 (f2 aI (f2 aI (af 4) (fC (.int 1))) (f2 bI (f2 du (af 0) (fC (.int 7))) (f2 ib (fC (.int 8)) (af 4))))) (bu (fL cE (aa (eQ [none,some 3,some 4,some 1,some 5,some 6] (bh (aa (af 2) ah)) (gN 0) bo (f2 aI (f2 aI (aS (af 1) aM (aY (af 2))) (f2 ak (af 3) (f2 aI (af 4) (af 0)))) (aS (af 1) (aY (f2 aI (af 2) (fC (.int 1)))) (aY (af 5))))) ah))))))))))
noncomputable def cA:bU:=aq (aL 2 (fC (.str "abcdefghijklmnopqrstuvwxyz"))) (aq (aL 3 (eQ [none,some 2,some 0] (bh (aa (fC (.int 8)) ah)) (gN 0) bo (f2 ak (af 1) (f2 bI (fR (ao aA 2 3) (aa (af 2) (aa (af 0) ah))) (fC (.int 26)))))) (aq (eN (jJ (fB (f2 gd (f2 bI (f2 du (af 0) (fC (.int 5))) (fC (.int 4))) (fC (.int 1)))) (fB (f2 eU (af 1) (fC (.int 9))))) (bu (eQ [none,some 3] (bh (aa (af 1) ah)) (gN 0) bo (jf (fC (.str "")) (aa (aS (af 1) aM (aY (f2 aI (af 0) (fC (.int 1))))) ah)))) bz) (aq (aL 4 (f2 aI (fC (.int 1)) (f2 bI (af 0) (fC (.int 8))))) (aq (aL 5 (f2 bI (f2 du (af 0) (fC (.int 8))) (af 4))) (aq (aL 6 (f2 ak (fU (aa (fC (.int 1)) (aa (fC (.int 5)) (aa (fC (.int 7)) (aa (fC (.int 11)) (aa (fC (.int 17)) (aa (fC (.int 25)) ah))))))) (f2 bI (fR (ao aA 2 3) (aa (af 0) (aa (fC (.int 9)) ah))) (fC (.int 6))))) (aq (jc 7 (fU ah)) (aq (iP (bh (aa (af 1) ah)) (gN 8) (aq (aL 9 (f2 ak (af 2) (f2 bI (f2 aI (f2 du (af 0) (fC (.int 64))) (f2 fX (af 8) (af 6))) (fC (.int 26))))) (aq (p8 7 gI (aa (f2 aI (f2 aI (jf (fC (.str "")) (aa (aS (af 3) aM (aY (af 5))) ah)) (af 9)) (jf (fC (.str "")) (aa (aS (af 3) (aY (f2 aI (af 5) (fC (.int 1)))) (aY (af 4))) ah))) ah)) (dB [8,9] bz)))) (jM 7 (bu (af 7))))))))))
noncomputable def eJ:bU:=aq (aL 1 (fR (ao cA 2 10) (aa (af 0) (aa (fC (.int 2)) ah)))) (aq (aL 2 (f2 ib (f2 bI (f2 du (af 0) (fC (.int 9))) (fC (.int 5))) (fC (.int 2)))) (aq (aL 3 (bY (aa (bY (aa (f2 ak (af 1) (fC (.int 0))) (aa (bY (aa (fC (.str "number")) (aa (af 2) (aa (f2 aI (af 2) (f2 bI (f2 du (af 0) (fC (.int 45))) (fC (.int 4)))) ah)))) ah))) ah))) (aq (eN (fB (f2 gd (f2 bI (af 0) (fC (.int 2))) (fC (.int 1)))) (bu (bY (aa (af 3) (aa (bY ah) ah)))) bz) (bu (bY (aa (af 3) (aa (bY (aa (bY (aa (f2 ak (af 1) (fC (.int 1))) (aa (bY (aa (fC (.str "word")) (aa (fR (ao cM 1 7) (aa (f2 du (af 0) (fC (.int 2))) ah)) ah))) ah))) ah)) ah)))))))
noncomputable def ce:bU:=aq (aL 2 (f2 du (af 0) (fC (.int 6)))) (aq (eN (fB (f2 eU (f2 bI (af 0) (fC (.int 6))) (fC (.int 2)))) (aq (aL 3 (f2 ib (f2 bI (af 2) (fC (.int 25))) (fC (.int 12)))) (bu (bY (aa (fC (.str "number")) (aa (af 3) (aa (f2 aI (af 3) (f2 bI (f2 du (af 2) (fC (.int 25))) (fC (.int 10)))) ah)))))) bz) (aq (eN (fB (f2 gd (f2 bI (af 0) (fC (.int 6))) (fC (.int 2)))) (aq (aL 3 (f2 ib (f2 bI (af 2) (f2 fX (fC (.int 2)) (f2 kG (fC (.int 10)) (fC (.int 59))))) (f2 kG (fC (.int 10)) (fC (.int 59))))) (bu (bY (aa (fC (.str "number")) (aa (af 3) (aa (f2 aI (af 3) (f2 bI (f2 du (af 2) (fC (.int 3))) (f2 kG (fC (.int 10)) (fC (.int 59))))) ah)))))) bz) (aq (eN (jJ (fB (f2 gd (f2 bI (af 0) (fC (.int 6))) (fC (.int 5)))) (ed (af 1))) (bu (bY (aa (fC (.str "rows")) (aa (fR (ao eJ 1 4) (aa (af 2) ah)) (aa (f2 gd (f2 bI (af 2) (fC (.int 2))) (fC (.int 1))) ah))))) bz) (bu (bY (aa (fC (.str "word")) (aa (fR (ao cM 1 7) (aa (af 2) ah)) ah)))))))
noncomputable def bQ:bU:=aq (eN (fB (f2 eU (af 1) (fL cO (aa (af 0) ah)))) (bu (f2 ak (af 0) (af 1))) bz) (bu (fC (.int 0)))
noncomputable def eR:bU:=bu (fL cE (aa (eQ [none] (bO (f2 aI (f2 ak (af 0) (fC (.int 0))) (f2 ak (af 0) (fC (.int 1))))) (gN 0) bo (f2 ak (af 0) (fC (.int 0)))) ah))
noncomputable def bT:bU:=bu (f2 aI (f2 aI (aS (af 0) aM (aY (af 1))) (af 2)) (aS (af 0) (aY (f2 aI (af 1) (fC (.int 1)))) aM))
noncomputable def fF:bU:=bu (f2 eU (af 1) (fL cO (aa (f2 ak (af 0) (fC (.int 0))) ah)))
noncomputable def bC:bU:=aq (eN (ed (fR (ao fF 2 2) (aa (af 0) (aa (af 1) ah)))) (bu (bY (aa (fR (ao bT 3 3) (aa (f2 ak (af 0) (fC (.int 0))) (aa (af 1) (aa (af 2) ah)))) (aa (f2 ak (af 0) (fC (.int 1))) ah)))) bz) (bu (bY (aa (f2 ak (af 0) (fC (.int 0))) (aa (fR (ao bT 3 3) (aa (f2 ak (af 0) (fC (.int 1))) (aa (f2 ib (af 1) (fL cO (aa (f2 ak (af 0) (fC (.int 0))) ah))) (aa (af 2) ah)))) ah))))
noncomputable def dY:bU:=bu (fL cE (aa (eQ [none] (bO (f2 aI (f2 ak (af 0) (fC (.int 0))) (f2 ak (af 0) (fC (.int 1))))) (gN 0) bo (f2 ak (af 0) (fC (.int 1)))) ah))
noncomputable def hX(bN:cP):bU:=aq (eN (fB (f2 gd (f2 ak (af 0) (fC (.int 0))) (fC (.str "number")))) (bu (f2 ak (af 0) (fC (.int 1)))) bz) (aq (eN (fB (f2 gd (f2 ak (af 0) (fC (.int 0))) (fC (.str "word")))) (bu (f2 ak (f2 ak (af 0) (fC (.int 1))) (fC (.int 0)))) bz) (aq (eN (nD (ed (f2 ak (af 0) (fC (.int 2))))) (bu (bY ah)) bz) (bu (bY (aa (fL cE (aa (eQ [none] (bO (fR (ao dY 1 1) (aa (f2 ak (af 0) (fC (.int 1))) ah))) (gN 0) bo (fR bN (aa (af 0) ah))) ah)) ah)))))
noncomputable def bN:Nat->cP
 |0=>λ_=>un
 |n+1=>ao (hX (bN n)) 1 1
theorem dJ(n:Nat):bN (n+1)=ao (hX (bN n)) 1 1:=by rw[bN]
theorem nU:∀n:Nat,Ar 1 (bN n)
 |0=>λ_ h=>absurd (by rw[bN]) h
 |n+1=>by rw[dJ];exact jL
noncomputable def fw:bU:=bu (f2 ak (fR (bN 12) (aa (bY (aa (fC (.str "rows")) (aa (af 0) (aa (fC (.bl true)) ah)))) ah)) (fC (.int 0)))
noncomputable def dr:bU:=bu (f2 ak (f2 ak (f2 aI (f2 ak (af 0) (fC (.int 0))) (f2 ak (af 0) (fC (.int 1)))) (af 1)) (fC (.int 1)))
noncomputable def bx:bU:=aq (aL 3 (f2 aI (f2 ak (af 0) (fC (.int 0))) (f2 ak (af 0) (fC (.int 1))))) (bu (fL yg (aa (eQ [none,none,some 1,some 2] (eh (aa (af 3) ah)) (gT 2 (o9 [0,1])) bo (iB (f2 gd (f2 ak (af 1) (fC (.int 0))) (af 2)) (f2 gD (af 0) (af 3)))) ah)))
end TD
namespace TD
open PySem PySem.Spec L2 TG
local macro_rules
 |`(tactic| simp! only[$xs,*])=>`(tactic| simp only[eB,wo,o6,wz,jE,fj,ge_0,DU,qQ,DI,qR,mJ,ro,rA,Ek,DM,DZ,CP,Cb,qX,qI,wU,kh,mU,rg,ng,v9,rN,ql,mS,rj,kH,rK,jW,kA,ju,jw,rz,my,jq,mM,jT,mG,mV,dP,mX,kR,qt,fQ,kF,gR,mI,mH,D3,wt,Ds,Cu,Eo,qE,mE,rh,mC,mK,CU,Cd,PB,PD,Nw,NY,N3,Ol,K0,env0,List.replicate,OW,NB,OO,Nat.reduceAdd,Nat.reduceSub,Nv,O0,qB,rq,vM,qw,qf,qM,jg,qz,wD,wH,wW,ra,j6,kN,j4,kQ,ky,kL,sG,xf,wj,wX,w8,vU,jZ,kB,iw,iy,qL,jy,ig,gU,gS,qg,qW,hZ,ir,kP,jX,mY,mD,ja,mB,rB,qC,mQ,mP,gN,if_true,if_false,PF,PH,N1,$xs,*])
theorem Jz(ns:List Int)(i:Int)(h:0<=i):∃c:Int,ao bQ 2 2 [.lst (ns.map .int),.int i]=.ok (.int c):=zR ns i h
noncomputable def Ju:Int:=10^61
theorem Hk:kG (.int 10) (.int 61)=some (.int Ju):=rE 10 61 (by decide) (by decide)
theorem Ir:1000000<Ju:=by decide +kernel
theorem dg(c j:Int)(h0:0<=j)(h1:j<=1000):∃r:Int,0<=r/\ao aA 2 3 [.int c,.int j]=.ok (.int r):=by
 have p:=Ir;have m1:=λi=>gx (i:=i) (j:=48271) (by decide) (by decide);have m2:=λi=>jx (i:=7919) (j:=i) (by decide) (by decide);have m3:=λi=>gx (i:=i) (j:=j) ‹0› ‹0›;have m4:=λi=>jx (i:=101) (j:=i) (by decide) (by decide);have m5:=λi=>gx (i:=i) (j:=69621) (by decide) (by decide);have m6:=λi=>jx (i:=7) (j:=i) (by decide) (by decide);have m7:=λi=>jx (i:=2147483587) (j:=i) (by decide) (by decide);have g1:=λi=>bf (i:=i) (show(0:Int)<2147483647 by decide);have g2:=λi=>bf (i:=i) (show(0:Int)<2147483629 by decide);have g3:=λi=>bf (i:=i) (show(0:Int)<2147483587 by decide);have g4:=λi=>bf (i:=i) (show(0:Int)<Ju by omega);have d1:=λi=>cQ (i:=i) (j:=j+2) ‹0› (by
  have:(10:Int)^200>1000000:=by decide +kernel
  omega)
 rw[bB];unfold aA;simp! only[m1,m2,m3,m4,m5,m6,m7,g1,g2,g3,g4,d1,Hk];refine⟨_,?_,rfl⟩;have q1:=PJ (((c%2147483647*48271+7919*j*j+101*j+11)%2147483629)*69621+7*j) (show(2147483587:Int)≠0 by decide);have q2:=PJ (c/(j+2)) (show Ju≠0 by omega);omega
theorem vR:∀bs:cy,allB (bs.map .bl)=some (bs.all id)
 |[]=>rfl
 |b::bs=>by
  show(allB (bs.map .bl)).bind (λc=>some (b&&c))=_;rw[vR bs];rfl
theorem DE(bs:cy):ua [.lst (bs.map .bl)]=some (.bl (bs.all id)):=by
 have e:ua [.lst (bs.map .bl)]=(allB (bs.map .bl)).bind λb=>some (D.bl b):=rfl;rw[e,vR];rfl
theorem rZ(x:Str)(h:x.length<=1000)(i:Int)(h0:0<=i)(h1:i<x.length):ak (.str x) (.int i)=some (.str ⟨#[x.cps.toList.getD i.toNat 0]⟩):=by
 have hl:x.cps.toList.length=x.length:=by simp[Str.length]
 have hi:i<x.cps.toList.length:=by omega
 show(if small x.length then(jQ x.cps.toList i).bind λc=>some (D.str ⟨#[c]⟩)else none)=_;have e:x.cps.toList.getD i.toNat 0=x.cps.toList[i.toNat]'‹0›:=by
  rw[Ph,Od ‹0›];rfl
 rw[dG ‹0›,if_pos rfl,rM h0 hi,e];rfl
theorem vO{a b x y:Str}(h:a++x++b=a++y++b):x=y:=by
 have h1:(a.cps++x.cps)++b.cps=(a.cps++y.cps)++b.cps:=congrArg Str.cps h;have h2:=congrArg Array.toList h1;rw[Array.toList_append,Array.toList_append,Array.toList_append,Array.toList_append]at h2;have h3:=List.append_cancel_left (List.append_cancel_right h2);exact sq h3
theorem w6(n:Nat):∀vs:List D,(∀v∈vs,∃w:Str,v=.str w/\w.length=n)->∃ws:au,vs=ws.map .str/\(ws.map λy=>y.length).sum=n*ws.length
 |[],_=>⟨[],rfl,rfl⟩
 |v::vs,h=>by
  obtain⟨w,rfl,hw⟩:=h v Nh;obtain⟨ws,rfl,h2⟩:=w6 n vs λv' hv=>h v' (Ni _ hv);refine⟨w::ws,rfl,?_⟩;rw[Nw,Py,h2,hw,Nv,Nat.mul_succ,OX]
theorem Ai(c:Int):∃ws:au,ws≠[]/\ws.length<=12/\(∀w∈ws,w.length<=20)/\ws.Nodup/\ao cM 1 7 [.int c]=.ok (.tup (ws.map .str)):=by
 have LL:(("abcdefghijklmnopqrstuvwxyz":Str)).length=26:=by decide +kernel
 have LN:(("abcdefghijklmnopqrstuvwxyz":Str)).cps.toList.Nodup:=by decide +kernel
 generalize hL:("abcdefghijklmnopqrstuvwxyz":Str)=L at LL LN;have r8:gu [.int 8]=some (bJ 0 8):=cV 8 (by decide);have g3:=λi=>bf (i:=i) (show(0:Int)<3 by decide);have g4:=λi=>bf (i:=i) (show(0:Int)<4 by decide);have g8:=λi=>bf (i:=i) (show(0:Int)<8 by decide);have g12:=λi=>bf (i:=i) (show(0:Int)<12 by decide);have g26:=λi=>bf (i:=i) (show(0:Int)<26 by decide);have d4:=λi=>cQ (i:=i) (show(0:Int)<4 by decide) (show(4:Int)<10^200 by decide);have d7:=λi=>cQ (i:=i) (show(0:Int)<7 by decide) (show(7:Int)<10^200 by decide);have d48:=λi=>cQ (i:=i) (show(0:Int)<48 by decide) (show(48:Int)<10^200 by decide);have d192:=λi=>cQ (i:=i) (show(0:Int)<192 by decide) (show(192:Int)<10^200 by decide);have d1536:=λi=>cQ (i:=i) (show(0:Int)<1536 by decide) (show(1536:Int)<10^200 by decide);have full:∀r:Int,∃x:Str,x.length=8/\jf (fC (.str "")) (aa (eQ [none,some 1,some 0] (bh (aa (fC (.int 8)) ah)) (gN 0) bo (f2 ak (af 1) (f2 bI (fR (ao aA 2 3) (aa (af 2) (aa (f2 aI (fC (.int 20)) (af 0)) ah))) (fC (.int 26))))) ah) [some (.val (.int c)),some (.val (.str L)),some (.val (.int r)),none,none,none,none]=.ok (.str x):=by
  intro r;obtain⟨vs,v1,v2,v3⟩:∃vs:List D,vs.length=(bJ 0 8).length/\(∀v∈vs,∃w:Str,v=.str w/\w.length=1)/\oY (inB [none,some 1,some 0] [some (.val (.int c)),some (.val (.str L)),some (.val (.int r)),none,none,none,none]) (gN 0) bo (f2 ak (af 1) (f2 bI (fR (ao aA 2 3) (aa (af 2) (aa (f2 aI (fC (.int 20)) (af 0)) ah))) (fC (.int 26)))) (bJ 0 8)=.ok vs:=by
   refine gP (λv=>∃w:Str,v=.str w/\w.length=1) _ λd hd=>?_;obtain⟨k,hk,rfl⟩:=fS hd;obtain⟨q,hq,eq⟩:=dg c (20+(0+(k:Int))) ‹0› ‹0›;obtain⟨y,hy,e1⟩:=vI L ‹0› (q%26) ‹0› ‹0›;refine⟨_,_,rfl,rfl,?_,y,rfl,hy⟩;simp! only[eq,g26,e1]
  obtain⟨ws,rfl,s1⟩:=w6 1 vs v2;rw[Nx,aP]at v1;obtain⟨x,hx,ex⟩:=wN ws ‹0›;refine⟨x,by omega,?_⟩;have f0:=bX (ix:=[none,some 1,some 0]) (G:=bh (aa (fC (.int 8)) ah)) (ρ:=[some (.val (.int c)),some (.val (.str L)),some (.val (.int r)),none,none,none,none]) (by simp! only[r8]) (by rw[aP];decide) v3;simp! only[rR,f0,ex]
 obtain⟨r,r1,r2,er⟩:∃r:Nat,1<=r/\r<=12/\(if c%4=1 then 1+c/4%12 else 1+c/4%3)=(r:Int):=by
  by_cases h:c%4=1
  ·exact⟨(1+c/4%12).toNat,by omega,by omega,by rw[if_pos h];omega⟩
  ·exact⟨(1+c/4%3).toNat,by omega,by omega,by rw[if_neg h];omega⟩
 obtain⟨x,hx,ex⟩:=full r;have er1:=cV r ‹0›;obtain⟨T,hT⟩:∃T:bU,T=(aq (eN (jJ (fB (f2 gd (f2 bI (f2 du (af 0) (fC (.int 48))) (fC (.int 4))) (fC (.int 1)))) (fB (f2 eU (af 2) (fC (.int 10))))) (bu (fL cE (aa (eQ [none,some 3] (bh (aa (af 2) ah)) (gN 0) bo (aS (af 1) aM (aY (af 0)))) ah))) bz) (aq (aL 4 (f2 bI (f2 du (af 0) (fC (.int 192))) (fC (.int 8)))) (aq (aL 5 (f2 bI (f2 du (af 0) (fC (.int 1536))) (f2 ib (fC (.int 27)) (af 2)))) (aq (aL 6 (f2 aI (f2 aI (af 4) (fC (.int 1))) (f2 bI (f2 du (af 0) (fC (.int 7))) (f2 ib (fC (.int 8)) (af 4))))) (bu (fL cE (aa (eQ [none,some 3,some 4,some 1,some 5,some 6] (bh (aa (af 2) ah)) (gN 0) bo (f2 aI (f2 aI (aS (af 1) aM (aY (af 2))) (f2 ak (af 3) (f2 aI (af 4) (af 0)))) (aS (af 1) (aY (f2 aI (af 2) (fC (.int 1)))) (aY (af 5))))) ah))))))):=⟨_,rfl⟩
 have rest:∃ws:au,ws≠[]/\ws.length<=12/\(∀w∈ws,w.length<=20)/\ws.Nodup/\T K0 [some (.val (.int c)),some (.val (.str L)),some (.val (.int r)),some (.val (.str x)),none,none,none]=.ok (.tup (ws.map .str)):=by
  rw[hT];by_cases hb:(c/48%4==1&&decide ((r:Int)<10))=true
  ·obtain⟨y,hy⟩:∃y:Nat->Str,y=λk=>(⟨(x.cps.toList.take k).toArray⟩:Str):=⟨_,rfl⟩
   have yl:∀k,(y k).length=min k 8:=λk=>by
    rw[hy];show(x.cps.toList.take k).toArray.size=_
    have:x.cps.size=8:=hx
    rw[Nt,NE,Array.length_toList,this]
   have v3:oY (inB [none,some 3] [some (.val (.int c)),some (.val (.str L)),some (.val (.int r)),some (.val (.str x)),none,none,none]) (gN 0) bo (aS (af 1) aM (aY (af 0))) (bJ 0 r)=.ok ((List.range r).map λk=>.str (y k)):=by
    rw[eE];refine dX (λk:Nat=>D.int (0+(k:Int))) (λk=>.str (y k)) (List.range r) λk hk=>⟨_,rfl,rfl,?_⟩
    have e1:jd (.str x) none (some (0+(k:Int)))=some (.str (y k)):=by
     have z:jd (.str x) none (some (0+(k:Int)))=if small x.length then some (.str ⟨(cutD x.cps.toList none (some (0+(k:Int)))).toArray⟩)else none:=rfl
     rw[z,dG ‹0›,PK,hW,hy];rfl
    simp! only[e1]
   have hr:decide ((r:Int)<10)=true:=(by rw[NU]at hb;exact hb.2);have hr:=of_decide_eq_true hr;have f0:=bX (ix:=[none,some 3]) (G:=bh (aa (af 2) ah)) (ρ:=[some (.val (.int c)),some (.val (.str L)),some (.val (.int r)),some (.val (.str x)),none,none,none]) (by simp! only[er1]) (by rw[aP];omega) v3;have em:((List.range r).map y).map D.str=(List.range r).map λk=>.str (y k):=(by rw[PL];rfl);refine⟨(List.range r).map y,λh=>?_,by rw[Nx,Ou];omega,λw hw'=>?_,?_,?_⟩
   ·have:=congrArg List.length h
    rw[Nx,Ou]at this;simp at this;omega
   ·obtain⟨k,_,rfl⟩:=List.mem_map.mp hw';rw[yl];omega
   ·refine List.pairwise_map.mpr (List.nodup_range.imp_of_mem λ{i j} hi hj hne e=>hne ?_)
    have:=congrArg Str.length e
    rw[yl,yl]at this
    have:=List.mem_range.mp hi
    have:=List.mem_range.mp hj
    omega
   rw[em];rw[NU]at hb;simp! only[d48,g4,hb.1,hb.2,f0]
  ·have hb':(c/48%4==1&&decide ((r:Int)<10))=false:=(by simpa using hb);generalize ha:c/192%8=a;have ha1:0<=a/\a<=7:=(by omega);have m1:=λi=>bf (i:=i) (show(0:Int)<27-r by omega);have m2:=λi=>bf (i:=i) (show(0:Int)<8-a by omega);have b1:=PJ (c/1536) (show 27-(r:Int)≠0 by omega);have b2:=PN (c/1536) (show 0<27-(r:Int)by omega);generalize hfi:c/1536%(27-(r:Int))=fi at b1 b2;generalize he:a+1+c/7%(8-a)=en;obtain⟨y1,hy1,e1⟩:=oX x ‹0› none (some a);obtain⟨y3,hy3,e3⟩:=oX x ‹0› (some (a+1)) (some en);obtain⟨sg,hsg⟩:∃sg:Nat->Str,sg=λ(j:Nat)=>(⟨#[L.cps.toList.getD (fi+(0+(j:Int))).toNat 0]⟩:Str):=⟨_,rfl⟩
   have sg_len:∀j,(sg j).length=1:=λj=>by rw[hsg];rfl
   have sg_ne:∀i j:Nat,i<r->j<r->sg i=sg j->i=j:=λi j hi hj e=>by
    rw[hsg]at e;have hl:L.cps.toList.length=26:=(by rw[Array.length_toList];exact LL);have e1:L.cps.toList.getD (fi+(0+(i:Int))).toNat 0=L.cps.toList.getD (fi+(0+(j:Int))).toNat 0:=by
     have:=congrArg (λz:Str=>z.cps.toList) e
     simpa using this
    have ha:(fi+(0+(i:Int))).toNat<L.cps.toList.length:=(by omega);have hb:(fi+(0+(j:Int))).toNat<L.cps.toList.length:=(by omega);rw[Ph,Ph,Od ha,Od hb,OC,OC]at e1;have pw:=List.pairwise_iff_getElem.mp LN;rcases Nat.lt_trichotomy i j with q|q|q
    ·exact absurd e1 (pw _ _ ha hb ‹0›)
    ·exact q
    ·exact absurd e1.symm (pw _ _ hb ha ‹0›)
   have v3:oY (inB [none,some 3,some 4,some 1,some 5,some 6] [some (.val (.int c)),some (.val (.str L)),some (.val (.int r)),some (.val (.str x)),some (.val (.int a)),some (.val (.int fi)),some (.val (.int en))]) (gN 0) bo (f2 aI (f2 aI (aS (af 1) aM (aY (af 2))) (f2 ak (af 3) (f2 aI (af 4) (af 0)))) (aS (af 1) (aY (f2 aI (af 2) (fC (.int 1)))) (aY (af 5)))) (bJ 0 r)=.ok ((List.range r).map λk=>.str (y1++sg k++y3)):=by
    rw[eE];refine dX (λk:Nat=>D.int (0+(k:Int))) (λk=>.str (y1++sg k++y3)) (List.range r) λk hk=>⟨_,rfl,rfl,?_⟩
    have hk:=List.mem_range.mp hk;have e2:ak (.str L) (.int (fi+(0+(k:Int))))=some (.str (sg k)):=(by rw[hsg];exact rZ L ‹0› _ ‹0› ‹0›);have sl:=sg_len k;have a1:=kg y1 (sg k) ‹0› ‹0›;have a2:=kg (y1++sg k) y3 (by rw[jh];omega) ‹0›;simp! only[e1,e2,e3,a1,a2]
   have f0:=bX (ix:=[none,some 3,some 4,some 1,some 5,some 6]) (G:=bh (aa (af 2) ah)) (ρ:=[some (.val (.int c)),some (.val (.str L)),some (.val (.int r)),some (.val (.str x)),some (.val (.int a)),some (.val (.int fi)),some (.val (.int en))]) (by simp! only[er1]) (by rw[aP];omega) v3;have em:((List.range r).map λk=>y1++sg k++y3).map D.str=(List.range r).map λk=>.str (y1++sg k++y3):=(by rw[PL];rfl);refine⟨(List.range r).map λk=>y1++sg k++y3,λh=>?_,by rw[Nx,Ou];omega,λw hw'=>?_,?_,?_⟩
   ·have:=congrArg List.length h
    rw[Nx,Ou]at this;simp at this;omega
   ·obtain⟨k,_,rfl⟩:=List.mem_map.mp hw';rw[jh,jh,sg_len];omega
   ·refine List.pairwise_map.mpr (List.nodup_range.imp_of_mem λ{i j} hi hj hne e=>hne ?_);exact sg_ne i j (List.mem_range.mp hi) (List.mem_range.mp hj) (vO e)
   rw[em];cases hx1:(c/48%4==1)with
   |false=>simp! only[d48,g4,hx1,d192,g8,ha,d1536,m1,hfi,m2,d7,he,f0]
   |true=>
    rw[hx1,PP]at hb';simp! only[d48,g4,hx1,hb',d192,g8,ha,d1536,m1,hfi,m2,d7,he,f0]
 obtain⟨ws,w1,w2,wl,wn,w3⟩:=rest;refine⟨ws,w1,w2,wl,wn,?_⟩;rw[gB];unfold cM;rw[<-hT];simp only[K0]at w3;by_cases h4:c%4=1
 ·rw[if_pos h4]at er;simp! only[hL,d4,g3,g4,g12,h4,BEq.rfl,er,ex,w3]
 ·rw[if_neg h4]at er;have h4':(c%4==1)=false:=by simp[h4]
  simp! only[hL,d4,g3,g4,g12,h4',er,ex,w3]
theorem yJ(c:Int):∃ws:au,ws≠[]/\ws.length<=12/\(∀w∈ws,w.length<=20)/\ao cM 1 7 [.int c]=.ok (.tup (ws.map .str)):=
 let ⟨ws,w1,w2,wl,_,w3⟩:=Ai c;⟨ws,w1,w2,wl,w3⟩
theorem tQ(c:Int):∃ws:au,ws≠[]/\ws.length<=12/\ao cM 1 7 [.int c]=.ok (.tup (ws.map .str)):=
 let ⟨ws,w1,w2,_,w3⟩:=yJ c;⟨ws,w1,w2,w3⟩
theorem BA(c:Int)(n:Nat)(hn:n<=20):∃ws:au,ws.length=n/\(∀w∈ws,w.length<=20)/\(9<=n->ws.Nodup)/\ao cA 2 10 [.int c,.int n]=.ok (.lst (ws.map .str)):=by
 have LL:(("abcdefghijklmnopqrstuvwxyz":Str)).length=26:=by decide +kernel
 have LN:(("abcdefghijklmnopqrstuvwxyz":Str)).cps.toList.Nodup:=by decide +kernel
 generalize hL:("abcdefghijklmnopqrstuvwxyz":Str)=L at LL LN;have r8:gu [.int 8]=some (bJ 0 8):=cV 8 (by decide);have rn:=cV n ‹0›;have g4:=λi=>bf (i:=i) (show(0:Int)<4 by decide);have g6:=λi=>bf (i:=i) (show(0:Int)<6 by decide);have g8:=λi=>bf (i:=i) (show(0:Int)<8 by decide);have g26:=λi=>bf (i:=i) (show(0:Int)<26 by decide);have d5:=λi=>cQ (i:=i) (show(0:Int)<5 by decide) (show(5:Int)<10^200 by decide);have d8:=λi=>cQ (i:=i) (show(0:Int)<8 by decide) (show(8:Int)<10^200 by decide);have d64:=λi=>cQ (i:=i) (show(0:Int)<64 by decide) (show(64:Int)<10^200 by decide);obtain⟨vs,v1,v2,v3⟩:∃vs:List D,vs.length=(bJ 0 8).length/\(∀v∈vs,∃w:Str,v=.str w/\w.length<=1)/\oY (inB [none,some 2,some 0] [some (.val (.int c)),some (.val (.int n)),some (.val (.str L)),none,none,none,none,none,none,none]) (gN 0) bo (f2 ak (af 1) (f2 bI (fR (ao aA 2 3) (aa (af 2) (aa (af 0) ah))) (fC (.int 26)))) (bJ 0 8)=.ok vs:=by
  refine gP (λv=>∃w:Str,v=.str w/\w.length<=1) _ λd hd=>?_;obtain⟨k,hk,rfl⟩:=fS hd;obtain⟨q,hq,eq⟩:=dg c (0+(k:Int)) ‹0› ‹0›;obtain⟨y,hy,e1⟩:=vI L ‹0› (q%26) ‹0› ‹0›;refine⟨_,_,rfl,rfl,?_,y,rfl,by omega⟩;simp! only[eq,g26,e1]
 obtain⟨bs,rfl,hb⟩:=qk 1 vs v2;rw[Nx,aP]at v1;have f0:=bX (ix:=[none,some 2,some 0]) (G:=bh (aa (fC (.int 8)) ah)) (ρ:=[some (.val (.int c)),some (.val (.int n)),some (.val (.str L)),none,none,none,none,none,none,none]) (by simp! only[r8]) (by rw[aP];decide) v3;have part:∀lo hi:cR,∃x:Str,x.length<=8/\nZ "" [.lst (cutD (bs.map D.str) lo hi)]=some (.str x):=λlo hi=>by
  have l:=mi bs lo hi;have s1:=zX 1 (cutD bs lo hi) λw hw=>hb w (zV hw);obtain⟨x,hx,ex⟩:=wN (cutD bs lo hi) ‹0›;exact⟨x,by omega,by rw[qD];exact ex⟩
 rw[bB];unfold cA;by_cases hc:(c/5%4==1&&decide ((n:Int)<9))=true
 ·obtain⟨us,u1,u2,u3⟩:∃vs:List D,vs.length=(bJ 0 n).length/\(∀v∈vs,∃w:Str,v=.str w/\w.length<=20)/\oY (inB [none,some 3] [some (.val (.int c)),some (.val (.int n)),some (.val (.str L)),some (.val (.lst (bs.map .str))),none,none,none,none,none,none]) (gN 0) bo (jf (fC (.str "")) (aa (aS (af 1) aM (aY (f2 aI (af 0) (fC (.int 1))))) ah)) (bJ 0 n)=.ok vs:=by
   refine gP (λv=>∃w:Str,v=.str w/\w.length<=20) _ λd hd=>?_;obtain⟨k,hk,rfl⟩:=fS hd;obtain⟨x,hx,ex⟩:=part none (some (0+(k:Int)+1));refine⟨_,_,rfl,rfl,?_,x,rfl,by omega⟩;simp! only[rR,ex]
  obtain⟨ws,rfl,hw⟩:=qk 20 us u2;rw[Nx,aP]at u1;have f1:=bX (ix:=[none,some 3]) (G:=bh (aa (af 1) ah)) (ρ:=[some (.val (.int c)),some (.val (.int n)),some (.val (.str L)),some (.val (.lst (bs.map .str))),none,none,none,none,none,none]) (by simp! only[rn]) (by rw[aP];omega) u3;rw[NU]at hc;refine⟨ws,u1,hw,(λh9=>by have:=of_decide_eq_true hc.2;omega),?_⟩;simp! only[hL,f0,d5,g4,hc.1,hc.2,f1]
 ·have hc':(c/5%4==1&&decide ((n:Int)<9))=false:=by simpa using hc
  have lg:0<1+c%8:=by omega
  have gl:=λi=>bf (i:=i) lg;obtain⟨q,hq,eq⟩:=dg c 9 (by decide) (by decide);obtain⟨st,hst,est⟩:∃st:Int,(st=1\/st=5\/st=7\/st=11\/st=17\/st=25)/\ak (.lst [.int 1,.int 5,.int 7,.int 11,.int 17,.int 25]) (.int (q%6))=some (.int st):=by
   rcases(show q%6=0\/q%6=1\/q%6=2\/q%6=3\/q%6=4\/q%6=5 by omega)with z|z|z|z|z|z<;>rw[z]
   ·exact⟨1,by simp,rfl⟩
   ·exact⟨5,by simp,rfl⟩
   ·exact⟨7,by simp,rfl⟩
   ·exact⟨11,by simp,rfl⟩
   ·exact⟨17,by simp,rfl⟩
   ·exact⟨25,by simp,rfl⟩
  have l6:∀a b c d e f:D,jY [a,b,c,d,e,f]=some (.lst [a,b,c,d,e,f]):=λ_ _ _ _ _ _=>rfl;have ms:=λi=>gx (i:=i) (j:=st) ‹0› ‹0›;generalize hat:c/8%(1+c%8)=at';obtain⟨y1,hy1,e1⟩:=part none (some at');obtain⟨y3,hy3,e3⟩:=part (some (at'+1)) (some (1+c%8));obtain⟨T,hT⟩:∃T:bU,T=(aq (iP (bh (aa (af 1) ah)) (gN 8) (aq (aL 9 (f2 ak (af 2) (f2 bI (f2 aI (f2 du (af 0) (fC (.int 64))) (f2 fX (af 8) (af 6))) (fC (.int 26))))) (aq (p8 7 gI (aa (f2 aI (f2 aI (jf (fC (.str "")) (aa (aS (af 3) aM (aY (af 5))) ah)) (af 9)) (jf (fC (.str "")) (aa (aS (af 3) (aY (f2 aI (af 5) (fC (.int 1)))) (aY (af 4))) ah))) ah)) (dB [8,9] bz)))) (jM 7 (bu (af 7)))):=⟨_,rfl⟩
  obtain⟨sgn,hsgn⟩:∃sgn:Nat->Str,sgn=λ(j:Nat)=>(⟨#[L.cps.toList.getD ((c/64+(0+(j:Int))*st)%26).toNat 0]⟩:Str):=⟨_,rfl⟩
  have sgn_len:∀j,(sgn j).length=1:=λj=>by rw[hsgn];rfl
  have sgn_ne:∀i j:Nat,i<j->j<20->sgn i≠sgn j:=λi j hij hj e=>by
   rw[hsgn]at e;have hl:L.cps.toList.length=26:=(by rw[Array.length_toList];exact LL);have e1:L.cps.toList.getD ((c/64+(0+(i:Int))*st)%26).toNat 0=L.cps.toList.getD ((c/64+(0+(j:Int))*st)%26).toNat 0:=by
    have:=congrArg (λz:Str=>z.cps.toList) e
    simpa using this
   have ha:((c/64+(0+(i:Int))*st)%26).toNat<L.cps.toList.length:=(by omega);have hb:((c/64+(0+(j:Int))*st)%26).toNat<L.cps.toList.length:=(by omega);rw[Ph,Ph,Od ha,Od hb,OC,OC]at e1;have ne:((c/64+(0+(i:Int))*st)%26).toNat≠((c/64+(0+(j:Int))*st)%26).toNat:=by
    rcases hst with rfl|rfl|rfl|rfl|rfl|rfl<;>omega
   have pw:=List.pairwise_iff_getElem.mp LN;rcases Pj ne with q|q
   ·exact pw _ _ ha hb q e1
   ·exact pw _ _ hb ha q e1.symm
  have key:∃ws:au,ws.length=n/\(∀w∈ws,w.length<=20)/\ws.Nodup/\(T K0 [some (.val (.int c)),some (.val (.int n)),some (.val (.str L)),some (.val (.lst (bs.map .str))),some (.val (.int (1+c%8))),some (.val (.int at')),some (.val (.int st)),some (.own (.lst [])),none,none])=.ok (.lst (ws.map .str)):=by
   rw[hT,dP,gR];simp! only[rn];refine fm (Q:=λr=>∃ws:au,ws.length=n/\(∀w∈ws,w.length<=20)/\ws.Nodup/\r=.ok (.lst (ws.map .str))) (λi ρ=>∃us:au,us.length=i/\(∀w∈us,w.length<=20)/\(∀(j:Nat)(w:Str),us[j]?=some w->w=y1++sgn j++y3)/\ρ=[some (.val (.int c)),some (.val (.int n)),some (.val (.str L)),some (.val (.lst (bs.map .str))),some (.val (.int (1+c%8))),some (.val (.int at')),some (.val (.int st)),some (.own (.lst (us.map .str))),none,none]) ?_ ?_ ?_
   ·rintro i d ρ k' hd ⟨us,u1,u2,u3,rfl⟩;have hi:=ax hd;rw[aP]at hi;have hdi:d=.int (0+(i:Int)):=by
     rw[eE,NM,Ox hi]at hd;cases hd;rfl
    subst hdi;have e2:ak (.str L) (.int ((c/64+(0+(i:Int))*st)%26))=some (.str (sgn i)):=(by rw[hsgn];exact rZ L ‹0› _ ‹0› ‹0›);have hy2:=sgn_len i;generalize hsg:sgn i=y2 at e2 hy2;have a1:=kg y1 y2 ‹0› ‹0›;have a2:=kg (y1++y2) y3 (by rw[jh];omega) ‹0›;refine⟨_,_,rfl,⟨us++[y1++y2++y3],by simp;omega,?_,?_,rfl⟩,?_⟩
    ·intro w hw;rcases List.mem_append.mp hw with z|z
     ·exact u2 w z
     ·rw[List.mem_singleton.mp z,jh,jh];omega
    ·intro j w hw;rcases Pn j us.length with z|z
     ·rw[NK z]at hw;exact u3 j w hw
     ·have ej:j=i:=by
       have:=ax hw
       simp at this;omega
      rw[NF z,ej,u1,OV]at hw;cases hw;rw[ej,hsg]
    ·simp only[dP,fQ];simp! only[d64,ms,g26,e2];rw[gF _ _ _ _ _ (xs:=us.map .str) rfl];simp! only[rR,e1,e3,a1,a2,jG (xs:=us.map D.str) (y:=.str (y1++y2++y3)) (by rw[Nx];omega),Oq]
   ·exact⟨[],rfl,(λ_ h=>nomatch h),(λ_ _ h=>nomatch h),rfl⟩
   ·rintro ρ' ⟨us,u1,u2,u3,rfl⟩;rw[aP]at u1;refine⟨us,u1,u2,?_,by simp! only[]⟩;refine List.pairwise_iff_getElem.mpr λi j hi hj hij e=>?_;have ei:=u3 i _ (Od hi);have ej:=u3 j _ (Od hj);rw[e,ej]at ei;exact sgn_ne i j hij ‹0› (vO ei.symm)
  obtain⟨ws,w1,w2,wn,w3⟩:=key;refine⟨ws,w1,w2,(λ_=>wn),?_⟩;rw[<-hT];simp only[K0]at w3;cases hx1:(c/5%4==1)with
  |false=>simp! only[hL,f0,d5,g4,hx1,g8,d8,gl,hat,l6,eq,g6,est,EQ,w3]
  |true=>
   rw[hx1,PP]at hc';simp! only[hL,f0,d5,g4,hx1,hc',g8,d8,gl,hat,l6,eq,g6,est,EQ,w3]
noncomputable def ot(d:D):Prop:=(∃lo hi:Int,lo<=hi/\-HK<lo/\hi<HK/\d=.tup [.str "number",.int lo,.int hi])\/∃ws:au,ws≠[]/\ws.length<=12/\d=.tup [.str "word",.tup (ws.map .str)]
noncomputable def vy:Nat->D->Prop
 |0,d=>ot d
 |n+1,d=>ot d\/∃(kf rf:List D)(b:Bool),d=.tup [.str "rows",.tup [.tup kf,.tup rf],.bl b]/\1<=kf.length/\kf.length+rf.length<=20/\(∀f∈kf,∃nm k,f=.tup [.str nm,k]/\ot k)/\∀f∈rf,∃nm k,f=.tup [.str nm,k]/\vy n k
noncomputable def Mz(n:Nat)(d:D):Prop:=∃kf rf:List D,d=.tup [.tup kf,.tup rf]/\1<=kf.length/\kf.length+rf.length<=20/\(∀f∈kf,∃nm k,f=.tup [.str nm,k]/\ot k)/\∀f∈rf,∃nm k,f=.tup [.str nm,k]/\vy n k
theorem ot.kin{n:Nat}{d:D}(h:ot d):vy n d:=by
 cases n with
 |zero=>exact h
 |succ n=>exact .inl h
theorem Be(c:Int):∃f,Mz 0 f/\ao eJ 1 4 [.int c]=.ok f:=by
 have p2:=EC;obtain⟨ns,n1,n2,_,en⟩:=BA c 2 (by decide);obtain⟨a,b,rfl⟩:∃a b,ns=[a,b]:=by
  match ns,n1 with
  |[a,b],_=>exact⟨a,b,rfl⟩
 have en':ao cA 2 10 [.int c,.int 2]=.ok (.lst [.str a,.str b]):=en;obtain⟨ws,w1,w2,ew⟩:=tQ (c/2);have g2:=λi=>bf (i:=i) (show(0:Int)<2 by decide);have g4:=λi=>bf (i:=i) (show(0:Int)<4 by decide);have g5:=λi=>bf (i:=i) (show(0:Int)<5 by decide);have d2:=λi=>cQ (i:=i) (show(0:Int)<2 by decide) (show(2:Int)<10^200 by decide);have d9:=λi=>cQ (i:=i) (show(0:Int)<9 by decide) (show(9:Int)<10^200 by decide);have d45:=λi=>cQ (i:=i) (show(0:Int)<45 by decide) (show(45:Int)<10^200 by decide);have hk:∀f∈[D.tup [.str a,.tup [.str "number",.int (c/9%5-2),.int (c/9%5-2+c/45%4)]]],∃nm k,f=.tup [.str nm,k]/\ot k:=λf hf=>by
  rw[List.mem_singleton.mp hf];exact⟨_,_,rfl,.inl ⟨_,_,by omega,by omega,by omega,rfl⟩⟩
 rw[gB];unfold eJ;by_cases h:c%2=1
 ·refine⟨_,⟨_,[],rfl,by simp,by simp,hk,λ_ h=>nomatch h⟩,?_⟩;simp! only[en',d9,g5,d45,g4,g2,h,BEq.rfl,CM,ya,uK,B1]
 ·have h':(c%2==1)=false:=by simp[h]
  refine⟨_,⟨_,[.tup [.str b,.tup [.str "word",.tup (ws.map .str)]]],rfl,by simp,by simp,hk,λf hf=>?_⟩,?_⟩
  ·rw[List.mem_singleton.mp hf];exact⟨_,_,rfl,.inr ⟨ws,w1,w2,rfl⟩⟩
  ·simp! only[en',d9,g5,d45,g4,g2,d2,h',ew,CM,ya,uK,B1]
theorem B7(c:Int)(b:Bool):∃k,(b=false->ot k)/\vy 1 k/\ao ce 2 4 [.int c,.bl b]=.ok k:=by
 have p1:=Ik;have p2:=EC;have g2:=λi=>bf (i:=i) (show(0:Int)<2 by decide);have g6:=λi=>bf (i:=i) (show(0:Int)<6 by decide);have g10:=λi=>bf (i:=i) (show(0:Int)<10 by decide);have g25:=λi=>bf (i:=i) (show(0:Int)<25 by decide);have g59:=λi=>bf (i:=i) (show(0:Int)<ub by omega);have g259:=λi=>bf (i:=i) (show(0:Int)<2*ub by omega);have m2:fX (.int 2) (.int ub)=some (.int (2*ub)):=jx (by decide) (by decide);have d3:=λi=>cQ (i:=i) (show(0:Int)<3 by decide) (show(3:Int)<10^200 by decide);have d6:=λi=>cQ (i:=i) (show(0:Int)<6 by decide) (show(6:Int)<10^200 by decide);have d25:=λi=>cQ (i:=i) (show(0:Int)<25 by decide) (show(25:Int)<10^200 by decide);have flat:∀k,ot k->ao ce 2 4 [.int c,.bl b]=.ok k->∃k,(b=false->ot k)/\vy 1 k/\ao ce 2 4 [.int c,.bl b]=.ok k:=λk h e=>⟨k,λ_=>h,h.kin,e⟩
 by_cases h1:c%6<2
 ·refine flat _ (.inl ⟨c/6%25-12,c/6%25-12+c/6/25%10,by omega,by omega,by omega,rfl⟩) ?_;rw[bB];unfold ce;simp! only[d6,g6,decide_eq_true h1,g25,d25,g10,B1]
 ·by_cases h2:c%6=2
  ·have b1:=PJ (c/6) (show 2*ub≠0 by omega);have b2:=PN (c/6) (show 0<2*ub by omega);have b3:=PJ (c/6/3) (show ub≠0 by omega);have b4:=PN (c/6/3) (show 0<ub by omega);refine flat _ (.inl ⟨c/6%(2*ub)-ub,c/6%(2*ub)-ub+c/6/3%ub,by omega,by omega,by omega,rfl⟩) ?_;rw[bB];unfold ce;simp! only[d6,g6,decide_eq_false h1,(show(c%6==2)=true by simp[h2]),Fm,m2,g259,d3,g59,B1]
  ·have h2':(c%6==2)=false:=(by simp[h2]);obtain⟨ws,w1,w2,ew⟩:=tQ (c/6);by_cases h5:c%6=5
   ·cases b with
    |true=>
     obtain⟨f,⟨kf,rf,rfl,l1,l2,k1,k2⟩,ef⟩:=Be (c/6);refine⟨_,(λh=>by cases h),.inr ⟨kf,rf,(c/6%2==1),rfl,l1,l2,k1,k2⟩,?_⟩;rw[bB];unfold ce;simp! only[d6,g6,decide_eq_false h1,h2',(show(c%6==5)=true by simp[h5]),ef,g2,B1]
    |false=>
     refine flat _ (.inr ⟨ws,w1,w2,rfl⟩) ?_;rw[bB];unfold ce;simp! only[d6,g6,decide_eq_false h1,h2',(show(c%6==5)=true by simp[h5]),ew,uK]
   ·have h5':(c%6==5)=false:=(by simp[h5]);refine flat _ (.inr ⟨ws,w1,w2,rfl⟩) ?_;rw[bB];unfold ce;simp! only[d6,g6,decide_eq_false h1,h2',h5',ew,uK]
noncomputable def iK(k v:D):Prop:=(∃lo hi i:Int,k=.tup [.str "number",.int lo,.int hi]/\lo<=i/\i<=hi/\v=.int i)\/∃(ws:au)(w:Str),k=.tup [.str "word",.tup (ws.map .str)]/\w∈ws/\v=.str w
theorem nK(n:Nat)(k:D)(h:ot k)(c:Int):∃v,iK k v/\aG (n+1) [k,.int c]=.ok v:=by
 rcases h with⟨lo,hi,h1,h2,h3,rfl⟩|⟨ws,w1,w2,rfl⟩
 ·have g:=λi=>bf (i:=i) (show(0:Int)<hi-lo+1 by omega);have b1:=PJ c (show hi-lo+1≠0 by omega);have b2:=PN c (show 0<hi-lo+1 by omega);refine⟨_,.inl ⟨lo,hi,lo+c%(hi-lo+1),rfl,by omega,by omega,rfl⟩,?_⟩;rw[cg,bB];unfold df;simp! only[BEq.rfl,g]
 ·have hl:0<ws.length:=by
   cases ws with
   |nil=>exact absurd rfl w1
   |cons w ws=>simp
  have g:=λi=>bf (i:=i) (show(0:Int)<(ws.length:Int)by omega);have b1:=PJ c (show(ws.length:Int)≠0 by omega);have b2:=PN c (show 0<(ws.length:Int)by omega);have hj:(c%(ws.length:Int)).toNat<ws.length:=by omega
  have e:ak (.tup (ws.map .str)) (.int (c%(ws.length:Int)))=some (.str ws[(c%(ws.length:Int)).toNat]):=by
   rw[Au,hJ,rM ‹0› ‹0›];rfl
  refine⟨_,.inr ⟨ws,ws[(c%(ws.length:Int)).toNat],rfl,O9 _,rfl⟩,?_⟩;rw[cg,bB];unfold df;simp! only[kW,BEq.rfl,Nx,g,e]
theorem zT(ks m:D)(row:List D)(rows:bw)(mm:Nat)(σ:cy)(hr:Sh σ (row.take mm))(hs:∀r∈rows,Sh σ (r.take mm))(hm:m=.int mm):
  ∀(n j:Nat)(k:Ks),j<=rows.length->rows.length-j<n->
  eM (dy [4] (jJ (fB (f2 eU (af 7) (fL cO (aa (af 4) ah)))) (fB (f2 eU (aS (f2 ak (af 4) (af 7)) aM (aY (af 3))) (aS (af 6) aM (aY (af 3))))))) (aL 7 (f2 aI (af 7) (fC (.int 1)))) k n
   [none,none,some (.val ks),some (.val m),some (.own (.lst (rows.map .tup))),none,some (.val (.tup row)),some (.val (.int j))]
   = k.nx [none,none,some (.val ks),some (.val m),some (.own (.lst (rows.map .tup))),none,some (.val (.tup row)),some (.val (.int ((j+cnt mm (row.take mm) (rows.drop j):Nat):Int)))]:=by
 subst hm;have pk:∀(f:bF)(ρ:av),dy [4] f ρ=uy (f (frz 4 ρ)):=λ_ _=>rfl;intro n
 induction n with
 |zero=>intro j k h1 h2;omega
 |succ n ih=>
  intro j k h1 h2;have e0:∀(c:bF)(B:bU)(k:Ks)(n:Nat)(ρ:av),eM c B k (n+1) ρ=ll (c ρ) k ρ λb=>if b then B ⟨eM c B k n,k.nx,eM c B k n,k.ex⟩ ρ else k.nx ρ:=λ_ _ _ _ _=>rfl
  rw[e0];by_cases hj:j<rows.length
  ·have hd:rows.drop j=rows[j]::rows.drop (j+1):=Oz hj;have er:ak (.lst (rows.map .tup)) (.int (j:Int))=some (.tup rows[j]):=by
    rw[lQ,hJ,fV hj];rfl
   have lt:=Ae (hs rows[j] (O9 hj)) hr;have lj:decide ((j:Int)<(rows.length:Int))=true:=(by simpa using hj);have ec:dy [4] (jJ (fB (f2 eU (af 7) (fL cO (aa (af 4) ah)))) (fB (f2 eU (aS (f2 ak (af 4) (af 7)) aM (aY (af 3))) (aS (af 6) aM (aY (af 3)))))) [none,none,some (.val ks),some (.val (.int mm)),some (.own (.lst (rows.map .tup))),none,some (.val (.tup row)),some (.val (.int j))]=.ok (kLt (rows[j].take mm) (row.take mm)):=by
    rw[pk];simp! only[Nx,lj,er,hW,lt]
   rw[ec,o6];cases hk:kLt (rows[j].take mm) (row.take mm)with
   |true=>
    rw[if_pos rfl];simp! only[];have ih':=ih (j+1) k ‹0› ‹0›;have ecast:((j+1:Nat):Int)=(j:Int)+1:=(by omega);rw[ecast]at ih';rw[ih',hd]
    have:cnt mm (row.take mm) (rows[j]::rows.drop (j+1))=cnt mm (row.take mm) (rows.drop (j+1))+1:=by
     rw[cnt,if_pos (Dh.mp hk)]
    rw[this,show j+1+cnt mm (row.take mm) (rows.drop (j+1))=j+(cnt mm (row.take mm) (rows.drop (j+1))+1)by omega]
   |false=>
    rw[if_neg Nn,hd]
    have:cnt mm (row.take mm) (rows[j]::rows.drop (j+1))=0:=by
     rw[cnt,if_neg (λz=>by rw[Dh.mpr z]at hk;cases hk)]
    rw[this,Nat.add_zero]
  ·have ej:j=rows.length:=(by omega);have lj:decide ((j:Int)<(rows.length:Int))=false:=(by simp[ej]);have ec:dy [4] (jJ (fB (f2 eU (af 7) (fL cO (aa (af 4) ah)))) (fB (f2 eU (aS (f2 ak (af 4) (af 7)) aM (aY (af 3))) (aS (af 6) aM (aY (af 3)))))) [none,none,some (.val ks),some (.val (.int mm)),some (.own (.lst (rows.map .tup))),none,some (.val (.tup row)),some (.val (.int j))]=.ok false:=by
    rw[pk];simp! only[Nx,lj]
   rw[ec,o6,if_neg Nn,Pz ‹0›];show _=k.nx [none,none,some (.val ks),some (.val (.int mm)),some (.own (.lst (rows.map .tup))),none,some (.val (.tup row)),some (.val (.int ((j+0:Nat):Int)))];rw[Nat.add_zero]
theorem yG(n:Nat)(c:bF)(B:bU)(k:Ks)(ρ:av):nO n c B k ρ=eM c B k n ρ:=nr rfl
theorem zq{xs:List D}{i:Nat}{y:D}(h:i<=xs.length)(h':xs.length<100000):xI xs [.int i,y]=some (xs.take i++y::xs.drop i):=by
 show(if decide (0<=(i:Int)/\(i:Int)<=xs.length)&&small (xs.length+1)then some (xs.take (i:Int).toNat++y::xs.drop (i:Int).toNat)else none)=_;rw[decide_eq_true ⟨by omega,by omega⟩,dG ‹0›];rfl
theorem F2.keySh{kf:List D}:∀{ks:List D},(∀k∈ks,ot k)->∃σ:cy,∀vs,F2 iK ks vs->Sh σ vs
 |[],_=>⟨[],λvs h=>by cases h;exact .nil⟩
 |k::ks,h=>by
  obtain⟨σ,hσ⟩:=F2.keySh (kf:=kf) (ks:=ks) λx hx=>h x (Ni _ hx);rcases h k Nh with⟨lo,hi,h1,h2,h3,rfl⟩|⟨ws,w1,w2,rfl⟩
  ·refine⟨true::σ,λvs hv=>?_⟩;cases hv with
   |cons q t=>
    rcases q with⟨_,_,i,_,_,_,rfl⟩|⟨_,_,e,_⟩
    ·exact .int i (hσ _ t)
    ·cases e
  ·refine⟨false::σ,λvs hv=>?_⟩;cases hv with
   |cons q t=>
    rcases q with⟨_,_,i,e,_⟩|⟨_,w,_,_,rfl⟩
    ·cases e
    ·exact .str w (hσ _ t)
set_option maxHeartbeats 2000000 in
theorem pM(rv rt:cP)(FK:D->D->Prop)(ps:cf)(kf rf:List D)(hkr:kf++rf=ps.map (λp=>.tup [.str p.1,p.2]))(hl:ps.length<=100)
  (hv:∀p∈ps,∀c:Int,∃v,FK p.2 v/\rv [p.2,.int c]=.ok v) (σ:cy) (hσ:∀vs,F2 FK (ps.map (·.2)) vs->Sh σ (vs.take kf.length)) (cells:List Int) (hc:cells.length<=100):
  ∃rows:bw,(∀r∈rows,F2 FK (ps.map (·.2)) r)/\vW kf.length rows/\rows.length<=cells.length/\(cells≠[]->rows≠[])/\ao (dH rv rt) 2 8 [.tup [.tup kf,.tup rf],.lst (cells.map .int)]=.ok (.tup (rows.map .tup)):=by
 have hkl:kf.length+rf.length<=100:=by have:=congrArg List.length hkr;rw[NR,Nx]at this;omega
 have f0:eQ [none,none] (bO (f2 aI (f2 ak (af 0) (fC (.int 0))) (f2 ak (af 0) (fC (.int 1))))) (gT 2 (o9 [0,1])) bo (af 1) [some (.val (.tup [.tup kf,.tup rf])),some (.val (.lst (cells.map .int))),none,none,none,none,none,none]=.ok (.lst (ps.map (·.2))):=by
  refine bX (ds:=ps.map (λp=>.tup [.str p.1,p.2])) ?_ (by rw[Nx];omega) ?_
  ·simp! only[];rw[cI _ _ ‹0›,hkr];simp! only[]
  ·refine dX _ _ ps λp _=>⟨[some (.val (.str p.1)),some (.val p.2)],rfl,rfl,?_⟩
   simp! only[]
 obtain⟨T,hT⟩:∃T:bU,T=(aq (iP (bO (af 1)) (gN 5) (aq (aL 6 (fL cE (aa (eQ [none,some 2,some 5] (bh (aa (fL cO (aa (af 2) ah)) ah)) (gN 0) bo (fR rv (aa (f2 ak (af 1) (af 0)) (aa (fR (ao aA 2 3) (aa (af 2) (aa (f2 aI (fC (.int 40)) (af 0)) ah))) ah)))) ah))) (aq (aL 7 (fC (.int 0))) (dB [0,1,5] (aq (nO 200 (dy [4] (jJ (fB (f2 eU (af 7) (fL cO (aa (af 4) ah)))) (fB (f2 eU (aS (f2 ak (af 4) (af 7)) aM (aY (af 3))) (aS (af 6) aM (aY (af 3))))))) (aL 7 (f2 aI (af 7) (fC (.int 1))))) (aq (eN (dy [4] (oq (fB (f2 gd (af 7) (fL cO (aa (af 4) ah)))) (fB (f2 iI (aS (f2 ak (af 4) (af 7)) aM (aY (af 3))) (aS (af 6) aM (aY (af 3))))))) (p8 4 xI (aa (af 7) (aa (af 6) ah))) bz) (dB [5,6,7] bz))))))) (jM 4 (bu (fL cE (aa (af 4) ah))))):=⟨_,rfl⟩
 have key:∃rows:bw,(∀r∈rows,F2 FK (ps.map (·.2)) r)/\vW kf.length rows/\rows.length<=cells.length/\(cells≠[]->rows≠[])/\T K0 [none,some (.val (.lst (cells.map .int))),some (.val (.lst (ps.map (·.2)))),some (.val (.int kf.length)),some (.own (.lst [])),none,none,none]=.ok (.tup (rows.map .tup)):=by
  rw[hT,dP,gR];simp! only[];refine fm (Q:=λz=>∃rows:bw,(∀r∈rows,F2 FK (ps.map (·.2)) r)/\vW kf.length rows/\rows.length<=cells.length/\(cells≠[]->rows≠[])/\z=.ok (.tup (rows.map .tup)))
   (λi ρ=>∃(x:Option S)(rows:bw),(∀r∈rows,F2 FK (ps.map (·.2)) r)/\vW kf.length rows/\rows.length<=i/\(0<i->rows≠[])/\ρ=[none,x,some (.val (.lst (ps.map (·.2)))),some (.val (.int kf.length)),some (.own (.lst (rows.map .tup))),none,none,none]) ?_ ?_ ?_
  ·rintro i d ρ k' hd ⟨x,rows,r1,r2,r3,r4,rfl⟩;have hi:=ax hd;rw[Nx]at hi;obtain⟨cl,hcl,rfl⟩:∃cl:Int,cells[i]?=some cl/\d=.int cl:=by
    rw[NM]at hd;cases h:cells[i]? with
    |none=>rw[h]at hd;cases hd
    |some cl=>rw[h]at hd;cases hd;exact⟨cl,rfl,rfl⟩
   have rn:=cV ps.length ‹0›;obtain⟨vs,v1,v2,v3⟩:=lL (ρ:=inB [none,some 2,some 5] [none,x,some (.val (.lst (ps.map (·.2)))),some (.val (.int kf.length)),some (.own (.lst (rows.map .tup))),some (.val (.int cl)),none,none]) (g:=gN 0) (C:=bo)
    (Fe:=fR rv (aa (f2 ak (af 1) (af 0)) (aa (fR (ao aA 2 3) (aa (af 2) (aa (f2 aI (fC (.int 40)) (af 0)) ah))) ah))) (bJ 0 ps.length) (λi v=>∀k,(ps.map (·.2))[i]?=some k->FK k v) (λi d hd=>by
     have hi:=ax hd;rw[aP]at hi;have hdi:d=.int (0+(i:Int)):=by
      rw[eE,NM,Ox hi]at hd;cases hd;rfl
     subst hdi;obtain⟨q,hq,eq⟩:=dg cl (40+(0+(i:Int))) ‹0› ‹0›;obtain⟨v,fv,ev⟩:=hv ps[i] (O9 hi) q;have ek:ak (.lst (ps.map (·.2))) (.int (0+(i:Int)))=some ps[i].2:=by
      rw[lQ,hJ,PK,fV hi];rfl
     refine⟨_,v,rfl,rfl,?_,λk hk=>?_⟩
     ·simp! only[eq,ek,ev]
     ·rw[NM,Od hi]at hk;cases hk;exact fv)
   rw[aP]at v1;have fv:F2 FK (ps.map (·.2)) vs:=F2.of (by rw[Nx,v1]) λi k v e1 e2=>v2 i v e2 k e1;have f1:=bX (ix:=[none,some 2,some 5]) (G:=bh (aa (fL cO (aa (af 2) ah)) ah)) (ρ:=[none,x,some (.val (.lst (ps.map (·.2)))),some (.val (.int kf.length)),some (.own (.lst (rows.map .tup))),some (.val (.int cl)),none,none]) (by simp! only[Nx,rn]) (by rw[aP];omega) v3;have hs:∀r∈rows,Sh σ (r.take kf.length):=λr hr=>hσ r (r1 r hr);have hr:=hσ vs fv;refine⟨_,_,rfl,⟨none,gM kf.length vs rows,λr hr=>?_,sM hr hs r2,Nc (tJ rows) ‹0›,λ_=>CV rows,rfl⟩,?_⟩
   ·rcases nR hr with z|z
    ·rw[z];exact fv
    ·exact r1 r z
   ·have wh:=λ(k:Ks)=>zT (.lst (ps.map (·.2))) (.int kf.length) vs rows kf.length σ hr hs rfl 200 0 k ‹0› ‹0›;rw[N7,OO]at wh;have cl1:=Bw kf.length (vs.take kf.length) rows;generalize hp:cnt kf.length (vs.take kf.length) rows=p at wh cl1;have pk:∀(f:bF)(ρ:av),dy [4] f ρ=uy (f (frz 4 ρ)):=λ_ _=>rfl;simp! only[f1,yG];refine Eq.trans (wh _) ?_;simp! only[pk,Nx];by_cases h1:p=rows.length
    ·have hins:gM kf.length vs rows=rows.take p++vs::rows.drop p:=by
      rw[mw rows,hp,if_neg (by rw[h1,Pp (Nq _)];simp)]
     rw[hins];have b1:((p:Int)==(rows.length:Int))=true:=(by simp[h1]);simp! only[b1];rw[gF _ _ _ _ _ (xs:=rows.map .tup) rfl];simp! only[zq (xs:=rows.map D.tup) (i:=p) (y:=.tup vs) (by rw[Nx];omega) (by rw[Nx];omega)];rw[Oq,Nw,Px,Pw]
    ·have b1:((p:Int)==(rows.length:Int))=false:=(by simp;omega);have hp':p<rows.length:=(by omega);have er:ak (.lst (rows.map .tup)) (.int (p:Int))=some (.tup rows[p]):=by
      rw[lQ,hJ,fV hp'];rfl
     have ne:=Fx (hs rows[p] (O9 hp')) hr;by_cases h2:rows[p].take kf.length=vs.take kf.length
     ·have b2:pyEqL (rows[p].take kf.length) (vs.take kf.length)=true:=(qP (hs _ (O9 hp')) hr).mpr h2;have hins:gM kf.length vs rows=rows:=by
       rw[mw rows,hp,Od hp',Pu,if_pos (by rw[h2])]
      rw[hins];simp! only[b1,er,hW,ne,b2]
     ·have b2:pyEqL (rows[p].take kf.length) (vs.take kf.length)=false:=by
       cases hb:pyEqL (rows[p].take kf.length) (vs.take kf.length)with
       |false=>rfl
       |true=>exact absurd ((qP (hs _ (O9 hp')) hr).mp hb) h2
      have hins:gM kf.length vs rows=rows.take p++vs::rows.drop p:=by
       rw[mw rows,hp,Od hp',Pu,if_neg (λz=>h2 (Option.some.inj z))]
      rw[hins];simp! only[b1,er,hW,ne,b2];rw[gF _ _ _ _ _ (xs:=rows.map .tup) rfl];simp! only[zq (xs:=rows.map D.tup) (i:=p) (y:=.tup vs) (by rw[Nx];omega) (by rw[Nx];omega)];rw[Oq,Nw,Px,Pw]
  ·exact⟨_,[],(λ_ h=>nomatch h),List.Pairwise.nil,Nq _,(λh=>absurd h (M9 _)),rfl⟩
  ·rintro ρ' ⟨x,rows,r1,r2,r3,r4,rfl⟩;rw[Nx]at r3 r4;refine⟨rows,r1,r2,r3,λh=>r4 (List.length_pos_iff.mpr h),?_⟩;simp! only[]
 obtain⟨rows,r1,r2,r3,r4,r5⟩:=key;refine⟨rows,r1,r2,r3,r4,?_⟩;rw[bB];unfold dH;rw[<-hT];simp only[K0]at r5;simp! only[f0,EQ,r5]
noncomputable def dI:Nat->D->D->Prop
 |0,k,v=>iK k v
 |n+1,k,v=>iK k v\/∃(kf rf:List D)(b:Bool)(ps:cf)(rows:bw),k=.tup [.str "rows",.tup [.tup kf,.tup rf],.bl b]/\kf++rf=ps.map (λp=>.tup [.str p.1,p.2])/\ps.length<=100/\v=.tup (rows.map .tup)/\rows.length<=100/\(∀r∈rows,F2 (dI n) (ps.map (·.2)) r)/\vW kf.length rows/\(b=true->rows≠[])
theorem dI.flat{n:Nat}{k v:D}(h:dI n k v)(hk:ot k):iK k v:=by
 cases n with
 |zero=>exact h
 |succ n=>
  rcases h with h|⟨kf,rf,b,ps,rows,e,_⟩
  ·exact h
  ·rcases hk with⟨lo,hi,_,_,_,e2⟩|⟨ws,_,_,e2⟩<;>rw[e2]at e<;>cases e
theorem F2.flat{n:Nat}:∀{ks vs:List D},(∀k∈ks,ot k)->F2 (dI n) ks vs->F2 iK ks vs
 |_,_,_,.nil=>.nil
 |_,_,h,.cons q t=>.cons (q.flat (h _ Nh)) (F2.flat (λk hk=>h k (Ni _ hk)) t)
theorem lS{n:Nat}:∀(fs:List D),(∀f∈fs,∃nm k,f=.tup [.str nm,k]/\vy n k)->∃ps:cf,fs=ps.map (λp=>.tup [.str p.1,p.2])/\∀p∈ps,vy n p.2
 |[],_=>⟨[],rfl,λ_ h=>nomatch h⟩
 |f::fs,h=>by
  obtain⟨nm,k,rfl,q⟩:=h f Nh;obtain⟨ps,rfl,q2⟩:=lS (n:=n) fs λx hx=>h x (Ni _ hx);refine⟨(nm,k)::ps,rfl,λp hp=>?_⟩;rcases List.mem_cons.mp hp with rfl|z
  ·exact q
  ·exact q2 p z
theorem su{n:Nat}{kf rf:List D}(hk:∀f∈kf,∃nm k,f=.tup [.str nm,k]/\ot k)(hr:∀f∈rf,∃nm k,f=.tup [.str nm,k]/\vy n k):
  ∃ps:cf,kf++rf=ps.map (λp=>.tup [.str p.1,p.2])/\ps.length=kf.length+rf.length/\(∀p∈ps,vy n p.2)/\∀k∈(ps.map (·.2)).take kf.length,ot k:=by
 obtain⟨p1,e1,q1⟩:=lS (n:=n) kf λf hf=>by
  obtain⟨nm,k,e,q⟩:=hk f hf;exact⟨nm,k,e,q.kin⟩
 obtain⟨p2,e2,q2⟩:=lS (n:=n) rf hr;have l1:p1.length=kf.length:=by rw[e1,Nx]
 have l2:p2.length=rf.length:=by rw[e2,Nx]
 refine⟨p1++p2,by rw[Oq,<-e1,<-e2],by rw[NR,l1,l2],λp hp=>?_,λk hk'=>?_⟩
 ·rcases List.mem_append.mp hp with z|z
  ·exact q1 p z
  ·exact q2 p z
 ·rw[<-Px,<-l1,PQ  rfl]at hk';obtain⟨p,hp,rfl⟩:=List.mem_map.mp hk';obtain⟨nm,k,e,q⟩:=hk (.tup [.str p.1,p.2]) (by rw[e1];exact List.mem_map.mpr ⟨p,hp,rfl⟩);cases e;exact q
theorem yp(n m:Nat)(rt:cP)(hv:∀(k:D)(c:Int),vy n k->∃v,dI n k v/\aG m [k,.int c]=.ok v)(kf rf:List D)(hl:kf.length+rf.length<=20)(hk:∀f∈kf,∃nm k,f=.tup [.str nm,k]/\ot k)
  (hr:∀f∈rf,∃nm k,f=.tup [.str nm,k]/\vy n k) (cells:List Int) (hc:cells.length<=100):
  ∃(ps:cf)(rows:bw),kf++rf=ps.map (λp=>.tup [.str p.1,p.2])/\ps.length=kf.length+rf.length/\(∀p∈ps,vy n p.2)/\(∀k∈(ps.map (·.2)).take kf.length,ot k)/\(∀r∈rows,F2 (dI n) (ps.map (·.2)) r)/\vW kf.length rows/\rows.length<=cells.length/\(cells≠[]->rows≠[])/\
   ao (dH (aG m) rt) 2 8 [.tup [.tup kf,.tup rf],.lst (cells.map .int)]=.ok (.tup (rows.map .tup)):=by
 obtain⟨ps,e,l,q1,q2⟩:=su hk hr;obtain⟨σ,hσ⟩:=F2.keySh (kf:=kf) q2;obtain⟨rows,r1,r2,r3,r4,r5⟩:=pM (aG m) rt (dI n) ps kf rf e ‹0› (λp hp c=>hv p.2 c (q1 p hp)) σ (λvs h=>hσ _ (F2.flat q2 (F2.take kf.length h))) cells hc;exact⟨ps,rows,e,l,q1,q2,r1,r2,r3,r4,r5⟩
theorem wv(m:Nat)(k:D)(c:Int)(h:vy 1 k):∃v,dI 1 k v/\aG (m+3) [k,.int c]=.ok v:=by
 rcases h with h|⟨kf,rf,b,rfl,h1,h2,h3,h4⟩
 ·obtain⟨v,q,e⟩:=nK (m+2) k h c;exact⟨v,.inl q,e⟩
 ·have g3:=λi=>bf (i:=i) (show(0:Int)<3 by decide);obtain⟨nn,hnn,hnn'⟩:∃nn:Nat,(if b then(1:Int)else 0)+c%3=(nn:Int)/\nn<=3:=by
   cases b
   ·exact⟨(0+c%3).toNat,by simp;omega,by omega⟩
   ·exact⟨(1+c%3).toNat,by simp;omega,by omega⟩
  have rn:=cV nn ‹0›;obtain⟨vs,v1,v2,v3⟩:∃vs:List D,vs.length=(bJ 0 nn).length/\(∀v∈vs,∃i:Int,v=.int i)/\oY (inB [none,some 1] [some (.val (.tup [.str "rows",.tup [.tup kf,.tup rf],.bl b])),some (.val (.int c))]) (gN 0) bo (fR (ao aA 2 3) (aa (af 1) (aa (f2 aI (fC (.int 30)) (af 0)) ah))) (bJ 0 nn)=.ok vs:=by
   refine gP (λv=>∃i:Int,v=.int i) _ λd hd=>?_;obtain⟨k,hk,rfl⟩:=fS hd;obtain⟨q,hq,eq⟩:=dg c (30+(0+(k:Int))) ‹0› ‹0›;refine⟨_,_,rfl,rfl,?_,q,rfl⟩;simp! only[eq]
  obtain⟨cells,rfl⟩:∃cells:List Int,vs=cells.map .int:=by
   clear v1 v3
   induction vs with
   |nil=>exact⟨[],rfl⟩
   |cons v vs ih=>
    obtain⟨i,rfl⟩:=v2 v Nh;obtain⟨cs,rfl⟩:=ih λv hv=>v2 v (Ni _ hv);exact⟨i::cs,rfl⟩
  rw[Nx,aP]at v1;have f0:=bX (ix:=[none,some 1]) (G:=bh (aa (f2 aI (fL pO (aa (f2 ak (af 0) (fC (.int 2))) ah)) (f2 bI (af 1) (fC (.int 3)))) ah)) (ρ:=[some (.val (.tup [.str "rows",.tup [.tup kf,.tup rf],.bl b])),some (.val (.int c))]) (by simp! only[Bl,g3,hnn,rn]) (by rw[aP];omega) v3;obtain⟨ps,rows,e,l,q1,q2,r1,r2,r3,r4,r5⟩:=yp 0 (m+1) (aJ (m+1)) (λk c hk=>nK m k hk c) kf rf h2 h3 h4 cells ‹0›;refine⟨.tup (rows.map .tup),.inr ⟨kf,rf,b,ps,rows,rfl,e,by omega,rfl,by omega,r1,r2,λhb=>r4 (λz=>?_)⟩,?_⟩
  ·rw[z]at v1;rw[hb]at hnn;simp at v1 hnn;omega
  ·rw[cg,bB];unfold df;rw[<-dA]at r5;simp! only[iU,ie,f0,r5]
local macro_rules
 |`(tactic| simp! only[$xs,*])=>`(tactic| simp only[eB,wo,o6,wz,jE,fj,ge_0,DU,qQ,DI,qR,mJ,ro,rA,Ek,DM,DZ,CP,Cb,qX,qI,wU,kh,mU,rg,ng,v9,rN,ql,mS,rj,kH,rK,jW,kA,ju,jw,rz,my,jq,mM,jT,mG,mV,dP,mX,kR,qt,fQ,kF,gR,mI,mH,D3,wt,Ds,Cu,Eo,qE,mE,rh,mC,mK,CU,Cd,PB,PD,Nw,NY,N3,Ol,K0,env0,List.replicate,OW,NB,OO,Nat.reduceAdd,Nat.reduceSub,Nv,O0,qB,rq,vM,qw,qf,qM,jg,qz,wD,wH,wW,ra,j6,kN,j4,kQ,ky,kL,sG,xf,wj,wX,w8,vU,jZ,kB,iw,iy,qL,jy,ig,gU,gS,qg,qW,hZ,ir,kP,jX,mY,mD,ja,mB,rB,qC,mQ,mP,gN,if_true,if_false,PF,PH,N1,$xs,*])
theorem pB{g:GF}{B:bU}{k:Ks}{Q:R D->Prop}(Iv:Nat->av->Prop):∀(ds:List D)(o i:Nat)(ρ:av)(d:D),ds[i]?=some d->(∀j d ρ (k':Ks),j<i->ds[j]?=some d->Iv (o+j) ρ->∃ρ1 ρ2,g d ρ=some ρ1/\Iv (o+j+1) ρ2/\B k' ρ1=k'.nx ρ2)->Iv o ρ->
  (∀ρ (k':Ks),Iv (o+i) ρ->∃ρ1,g d ρ=some ρ1/\Q (B k' ρ1))->Q (eY g B k ds ρ)
 |[],_,_,_,_,h,_,_,_=>nomatch h
 |x::ds,o,0,ρ,d,h,_,hI,q=>by
  cases h;obtain⟨ρ1,e1,q1⟩:=q ρ ⟨eY g B k ds,k.nx,eY g B k ds,k.ex⟩ hI;show Q ((rO (g x ρ)).bind λρ1=>B ⟨eY g B k ds,k.nx,eY g B k ds,k.ex⟩ ρ1);rw[e1,fj,eB];exact q1
 |x::ds,o,i+1,ρ,d,h,st,hI,q=>by
  obtain⟨ρ1,ρ2,e1,h2,e2⟩:=st 0 x ρ ⟨eY g B k ds,k.nx,eY g B k ds,k.ex⟩ ‹0› rfl hI;show Q ((rO (g x ρ)).bind λρ1=>B ⟨eY g B k ds,k.nx,eY g B k ds,k.ex⟩ ρ1);rw[e1,fj,eB,e2];refine pB Iv ds (o+1) i ρ2 d (by rw[OI]at h;exact h) (λj d' ρ' k' hj hd hI'=>?_) h2 (λρ' k' hI'=>q ρ' k' (by rw[show o+(i+1)=o+1+i by omega];exact hI'));obtain⟨a,b,c1,c2,c3⟩:=st (j+1) d' ρ' k' ‹0› (by rw[OI];exact hd) (by rw[show o+(j+1)=o+1+j by omega];exact hI');exact⟨a,b,c1,by rw[show o+1+j+1=o+(j+1)+1 by omega];exact c2,c3⟩
noncomputable abbrev fld(p:Str×D):D:=.tup [.str p.1,p.2]
theorem nM(kf rf:List D)(ps:cf)(hl:ps.length<=100)(e:kf++rf=ps.map fld):ao eR 1 1 [.tup [.tup kf,.tup rf]]=.ok (.tup (ps.map λp=>.str p.1)):=by
 have hl':kf.length+rf.length<=100:=by have:=congrArg List.length e;rw[NR,Nx]at this;omega
 have f0:eQ [none] (bO (f2 aI (f2 ak (af 0) (fC (.int 0))) (f2 ak (af 0) (fC (.int 1))))) (gN 0) bo (f2 ak (af 0) (fC (.int 0))) [some (.val (.tup [.tup kf,.tup rf]))]=.ok (.lst (ps.map λp=>.str p.1)):=by
  refine bX (ds:=ps.map fld) ?_ (by rw[Nx];omega) ?_
  ·simp! only[];rw[cI _ _ ‹0›,e];simp! only[]
  ·refine dX _ _ ps λp _=>⟨_,rfl,rfl,?_⟩
   simp! only[]
 rw[gB];unfold eR;simp! only[f0]
theorem lD(xs:List D):pV [.tup xs]=some (fD 0 xs):=nr rfl
theorem iV:∀(xs:List D)(k i:Nat),(fD k xs)[i]?=(xs[i]?).map λx=>.tup [.int ((k+i:Nat):Int),x]
 |[],k,i=>by simp[fD]
 |x::xs,k,0=>by simp[fD]
 |x::xs,k,i+1=>by
  rw[fD,OI,iV xs (k+1) i,OI];congr 1;funext y;rw[show k+1+i=k+(i+1)by omega]
theorem eW(kf rf:List D)(ps:cf)(hl:ps.length<=100)(e:kf++rf=ps.map fld)(i:Nat)(nm:Str)(k:D)(hi:ps[i]?=some (nm,k)):ao dr 2 2 [.tup [.tup kf,.tup rf],.int i]=.ok k:=by
 have hl':kf.length+rf.length<=100:=by have:=congrArg List.length e;rw[NR,Nx]at this;omega
 have g:ak (.tup (ps.map fld)) (.int (i:Int))=some (.tup [.str nm,k]):=by
  rw[Au,j5,NM,hi];rfl
 rw[bB];unfold dr;simp! only[cI kf rf ‹0›,e,g]
theorem fZ(kf rf:List D)(i:Nat):ao fF 2 2 [.tup [.tup kf,.tup rf],.int i]=.ok (.bl (decide (i<kf.length))):=by
 rw[bB];unfold fF
 have:decide ((i:Int)<(kf.length:Int))=decide (i<kf.length):=by
  by_cases h:i<kf.length
  ·rw[decide_eq_true h,decide_eq_true ‹0›]
  ·rw[decide_eq_false h,decide_eq_false ‹0›]
 simp! only[this]
theorem dQ(vs os:List D)(i:Nat)(h:vs.length+os.length<=10000):ao bT 3 3 [.tup vs,.int i,.tup os]=.ok (.tup (vs.take i++os++vs.drop (i+1))):=by
 have l1:(vs.take i).length<=vs.length:=by rw[NE];omega
 have l2:(vs.drop (i+1)).length<=vs.length:=by rw[NT];omega
 have c:((i:Int)+1)=((i+1:Nat):Int):=by omega
 have a1:=cI (vs.take i) os ‹0›;have a2:=cI (vs.take i++os) (vs.drop (i+1)) (by rw[NR];omega);rw[fK];unfold bT;simp! only[c,hW,kK,a1,a2]
theorem gL(kf rf os:List D)(i:Nat)(h:kf.length+rf.length+os.length<=10000):ao bC 3 3 [.tup [.tup kf,.tup rf],.int i,.tup os]=.ok (if i<kf.length then .tup [.tup (kf.take i++os++kf.drop (i+1)),.tup rf]else .tup [.tup kf,.tup (rf.take (i-kf.length)++os++rf.drop (i-kf.length+1))]):=by
 rw[fK];unfold bC;by_cases hi:i<kf.length
 ·rw[if_pos hi];simp! only[fZ,decide_eq_true hi,dQ kf os i ‹0›,uK]
 ·rw[if_neg hi];have c:((i:Int)-(kf.length:Int))=((i-kf.length:Nat):Int):=by omega
  simp! only[fZ,decide_eq_false hi,c,dQ rf os (i-kf.length) ‹0›,uK]
theorem vT:∀bs:cy,anyB (bs.map .bl)=some (bs.any id)
 |[]=>rfl
 |b::bs=>by
  show(anyB (bs.map .bl)).bind (λc=>some (b||c))=_;rw[vT bs];rfl
theorem wC(bs:cy):yg [.lst (bs.map .bl)]=some (.bl (bs.any id)):=by
 have e:yg [.lst (bs.map .bl)]=(anyB (bs.map .bl)).bind λb=>some (D.bl b):=rfl;rw[e,vT];rfl
theorem yk(i j:Int):gD (.int i) (.tup [.int j])=some (.bl (!(j==i))):=by
 have e:gD (.int i) (.tup [.int j])=some (.bl (!inD (.int i) [.int j])):=rfl;rw[e];unfold inD;rw[Oj,List.any_nil,NV,pyEq]
end TD
namespace Tk26
open PySem PySem.Spec L2 TG TX TD
noncomputable def top(i:Nat):RJ:=PySem.Challenge.pw_twoglass_k26_whole_steps_that_hide_nothi.main.body.getD i (.Pass ⟨0,0,0,0⟩)
noncomputable abbrev gz:RJ:=inClass (top 32) 0
theorem jK:cx ["self","old","new"] ["self","old","new"] (aw gz):=‹2›
noncomputable abbrev iE:RJ:=inClass (top 29) 0
theorem lw:cx ["self","name","by","quotient","rest"] ["self","name","by","quotient","rest"] (aw iE):=‹2›
noncomputable abbrev iz:RJ:=inClass (top 30) 0
theorem lR:cx ["self","quotient","rest","by","name"] ["self","quotient","rest","by","name"] (aw iz):=‹2›
noncomputable abbrev iD:RJ:=inClass (top 7) 0
theorem kZ:cx ["self","view"] ["self","view"] (aw iD):=‹2›
noncomputable def fA(aR aN:cP):bU:=aq (eN (fB (f2 gd (f2 ak (af 0) (fC (.int 0))) (fC (.str "number")))) (bu (iB (oh "int" (af 1)) (iB (tZ (oh "bool" (af 1))) (iu yh yh (f2 ak (af 0) (fC (.int 1))) (af 1) (f2 ak (af 0) (fC (.int 2))))))) bz) (aq (eN (fB (f2 gd (f2 ak (af 0) (fC (.int 0))) (fC (.str "word")))) (bu (iB (oh "str" (af 1)) (f2 G0 (af 1) (f2 ak (af 0) (fC (.int 1)))))) bz) (bu (iB (fR aN (aa (f2 ak (af 0) (fC (.int 1))) (aa (af 1) ah))) (DC (f2 iI (af 1) (bY ah)) (tZ (f2 ak (af 0) (fC (.int 2))))))))
noncomputable def fN(aR aN:cP):bU:=aq (aL 2 (eQ [none,none] (bO (f2 aI (f2 ak (af 0) (fC (.int 0))) (f2 ak (af 0) (fC (.int 1))))) (gT 2 (o9 [0,1])) bo (af 1))) (aq (aL 3 (fL cO (aa (f2 ak (af 0) (fC (.int 0))) ah))) (aq (eN (nD (ed (oh "tuple" (af 1)))) (bu (fC (.bl false))) bz) (dB [0] (aq (iP (bO (af 1)) (gN 4) (aq (eN (oq (nD (ed (oh "tuple" (af 4)))) (fB (f2 iI (fL cO (aa (af 4) ah)) (fL cO (aa (af 2) ah))))) (bu (fC (.bl false))) bz) (aq (eN (nD (ed (fL ua (aa (eQ [none,none] (xM (aa (af 2) (aa (af 4) ah))) (gT 2 (o9 [0,1])) bo (fR aR (aa (af 0) (aa (af 1) ah)))) ah)))) (bu (fC (.bl false))) bz) (dB [4] bz)))) (bu (fL ua (aa (eQ [none,some 1,some 3] (bh (aa (f2 ib (fL cO (aa (af 1) ah)) (fC (.int 1))) ah)) (gN 0) bo (f2 eU (aS (f2 ak (af 1) (af 0)) aM (aY (af 2))) (aS (f2 ak (af 1) (f2 aI (af 0) (fC (.int 1)))) aM (aY (af 2))))) ah)))))))
mutual
noncomputable def aR:Nat->cP
 |0=>λ_=>un
 |n+1=>ao (fA (aR n) (aN n)) 2 2
noncomputable def aN:Nat->cP
 |0=>λ_=>un
 |n+1=>ao (fN (aR n) (aN n)) 2 5
end
theorem dN(n:Nat):aR (n+1)=ao (fA (aR n) (aN n)) 2 2:=by rw[aR]
theorem iL:∀n:Nat,Ar 2 (aR n)
 |0=>λ_ h=>absurd (by rw[aR]) h
 |n+1=>by rw[dN];exact jL
theorem eL(n:Nat):aN (n+1)=ao (fN (aR n) (aN n)) 2 5:=by rw[aN]
theorem iC:∀n:Nat,Ar 2 (aN n)
 |0=>λ_ h=>absurd (by rw[aN]) h
 |n+1=>by rw[eL];exact jL
noncomputable def bK:bU:=bu (af 3)
noncomputable def bS:bU:=aq (iP (eh (aa (fR (ao eR 1 1) (aa (af 0) ah)) ah)) (gT 2 (o9 [2,3])) (aq (eN (fB (f2 gd (af 3) (af 1))) (bu (af 2)) bz) (dB [2,3] bz))) (eS "NoField" (aa (fC (.str "no field has this name")) ah))
noncomputable def dj:bU:=aq (aL 4 (fR (ao bS 2 4) (aa (af 1) (aa (f1 (bZ "name" ["Part"]) (af 0)) ah)))) (bu (fL cE (aa (eQ [none,some 4,some 0] (bO (af 3)) (gN 0) bo (f2 aI (f2 aI (aS (af 0) aM (aY (af 1))) (bY (aa (f2 aI (f2 fX (f2 ak (af 0) (af 1)) (f1 (bZ "by" ["Part"]) (af 2))) (f2 ak (af 0) (f2 aI (af 1) (fC (.int 1))))) ah))) (aS (af 0) (aY (f2 aI (af 1) (fC (.int 2)))) aM))) ah)))
noncomputable def cZ:bU:=bu (fL cE (aa (f2 lP (af 1) (af 0)) ah))
noncomputable def dh:bU:=aq (aL 4 (fR (ao bS 2 4) (aa (af 1) (aa (f1 (bZ "quotient" ["Fuse"]) (af 0)) ah)))) (aq (aL 5 (fR (ao bS 2 4) (aa (af 1) (aa (f1 (bZ "rest" ["Fuse"]) (af 0)) ah)))) (aq (jc 6 (fU ah)) (dB [2] (aq (iP (bO (af 3)) (gN 7) (aq (aL 8 (f2 aI (f2 aI (aS (af 7) aM (aY (af 5))) (bY (aa (fC (.int 0)) ah))) (aS (af 7) (aY (af 5)) aM))) (aq (aL 9 (f2 ak (af 8) (af 4))) (aq (p8 6 gI (aa (fR (ao bT 3 3) (aa (fR (ao bT 3 3) (aa (af 8) (aa (af 4) (aa (bY (aa (f2 du (af 9) (f1 (bZ "by" ["Fuse"]) (af 0))) ah)) ah)))) (aa (af 5) (aa (bY (aa (f2 bI (af 9) (f1 (bZ "by" ["Fuse"]) (af 0))) ah)) ah)))) ah)) (dB [7,8,9] bz))))) (jM 6 (bu (fR (ao cZ 2 2) (aa (fL cO (aa (f2 ak (af 1) (fC (.int 0))) ah)) (aa (af 6) ah)))))))))
noncomputable def bg:bU:=bu (af 2)
noncomputable def cu:bU:=aq (aL 3 (fR (ao bS 2 4) (aa (af 1) (aa (f1 (bZ "name" ["Part"]) (af 0)) ah)))) (bu (fL cE (aa (eQ [none,some 3,some 0] (bO (af 2)) (gN 0) bo (fR (ao bT 3 3) (aa (af 0) (aa (af 1) (aa (bY (aa (f2 du (f2 ak (af 0) (af 1)) (f1 (bZ "by" ["Part"]) (af 2))) (aa (f2 bI (f2 ak (af 0) (af 1)) (f1 (bZ "by" ["Part"]) (af 2))) ah))) ah))))) ah)))
noncomputable def bc:bU:=aq (eN (oq (fB (f2 gd (af 2) (af 3))) (fB (f2 iI (fR (ao fF 2 2) (aa (af 1) (aa (af 2) ah))) (fR (ao fF 2 2) (aa (af 1) (aa (af 3) ah)))))) (eS "NoKind" (aa (fC (.str "quotient and rest are two fields, both in the key or both not")) ah)) bz) (aq (eN (oq (fB (f2 iI (f2 ak (fR (ao dr 2 2) (aa (af 1) (aa (af 2) ah))) (fC (.int 0))) (fC (.str "number")))) (nD (fB (iu yh yh (fC (.int 2)) (f1 (bZ "by" ["Fuse"]) (af 0)) (fC (.int 1000000000)))))) (eS "NoKind" (aa (fC (.str "only numbers are fused, and by 2 to 10 ** 9")) ah)) bz) (eN (fB (f2 iI (fR (ao dr 2 2) (aa (af 1) (aa (af 3) ah))) (bY (aa (fC (.str "number")) (aa (fC (.int 0)) (aa (f2 ib (f1 (bZ "by" ["Fuse"]) (af 0)) (fC (.int 1))) ah)))))) (eS "NoKind" (aa (fC (.str "the rest is no number from 0 to by - 1")) ah)) bz))
noncomputable def aE:bU:=aq (aL 2 (fR (ao bS 2 4) (aa (af 1) (aa (f1 (bZ "quotient" ["Fuse"]) (af 0)) ah)))) (aq (aL 3 (fR (ao bS 2 4) (aa (af 1) (aa (f1 (bZ "rest" ["Fuse"]) (af 0)) ah)))) (aq (qc (cY "check_kinds" [("Fuse",(ao bc 4 4))] (af 0) (aa (af 1) (aa (af 2) (aa (af 3) ah))))) (aq (eN (ed (fR (ao bx 3 4) (aa (af 1) (aa (f1 (bZ "name" ["Fuse"]) (af 0)) (aa (bY (aa (af 2) (aa (af 3) ah))) ah))))) (eS "Twice" (aa (fC (.str "another field has the name")) ah)) bz) (aq (aL 4 (fR (ao dr 2 2) (aa (af 1) (aa (af 2) ah)))) (aq (aL 5 (bY (aa (fC (.str "number")) (aa (f2 fX (f2 ak (af 4) (fC (.int 1))) (f1 (bZ "by" ["Fuse"]) (af 0))) (aa (f2 ib (f2 aI (f2 fX (f2 ak (af 4) (fC (.int 2))) (f1 (bZ "by" ["Fuse"]) (af 0))) (f1 (bZ "by" ["Fuse"]) (af 0))) (fC (.int 1))) ah))))) (bu (fR (ao bC 3 3) (aa (fR (ao bC 3 3) (aa (af 1) (aa (af 2) (aa (bY (aa (bY (aa (f1 (bZ "name" ["Fuse"]) (af 0)) (aa (af 5) ah))) ah)) ah)))) (aa (af 3) (aa (bY ah) ah))))))))))
noncomputable def cq:bU:=aq (aL 3 (fR (ao bS 2 4) (aa (af 1) (aa (f1 (bZ "quotient" ["Fuse"]) (af 0)) ah)))) (aq (aL 4 (fR (ao bS 2 4) (aa (af 1) (aa (f1 (bZ "rest" ["Fuse"]) (af 0)) ah)))) (aq (jc 5 (fU ah)) (aq (iP (bO (af 2)) (gN 6) (aq (aL 7 (f2 aI (f2 fX (f2 ak (af 6) (af 3)) (f1 (bZ "by" ["Fuse"]) (af 0))) (f2 ak (af 6) (af 4)))) (aq (p8 5 gI (aa (fR (ao bT 3 3) (aa (fR (ao bT 3 3) (aa (af 6) (aa (af 3) (aa (bY (aa (af 7) ah)) ah)))) (aa (af 4) (aa (bY ah) ah)))) ah)) (dB [6,7] bz)))) (jM 5 (bu (fR (ao cZ 2 2) (aa (fL cO (aa (f2 ak (cY "view_form" [("Fuse",(ao aE 2 6))] (af 0) (aa (af 1) ah)) (fC (.int 0))) ah)) (aa (af 5) ah))))))))
noncomputable def bG:bU:=aq (jc 4 (fU (aa (af 2) ah))) (dB [2] (aq (iP (bh (aa (fL cO (aa (af 0) ah)) ah)) (gN 5) (aq (p8 4 gI (aa (jC [4] (cY "got" [("Step",(ao bg 3 3)),("Part",(ao cu 3 4)),("Fuse",(ao cq 3 8)),("Rename",(ao bg 3 3))] (f2 ak (af 0) (af 5)) (aa (f2 ak (af 1) (af 5)) (aa (f2 ak (af 4) (af 5)) ah)))) ah)) (dB [5] bz))) (jM 4 (dB [2,5] (aq (iP (kr (aa (fL cO (aa (af 0) ah)) ah)) (gN 5) (aq (aL 3 (cY "put" [("Step",(ao bK 4 4)),("Part",(ao dj 4 5)),("Fuse",(ao dh 4 10)),("Rename",(ao bK 4 4))] (f2 ak (af 0) (af 5)) (aa (f2 ak (af 1) (af 5)) (aa (f2 ak (af 4) (af 5)) (aa (af 3) ah))))) (aq (eN (nD (ed (fR (aN 12) (aa (f2 ak (af 1) (af 5)) (aa (af 3) ah))))) (bu (fC .non)) bz) (dB [5] bz)))) (bu (af 3)))))))
noncomputable def b8:bU:=aq (iP (bh (aa (fL cO (aa (af 0) ah)) ah)) (gN 3) (aq (aL 4 (fL cO (aa (af 2) ah))) (aq (aL 2 (cY "got" [("Step",(ao bg 3 3)),("Part",(ao cu 3 4)),("Fuse",(ao cq 3 8)),("Rename",(ao bg 3 3))] (f2 ak (af 0) (af 3)) (aa (f2 ak (af 1) (af 3)) (aa (af 2) ah)))) (aq (eN (oq (nD (ed (fR (aN 12) (aa (f2 ak (af 1) (f2 aI (af 3) (fC (.int 1)))) (aa (af 2) ah))))) (fB (f2 iI (fL cO (aa (af 2) ah)) (af 4)))) (bu (fC .non)) bz) (dB [3,4] bz))))) (bu (af 2))
noncomputable def bV:bU:=aq (aL 3 (f2 bI (af 1) (fC (.int 7)))) (aq (eN (fB (f2 gd (f2 bI (f2 du (af 1) (fC (.int 7))) (fC (.int 8))) (fC (.int 5)))) (aL 3 (fC (.int 20))) bz) (bu (fR (aJ 12) (aa (af 0) (aa (f2 aI (eQ [none,some 1] (bh (aa (af 3) ah)) (gN 0) bo (fR (ao aA 2 3) (aa (af 1) (aa (f2 aI (fC (.int 60)) (af 0)) ah)))) (af 2)) ah)))))
noncomputable def az:bU:=bu (fC (.bl true))
noncomputable def aD:bU:=bu (fC (.bl true))
noncomputable def cC:bU:=bu (af 1)
noncomputable def bR:bU:=aq (aL 3 (fR (ao dr 2 2) (aa (af 1) (aa (af 2) ah)))) (aq (aL 4 (fR (ao fw 1 1) (aa (af 1) ah))) (aq (eN (fB (f2 iI (f2 bI (f2 ak (af 3) (fC (.int 1))) (f1 (bZ "by" ["Part"]) (af 0))) (fC (.int 0)))) (ke "Torn" ["view"] (aa (bY (aa (fR (ao bT 3 3) (aa (af 4) (aa (af 2) (aa (bY (aa (f2 du (f2 ak (af 3) (fC (.int 1))) (f1 (bZ "by" ["Part"]) (af 0))) (aa (fC (.int 0)) ah))) ah)))) ah)) ah)) bz) (eN (fB (f2 iI (f2 bI (f2 aI (f2 ak (af 3) (fC (.int 2))) (fC (.int 1))) (f1 (bZ "by" ["Part"]) (af 0))) (fC (.int 0)))) (ke "Torn" ["view"] (aa (bY (aa (fR (ao bT 3 3) (aa (af 4) (aa (af 2) (aa (bY (aa (f2 du (f2 ak (af 3) (fC (.int 2))) (f1 (bZ "by" ["Part"]) (af 0))) (aa (f2 ib (f1 (bZ "by" ["Part"]) (af 0)) (fC (.int 1))) ah))) ah)))) ah)) ah)) bz)))
noncomputable def bL:bU:=aq (eN (fB (f2 gd (f1 (bZ "quotient" ["Part"]) (af 0)) (f1 (bZ "rest" ["Part"]) (af 0)))) (eS "Twice" (aa (fC (.str "quotient and rest have one name")) ah)) bz) (eN (oq (ed (fR (ao bx 3 4) (aa (af 1) (aa (f1 (bZ "quotient" ["Part"]) (af 0)) (aa (bY (aa (af 2) ah)) ah))))) (ed (fR (ao bx 3 4) (aa (af 1) (aa (f1 (bZ "rest" ["Part"]) (af 0)) (aa (bY (aa (af 2) ah)) ah)))))) (eS "Twice" (aa (fC (.str "another field has the name of the quotient or of the rest")) ah)) bz)
noncomputable def aB:bU:=aq (aL 2 (fR (ao bS 2 4) (aa (af 1) (aa (f1 (bZ "name" ["Part"]) (af 0)) ah)))) (aq (aL 3 (fR (ao dr 2 2) (aa (af 1) (aa (af 2) ah)))) (aq (eN (oq (fB (f2 iI (f2 ak (af 3) (fC (.int 0))) (fC (.str "number")))) (nD (fB (iu yh yh (fC (.int 2)) (f1 (bZ "by" ["Part"]) (af 0)) (fC (.int 1000000000)))))) (eS "NoKind" (aa (fC (.str "only a number is parted, and by 2 to 10 ** 9")) ah)) bz) (aq (qc (cY "check_names" [("Part",(ao bL 3 3))] (af 0) (aa (af 1) (aa (af 2) ah)))) (aq (eN (fB (f2 IZ (fL cO (aa (JQ (ed (fR (ao fF 2 2) (aa (af 1) (aa (af 2) ah)))) (f2 ak (af 1) (fC (.int 0))) (f2 ak (af 1) (fC (.int 1)))) ah)) (fC (.int 8)))) (eS "TooMany" (aa (fC (.str "there is no room for one more field")) ah)) bz) (aq (qc (cY "check_ends" [("Part",(ao bR 3 5))] (af 0) (aa (af 1) (aa (af 2) ah)))) (aq (aL 4 (bY (aa (fC (.str "number")) (aa (f2 du (f2 ak (af 3) (fC (.int 1))) (f1 (bZ "by" ["Part"]) (af 0))) (aa (f2 du (f2 ak (af 3) (fC (.int 2))) (f1 (bZ "by" ["Part"]) (af 0))) ah))))) (aq (aL 5 (bY (aa (fC (.str "number")) (aa (fC (.int 0)) (aa (f2 ib (f1 (bZ "by" ["Part"]) (af 0)) (fC (.int 1))) ah))))) (bu (fR (ao bC 3 3) (aa (af 1) (aa (af 2) (aa (bY (aa (bY (aa (f1 (bZ "quotient" ["Part"]) (af 0)) (aa (af 4) ah))) (aa (bY (aa (f1 (bZ "rest" ["Part"]) (af 0)) (aa (af 5) ah))) ah))) ah))))))))))))
noncomputable def aV:bU:=aq (aL 2 (fR (ao bS 2 4) (aa (af 1) (aa (f1 (bZ "old" ["Rename"]) (af 0)) ah)))) (aq (eN (fB (f2 G0 (f1 (bZ "new" ["Rename"]) (af 0)) (fR (ao eR 1 1) (aa (af 1) ah)))) (eS "Twice" (aa (fC (.str "there is a field of the new name")) ah)) bz) (bu (fR (ao bC 3 3) (aa (af 1) (aa (af 2) (aa (bY (aa (bY (aa (f1 (bZ "new" ["Rename"]) (af 0)) (aa (fR (ao dr 2 2) (aa (af 1) (aa (af 2) ah))) ah))) ah)) ah))))))
noncomputable def cB:bU:=aq (aL 2 (fC .non)) (aq (tX ["NoField","Twice","NoKind","TooMany","Torn"] (aL 2 (cY "view_form" [("Step",(ao cC 2 2)),("Part",(ao aB 2 6)),("Fuse",(ao aE 2 6)),("Rename",(ao aV 2 3))] (af 0) (aa (af 1) ah))) (aL 2 (fC .non))) (bu (af 2)))
noncomputable def eD:bU:=aq (aL 3 (eQ [none] (bO (f2 aI (f2 ak (af 1) (fC (.int 0))) (f2 ak (af 1) (fC (.int 1))))) (gN 0) bo (f2 ak (af 0) (fC (.int 0))))) (aq (aL 4 (eQ [none] (bO (f2 aI (f2 ak (af 1) (fC (.int 0))) (f2 ak (af 1) (fC (.int 1))))) (gN 0) bo (f2 ak (af 0) (fC (.int 1))))) (aq (aL 5 (f2 bI (fR (ao aA 2 3) (aa (af 0) (aa (fC (.int 1)) ah))) (fL cO (aa (af 3) ah)))) (aq (aL 6 (f2 bI (fR (ao aA 2 3) (aa (af 0) (aa (fC (.int 2)) ah))) (fL cO (aa (af 3) ah)))) (aq (aL 7 (f2 ak (af 2) (f2 bI (fR (ao aA 2 3) (aa (af 0) (aa (fC (.int 3)) ah))) (fC (.int 20))))) (aq (eN (fB (f2 gd (f2 bI (af 0) (fC (.int 3))) (fC (.int 0)))) (bu (fNew "Rename" ["old","new"] (aa (f2 ak (af 3) (af 5)) (aa (af 7) ah)))) bz) (aq (eN (fB (f2 gd (f2 bI (af 0) (fC (.int 3))) (fC (.int 1)))) (aq (aL 8 (f2 ak (fU (aa (fC (.int 2)) (aa (fC (.int 3)) (aa (fC (.int 4)) (aa (fC (.int 5)) (aa (fC (.int 6)) (aa (fC (.int 10)) (aa (fC (.int 12)) (aa (fC (.int 15)) (aa (fC (.int 60)) ah)))))))))) (f2 bI (fR (ao aA 2 3) (aa (af 0) (aa (fC (.int 4)) ah))) (fC (.int 9))))) (bu (fNew "Part" ["name","by","quotient","rest"] (aa (f2 ak (af 3) (af 5)) (aa (af 8) (aa (af 7) (aa (f2 ak (af 2) (f2 bI (fR (ao aA 2 3) (aa (af 0) (aa (fC (.int 5)) ah))) (fC (.int 20)))) ah))))))) bz) (aq (aL 8 (fC (.int 2))) (aq (eN (fB (f2 gd (f2 ak (f2 ak (af 4) (af 6)) (fC (.int 0))) (fC (.str "number")))) (aL 8 (f2 aI (f2 ak (f2 ak (af 4) (af 6)) (fC (.int 2))) (fC (.int 1)))) bz) (bu (fNew "Fuse" ["quotient","rest","by","name"] (aa (f2 ak (af 3) (af 5)) (aa (f2 ak (af 3) (af 6)) (aa (af 8) (aa (af 7) ah))))))))))))))
noncomputable def eG:bU:=aq (aL 2 (fR (ao bQ 2 2) (aa (af 0) (aa (fC (.int 1)) ah)))) (aq (aL 3 (f2 aI (fC (.int 1)) (f2 bI (af 2) (fC (.int 3))))) (aq (jc 4 (fU ah)) (aq (iP (bh (aa (f2 aI (af 3) (f2 bI (f2 du (af 2) (fC (.int 3))) (fC (.int 4)))) ah)) (gN 5) (aq (aL 6 (fR (ao aA 2 3) (aa (fR (ao bQ 2 2) (aa (af 0) (aa (fC (.int 2)) ah))) (aa (af 5) ah)))) (aq (aL 7 (fR (ao ce 2 4) (aa (af 6) (aa (f2 IZ (af 5) (af 3)) ah)))) (aq (eN (fB (f2 gd (f2 ak (af 7) (fC (.int 0))) (fC (.str "number")))) (aq (aL 8 (f2 fX (fC (.int 3600)) (f2 ib (f2 bI (f2 du (af 6) (fC (.int 6))) (f2 ak (fU (aa (fC (.int 5)) (aa (f2 kG (fC (.int 10)) (fC (.int 30))) ah))) (f2 bI (f2 du (af 6) (fC (.int 36))) (fC (.int 2))))) (fC (.int 3))))) (aL 7 (bY (aa (fC (.str "number")) (aa (af 8) (aa (f2 ib (f2 aI (af 8) (f2 fX (fC (.int 3600)) (f2 aI (fC (.int 1)) (f2 bI (f2 du (af 6) (fC (.int 7))) (f2 ak (fU (aa (fC (.int 4)) (aa (f2 kG (fC (.int 10)) (fC (.int 20))) ah))) (f2 bI (f2 du (af 6) (fC (.int 72))) (fC (.int 2)))))))) (fC (.int 1))) ah)))))) bz) (aq (p8 4 gI (aa (bY (aa (f2 ak (af 1) (af 5)) (aa (af 7) ah))) ah)) (dB [5,6,7,8] bz)))))) (jM 4 (bu (bY (aa (fL cE (aa (aS (af 4) aM (aY (af 3))) ah)) (aa (fL cE (aa (aS (af 4) (aY (af 3)) aM) ah)) ah))))))))
noncomputable def lW:bU:=aq (aL 1 (fR (ao cA 2 10) (aa (fR (ao bQ 2 2) (aa (af 0) (aa (fC (.int 0)) ah))) (aa (fC (.int 20)) ah)))) (aq (jc 2 (fU (aa (fR (ao eG 2 9) (aa (af 0) (aa (af 1) ah))) ah))) (aq (jc 3 (fU ah)) (aq (iP (bO (aS (af 0) (aY (fC (.int 4))) (aY (fC (.int 28))))) (gN 4) (aq (aL 5 (jC [2] (fR (ao eD 3 9) (aa (af 4) (aa (f2 ak (af 2) (jH (fC (.int 1)))) (aa (af 1) ah)))))) (aq (aL 6 (jC [2] (fR (ao cB 2 3) (aa (af 5) (aa (f2 ak (af 2) (jH (fC (.int 1)))) ah))))) (aq (eN (dy [3] (jJ (fB (f2 eU (fL cO (aa (af 3) ah)) (fC (.int 8)))) (fB (lY (af 6))))) (aq (eN (dy [2] (oq (fB (f2 gq (cY "exact" [("Step",(ao aD 2 2)),("Part",(ao aD 2 2)),("Fuse",(ao aD 2 2)),("Rename",(ao aD 2 2))] (af 5) (aa (f2 ak (af 2) (jH (fC (.int 1)))) ah)) (fC (.bl true)))) (fB (f2 gq (cY "steady" [("Step",(ao az 2 2)),("Part",(ao az 2 2)),("Fuse",(ao az 2 2)),("Rename",(ao az 2 2))] (af 5) (aa (f2 ak (af 2) (jH (fC (.int 1)))) ah)) (fC (.bl true)))))) (bu (fC (.bl false))) bz) (aq (p8 3 gI (aa (af 5) ah)) (p8 2 gI (aa (af 6) ah)))) bz) (dB [4,5,6] bz))))) (aq (aL 4 (fR (ao bQ 2 2) (aa (af 0) (aa (fC (.int 3)) ah)))) (jM 2 (aq (aL 7 (fR (ao bV 3 4) (aa (f2 ak (af 2) (fC (.int 0))) (aa (fR (ao aA 2 3) (aa (af 4) (aa (fC (.int 50)) ah))) (aa (aS (af 0) (aY (fC (.int 28))) (aY (fC (.int 63)))) ah))))) (aq (aL 8 (fR (ao bV 3 4) (aa (f2 ak (af 2) (jH (fC (.int 1)))) (aa (fR (ao aA 2 3) (aa (af 4) (aa (fC (.int 51)) ah))) (aa (fU ah) ah))))) (aq (aL 9 (fR (ao bV 3 4) (aa (f2 ak (af 2) (jH (fC (.int 1)))) (aa (fR (ao aA 2 3) (aa (af 4) (aa (fC (.int 52)) ah))) (aa (fU ah) ah))))) (jM 3 (aq (aL 10 (fR (ao b8 3 5) (aa (af 3) (aa (af 2) (aa (af 7) ah))))) (aq (eN (oq (fB (mr (af 10))) (fB (f2 iI (fR (ao bG 4 6) (aa (af 3) (aa (af 2) (aa (af 7) (aa (af 10) ah))))) (af 7)))) (bu (fC (.bl false))) bz) (aq (aL 11 (fR (ao bG 4 6) (aa (af 3) (aa (af 2) (aa (af 7) (aa (af 8) ah)))))) (aq (aL 12 (fR (ao bG 4 6) (aa (af 3) (aa (af 2) (aa (af 7) (aa (af 9) ah)))))) (aq (eN (oq (fB (mr (af 11))) (oq (fB (mr (af 12))) (fB (f2 iI (f2 gd (af 11) (af 12)) (f2 gd (af 8) (af 9)))))) (bu (fC (.bl false))) bz) (aq (eN (oq (fB (f2 iI (fR (ao b8 3 5) (aa (af 3) (aa (af 2) (aa (af 11) ah)))) (af 8))) (fB (f2 iI (fR (ao b8 3 5) (aa (af 3) (aa (af 2) (aa (af 12) ah)))) (af 9)))) (bu (fC (.bl false))) bz) (bu (iB (f2 gd (fR (ao bG 4 6) (aa (af 3) (aa (af 2) (aa (af 11) (aa (af 9) ah))))) (af 12)) (f2 gd (fR (ao bG 4 6) (aa (af 3) (aa (af 2) (aa (bY ah) (aa (af 9) ah))))) (af 12)))))))))))))))))))
set_option hygiene false
local macro_rules|`(tactic|ktr_call $p $e)=>`(tactic|((with_reducible show $p);refine $e))
local macro_rules|`(tactic|walk_at "A")=>`(tactic|first|ktr_call (ow _ _ (aq _ _)) (x6 ?_ ?_)|ktr_call (ow _ _ (dB _ _)) (xu _ ?_)|ktr_call (ow _ _ (jM _ _)) (yT _ ?_)|ktr_call (ow _ _ bz) AI|refine y8 ?_)
local macro_rules|`(tactic|walk_at "B")=>`(tactic|first|ktr_call (XS _ _ (eN _ _ _)) (Ht ?_ ?_ ?_)|ktr_call (XS _ _ (bu _)) (Cg ?_)|ktr_call (XS _ _ (aL _ (eQ _ _ _ _ _))) (Mj (by first|assumption|exact sS rfl) rfl (by first|exact jk rfl|exact gW rfl) ?_ ?_)|ktr_call (XS _ _ (aL _ _)) (xs _ (by first|assumption|exact sS rfl) ?_)|ktr_call (XS _ _ bz) zp|ktr_call (XS _ _ bz) DH|ktr_call (XS _ _ (qc _)) (zx ?_)|ktr_call (XS _ _ (iP _ _ _)) (Ea hp rfl ?_ ?_ ?_)|ktr_call (XS _ _ (nO _ _ _)) (yo _ hp ?_ ?_)|ktr_call (XS _ _ (jc _ (eQ _ _ _ _ _))) (M6 (by first|assumption|exact sS rfl) rfl (by first|exact jk rfl|exact gW rfl) ?_ ?_)|ktr_call (XS _ _ (jc _ _)) (DL (by first|assumption|exact sS rfl) rfl (by first|exact Or.inl rfl|exact Or.inr rfl) ?_)|ktr_call (XS _ _ (p8 _ gI _)) (zY PySem.F.slot_list_append PySem.F.type_list_append pT yc (xv _) ?_)|ktr_call (XS _ _ (p8 _ xI _)) (zY PySem.F.slot_list_insert PySem.F.type_list_insert x9 xJ (xv _) ?_)|ktr_call (XS _ _ (eS _ _)) (xO rfl (by walk_at "a") rfl ?_)|ktr_call (XS _ _ (ke _ _ _)) (uz rfl rfl (by walk_at "a") hr ‹0› rfl ?_)|ktr_call (XS _ _ (tX _ _ _)) (Ao rfl rfl rfl (fun _=>rfl) (by walk_at "a") rfl (fun E' pn hp=>?_) (fun A' pn hA hU=>?_)))
local macro_rules|`(tactic|walk_at "C")=>`(tactic|first|ktr_call (XT _ _ (fB (f2 gd _ _))) (gg (AF hr.units) cm ?_ ?_ (gE _))|ktr_call (XT _ _ (fB (f2 iI _ _))) (gg (zO hr.units) cm ?_ ?_ (gE _))|ktr_call (XT _ _ (fB (f2 eU _ _))) (gg (Ah hr.units) cm ?_ ?_ (gE _))|ktr_call (XT _ _ (fB (f2 yh _ _))) (gg pz eF ?_ ?_ (gE _))|ktr_call (XT _ _ (fB (f2 IZ _ _))) (gg ER eF ?_ ?_ (gE _))|ktr_call (XT _ _ (fB (f2 G0 _ _))) (gg (Bi hr.units) cm ?_ ?_ rfl)|ktr_call (XT _ _ (fB (f2 gD _ _))) (gg (pN hr.units) cm ?_ ?_ rfl)|ktr_call (XT _ _ (fB (f2 gq _ _))) (gg o8 cm ?_ ?_ rfl)|ktr_call (XT _ _ (fB (mr _))) (Ct ?_)|ktr_call (XT _ _ (fB (lY _))) (zm ?_)|ktr_call (XT _ _ (fB (iu yh yh _ _ _))) (yi pz eF pz eF ?_ ?_ ?_)|ktr_call (XT _ _ (nD _)) (Dw ?_)|ktr_call (XT _ _ (jJ _ _)) (LU ?_)|ktr_call (XT _ _ (oq _ _)) (LU ?_)|ktr_call (XT _ _ (ed _)) (yD ?_)|ktr_call (XT _ _ (dy _ _)) (zE _ ?_))
local macro_rules|`(tactic|walk_at "D")=>`(tactic|first|ktr_call (XW _ _ (jJ _ _)) (Ei ?_ ?_)|ktr_call (XW _ _ (oq _ _)) (Fv ?_ ?_)|refine zn ?_|refine C4 ?_)
local macro_rules|`(tactic|walk_at "F")=>`(tactic|first|ktr_call (XI _ _ _ (bh _)) (ul rfl (by walk_at "a") ?_)|ktr_call (XI _ _ _ (xM _)) (DB rfl (by walk_at "a") ?_)|ktr_call (XI _ _ _ (eh _)) (oA rfl (by walk_at "a") ?_)|ktr_call (XI _ _ _ (kr _)) (rY rfl (by walk_at "a") rfl (by walk_at "a") ?_)|ktr_call (XI _ _ _ (bO _)) (DA ?_))
local macro_rules|`(tactic|walk_at "M")=>`(tactic|first|with_reducible refine El ?_|ktr_call (XE _ _ (af _)) (xw _)|ktr_call (XE _ _ (fC (.int _))) Dq|ktr_call (XE _ _ (fC (.str _))) Ce|ktr_call (XE _ _ (fC (.bl _))) GN|ktr_call (XE _ _ (fC .non)) D6|ktr_call (XE _ _ (fC (.int _))) (Ax rfl (by walk_at "a"))|ktr_call (XE _ _ (f2 ak _ _)) (xi ?_ ?_)|ktr_call (XE _ _ (bY _)) (CJ ?_)|ktr_call (XE _ _ (fU _)) (Cy ?_)|ktr_call (XE _ _ (f2 aI _ _)) (jm CD cm ?_ ?_)|ktr_call (XE _ _ (f2 ib _ _)) (jm G2 GW ?_ ?_)|ktr_call (XE _ _ (f2 fX _ _)) (jm Ft GY ?_ ?_)|ktr_call (XE _ _ (f2 du _ _)) (jm z9 Ho ?_ ?_)|ktr_call (XE _ _ (f2 bI _ _)) (jm Hc GQ ?_ ?_)|ktr_call (XE _ _ (f2 kG _ _)) (jm HI G7 ?_ ?_)|ktr_call (XE _ _ (f2 gd _ _)) (gf (AF hr.units) cm ?_ ?_ (gE _))|ktr_call (XE _ _ (f2 iI _ _)) (gf (zO hr.units) cm ?_ ?_ (gE _))|ktr_call (XE _ _ (f2 eU _ _)) (gf (Ah hr.units) cm ?_ ?_ (gE _))|ktr_call (XE _ _ (f2 yh _ _)) (gf pz eF ?_ ?_ (gE _))|ktr_call (XE _ _ (f2 IZ _ _)) (gf ER eF ?_ ?_ (gE _))|ktr_call (XE _ _ (f2 G0 _ _)) (gf (Bi hr.units) cm ?_ ?_ rfl)|ktr_call (XE _ _ (f2 gD _ _)) (gf (pN hr.units) cm ?_ ?_ rfl)|ktr_call (XE _ _ (f2 gq _ _)) (gf o8 cm ?_ ?_ rfl)|ktr_call (XE _ _ (mr _)) (Eh ?_)|ktr_call (XE _ _ (lY _)) (Bt ?_)|ktr_call (XE _ _ (iu yh yh _ _ _)) (xB pz eF pz eF ?_ ?_ ?_)|ktr_call (XE _ _ (tZ _)) (CL ?_)|ktr_call (XE _ _ (jH _)) (Du ?_)|ktr_call (XE _ _ (iB _ _)) (D7 ?_ ?_)|ktr_call (XE _ _ (DC _ _)) (HG ?_ ?_)|ktr_call (XE _ _ (JQ _ _ _)) (GC ?_ ?_ ?_)|ktr_call (XE _ _ (aS _ _ _)) (yI ?_ ?_ ?_)|ktr_call (XE _ _ (f1 (bZ _ _) _)) (Ed (by walk_at "a") ?_)|ktr_call (XE _ _ (eQ _ _ _ _ _)) (xl rfl (by first|exact jk rfl|exact gW rfl) ?_ ?_)|ktr_call (XE _ _ (fR _ _)) (uq (by walk_at "a") (by first|exact jL|walk_at "a") hr ‹0› ?_)|ktr_call (XE _ _ (fNew _ _ _)) (CG (by walk_at "a") hr ‹0› rfl ?_)|ktr_call (XE _ _ (oh "int" _)) (mL zN rfl (by walk_at "a") rfl (by walk_at "a") Rx ?_)|ktr_call (XE _ _ (oh "bool" _)) (mL xD rfl (by walk_at "a") rfl (by walk_at "a") PyProof.Rows.boot_bool ?_)|ktr_call (XE _ _ (oh "str" _)) (mL As rfl (by walk_at "a") rfl (by walk_at "a") PyProof.Rows.boot_str ?_)|ktr_call (XE _ _ (oh "tuple" _)) (mL uc rfl (by walk_at "a") rfl (by walk_at "a") Ry ?_)|ktr_call (XE _ _ (f2 lP _ _)) (xn hr rfl (by walk_at "a") (by walk_at "a") rfl (by walk_at "a") ?_ rfl rfl (Or.inr (Or.inl rfl)) rfl rfl rfl (fun _ _ _=>rfl) rfl rfl rfl (by decide) rfl rfl rfl rfl rfl)|ktr_call (XE _ _ (fL cO _)) (lH yt rfl (by walk_at "a") PySem.boot_len ?_)|ktr_call (XE _ _ (fL cE _)) (og sv rfl (by walk_at "a") Ry ?_)|ktr_call (XE _ _ (fL pO _)) (og vh rfl (by walk_at "a") Rx ?_)|ktr_call (XE _ _ (fL ua _)) (lH (yM rfl) rfl (by walk_at "a") PyProof.Rows.boot_all ?_)|ktr_call (XE _ _ (fL yg _)) (lH (xG rfl) rfl (by walk_at "a") PyProof.Rows.boot_any ?_)|ktr_call (XE _ _ (jf _ _)) (AO ?_ ?_)|ktr_call (XE _ _ (cY _ _ _ (aa _ _))) (BR (by walk_at "a") hr ‹0› ?_ ?_)|ktr_call (XE _ _ (cY _ _ _ ah)) (yF (by walk_at "a") hr ‹0› ?_)|ktr_call (XE _ _ (jC _ _)) (BW _ ?_))
local macro_rules|`(tactic|walk_at "d")=>`(tactic|((first|((with_reducible show ow _ _ _);walk_at "A")|((with_reducible show XS _ _ _);walk_at "B")|((with_reducible show XT _ _ _);walk_at "C")|((with_reducible show XW _ _ _);walk_at "D")|((with_reducible show XA _ _ _);first|ktr_call (XA _ _ (aa _ _)) (ny ?_ ?_)|ktr_call (XA _ _ ah) wx)|((with_reducible show XI _ _ _ _);walk_at "F")|((with_reducible show XG _ _ _);first|ktr_call (XG _ _ (gN _)) (yO (by first|assumption|exact sS rfl) rfl (by first|exact Or.inl rfl|exact Or.inr rfl))|ktr_call (XG _ _ (gT _ _)) (Ee rfl ?_))|((with_reducible show Hf _ _ _);first|ktr_call (Hf _ _ (o9 (_ :: _))) (xH ?_ ?_)|ktr_call (Hf _ _ (o9 [])) Bh)|((with_reducible show XO _ _ _);first|ktr_call (XO _ _ aM) zH|ktr_call (XO _ _ (aY _)) (BP ?_))|((with_reducible show Ip _ _ _);first|ktr_call (Ip _ _ bo) AC|refine Bc ?_)|((with_reducible show oP _ _ _ _ _ _ _ _ _);first|refine ⟨fun _ _ _ _ _ _=>⟨?_, ?_, ?_⟩⟩)|((with_reducible show XN _ _ _);first|ktr_call (XN _ _ (fU _)) (Em ?_)|ktr_call (XN _ _ (eQ _ _ _ _ _)) (MT rfl (by first|exact jk rfl|exact gW rfl) ?_ ?_))|((with_reducible show XE _ _ _);walk_at "M"))<;>walk_at "d"))
local macro_rules | `(tactic| walk_at "a") => `(tactic| first | assumption | exact q.2 | (replace q := q.1; walk_at "a"))
local macro_rules | `(tactic| walk_at "b") => `(tactic| (intro us hl _ _ _ _ _ _; first | (obtain ⟨a, rfl⟩ := IH hl; rfl) | (obtain ⟨a, b, rfl⟩ := Gk hl; rfl) | (obtain ⟨a, b, c, rfl⟩ := Ga hl; rfl) | (obtain ⟨a, b, c, d, rfl⟩ := IJ hl; rfl)))
local macro_rules | `(tactic| walk_at "m") => `(tactic| ((· walk_at "a"); (· walk_at "b"); (· exact ‹2›); first | refine fun nd f => ⟨fun cdv A outer s H E hr hp => ?_⟩ | intro nd f A outer s H E hr hp))
local macro_rules | `(tactic| ktn_call $m $b:ident) => `(tactic| ((first | (apply HJ $m; walk_at "m") | (apply MJ $m; walk_at "m") | (apply MY $m; walk_at "m")); unfold $b; walk_at "d"))
local macro_rules | `(tactic| walk_at "t") => `(tactic| first | exact Ej | (refine Bs (MethAt.mono (by walk_at "a") (by decide)) jL ?_; walk_at "t"))
section
variable[aC]{u:U}
noncomputable def Q0(u:U):Prop:=(((((((((((((((((((((((((((((((((((((((((((((((((KC u (Zs u ["isinstance","int","bool","str","len","tuple","all","zip","range","enumerate","sorted","any","reversed"]) [("_law_fits",top 43),("_law_keeps",top 44),("names_of",top 13),("place_of",top 14),("replaced",top 21),("in_key",top 20),("with_fields",top 22),("kind_at",top 19),("named_elsewhere",top 23),("_law_back",top 48),("_law_shown",top 49),("_law_draw",top 35),("_law_value",top 40),("_law_table",top 41),("_law_rows",top 42),("_law_cell_at",top 34),("kinds_of",top 9),("least",top 10),("least_row",top 17),("_law_told",top 47),("_law_step",top 46),("_law_words",top 37),("_law_names",top 36),("_law_inner",top 38),("_law_kind",top 39),("_law_form",top 45)])/\∃t,u.mg "LEAST_BY"=some (.int 2 t))/\∃t,u.mg "MOST_BY"=some (.int 1000000000 t))/\∃t,u.mg "MOST_FIELDS"=some (.int 8 t))/\dU u.K "name" ["Part"])/\dU u.K "by" ["Part"])/\dU u.K "quotient" ["Fuse"])/\dU u.K "rest" ["Fuse"])/\dU u.K "by" ["Fuse"])/\dU u.K "name" ["Fuse"])/\dU u.K "quotient" ["Part"])/\dU u.K "rest" ["Part"])/\dU u.K "old" ["Rename"])/\dU u.K "new" ["Rename"])/\iW u.P u.w u.K u.mg u.base 1 "Rename" ["self","old","new"] ["old","new"])/\iW u.P u.w u.K u.mg u.base 1 "Part" ["self","name","by","quotient","rest"] ["name","by","quotient","rest"])/\iW u.P u.w u.K u.mg u.base 1 "Fuse" ["self","quotient","rest","by","name"] ["quotient","rest","by","name"])/\m9 u.P u.w u.K u.mg u.base 1 "Torn" ["self","view"] ["view"])/\ExcAt u.K u.mg "NoField")/\ExcAt u.K u.mg "NoKind")/\ExcAt u.K u.mg "Twice")/\ExcAt u.K u.mg "TooMany")/\sL u.K u.mg "GlassError" ["NoField","Twice","NoKind","TooMany","Torn"])/\Dm u "Step" "put" "Step.put" (inClass (top 25) 3))/\Dm u "Rename" "put" "Step.put" (inClass (top 25) 3))/\Dm u "Part" "put" "Part.put" (inClass (top 29) 6))/\Dl u "sorted_by" (top 16))/\yY u.mg u.base u.cL u.T)/\∀H,aC.tab H->H u.T=some (.ext (lq u.T ⟨41,34,41,56⟩ ((("sorted_by":Str)++".<locals>.")++"<lambda>"))))/\Dm u "Fuse" "put" "Fuse.put" (inClass (top 30) 5))/\Dm u "Step" "got" "Step.got" (inClass (top 25) 2))/\Dm u "Rename" "got" "Step.got" (inClass (top 25) 2))/\Dm u "Part" "got" "Part.got" (inClass (top 29) 5))/\Dm u "Fuse" "check_kinds" "Fuse.check_kinds" (inClass (top 30) 3))/\Dm u "Fuse" "view_form" "Fuse.view_form" (inClass (top 30) 2))/\Dm u "Fuse" "got" "Fuse.got" (inClass (top 30) 4))/\Dm u "Part" "steady" "Step.steady" (inClass (top 25) 5))/\Dm u "Fuse" "steady" "Step.steady" (inClass (top 25) 5))/\Dm u "Step" "steady" "Step.steady" (inClass (top 25) 5))/\Dm u "Rename" "steady" "Step.steady" (inClass (top 25) 5))/\Dm u "Part" "exact" "Step.exact" (inClass (top 25) 4))/\Dm u "Fuse" "exact" "Step.exact" (inClass (top 25) 4))/\Dm u "Step" "exact" "Step.exact" (inClass (top 25) 4))/\Dm u "Rename" "exact" "Step.exact" (inClass (top 25) 4))/\Dm u "Step" "view_form" "Step.view_form" (inClass (top 25) 1))/\Dm u "Part" "check_ends" "Part.check_ends" (inClass (top 29) 4))/\Dm u "Part" "check_names" "Part.check_names" (inClass (top 29) 3))/\Dm u "Part" "view_form" "Part.view_form" (inClass (top 29) 2))/\Dm u "Rename" "view_form" "Rename.view_form" (inClass (top 32) 2))
theorem gG(q:Q0 u):∀n:Nat,Ca u (0+n) "_law_fits" ["_law_kind_here","_law_value_here"] (aR n)/\Ca u (0+n) "_law_keeps" ["_law_form_here","_law_table_here"] (aN n)
 |0=>by
  rw[aR];rw[aN];exact⟨Jk (by walk_at "a") (by walk_at "b"),Jk (by walk_at "a") (by walk_at "b")⟩
 |n+1=>by
  have ih:=gG q n;have c0:=ih.1;have a0:=iL n;have c1:=ih.2;have a1:=iC n;rw[dN];rw[eL];refine⟨?_,?_⟩
  ·apply HJ (k:=0+n) [];walk_at "m";unfold fA;walk_at "d"
  ·apply HJ (k:=0+n) ["_law_kinds","_law_many","_law_row"];walk_at "m";unfold fN;walk_at "d"
noncomputable def Q1(u:U):Prop:=(((Q0 u/\Ca u 12 "_law_fits" ["_law_kind_here","_law_value_here"] (aR 12))/\Ar 2 (aR 12))/\Ca u 12 "_law_keeps" ["_law_form_here","_law_table_here"] (aN 12))/\Ar 2 (aN 12)
theorem e1(q:Q0 u):Q1 u:=⟨⟨⟨⟨q,(gG q 12).1⟩,iL 12⟩,(gG q 12).2⟩,iC 12⟩
noncomputable def Q2(u:U):Prop:=(Q1 u/\Ma u 1 "Step" "put" ["self","form","table","view"] (ao bK 4 4))/\Ma u 1 "Rename" "put" ["self","form","table","view"] (ao bK 4 4)
theorem e2(q:Q1 u):Q2 u:=⟨⟨q,(by ktn_call [] bK)⟩,(by ktn_call [] bK)⟩
noncomputable def Q3(u:U):Prop:=Q2 u/\Ca u 1 "names_of" ["form"] (ao eR 1 1)
theorem e3(q:Q2 u):Q3 u:=⟨q,(by ktn_call [] eR)⟩
noncomputable def Q4(u:U):Prop:=Q3 u/\Ca u 2 "place_of" ["form","name"] (ao bS 2 4)
theorem e4(q:Q3 u):Q4 u:=⟨q,(by ktn_call ["place","other"] bS)⟩
noncomputable def Q5(u:U):Prop:=Q4 u/\Ma u 3 "Part" "put" ["self","form","table","view"] (ao dj 4 5)
theorem e5(q:Q4 u):Q5 u:=⟨q,(by ktn_call ["place"] dj)⟩
noncomputable def Q6(u:U):Prop:=Q5 u/\Ca u 1 "sorted_by" ["many","rows"] (ao cZ 2 2)
theorem e6(q:Q5 u):Q6 u:=⟨q,(by ktn_call [] cZ)⟩
noncomputable def Q7(u:U):Prop:=Q6 u/\Ca u 1 "replaced" ["values","place","others"] (ao bT 3 3)
theorem e7(q:Q6 u):Q7 u:=⟨q,(by ktn_call [] bT)⟩
noncomputable def Q8(u:U):Prop:=Q7 u/\Ma u 3 "Fuse" "put" ["self","form","table","view"] (ao dh 4 10)
theorem e8(q:Q7 u):Q8 u:=⟨q,(by ktn_call ["place","gone","rows","row","wide","number"] dh)⟩
noncomputable def Q9(u:U):Prop:=(Q8 u/\Ma u 1 "Step" "got" ["self","form","table"] (ao bg 3 3))/\Ma u 1 "Rename" "got" ["self","form","table"] (ao bg 3 3)
theorem e9(q:Q8 u):Q9 u:=⟨⟨q,(by ktn_call [] bg)⟩,(by ktn_call [] bg)⟩
noncomputable def Ly(u:U):Prop:=Q9 u/\Ma u 3 "Part" "got" ["self","form","table"] (ao cu 3 4)
theorem e10(q:Q9 u):Ly u:=⟨q,(by ktn_call ["place"] cu)⟩
noncomputable def J2(u:U):Prop:=Ly u/\Ca u 1 "in_key" ["form","place"] (ao fF 2 2)
theorem Kc(q:Ly u):J2 u:=⟨q,(by ktn_call [] fF)⟩
noncomputable def Ka(u:U):Prop:=J2 u/\Ca u 2 "with_fields" ["form","place","fields"] (ao bC 3 3)
theorem My(q:J2 u):Ka u:=⟨q,(by ktn_call [] bC)⟩
noncomputable def Km(u:U):Prop:=Ka u/\Ca u 1 "kind_at" ["form","place"] (ao dr 2 2)
theorem Ml(q:Ka u):Km u:=⟨q,(by ktn_call [] dr)⟩
noncomputable def JZ(u:U):Prop:=Km u/\Ca u 1 "named_elsewhere" ["form","name","places"] (ao bx 3 4)
theorem ML(q:Km u):JZ u:=⟨q,(by ktn_call ["fields"] bx)⟩
noncomputable def Ls(u:U):Prop:=JZ u/\Ma u 2 "Fuse" "check_kinds" ["self","form","place","gone"] (ao bc 4 4)
theorem M3(q:JZ u):Ls u:=⟨q,(by ktn_call [] bc)⟩
noncomputable def Kf(u:U):Prop:=Ls u/\Ta u 2 "check_kinds" ["self","form","place","gone"] [("Fuse",(ao bc 4 4))]
theorem Mb(q:Ls u):Kf u:=⟨q,(by walk_at "t")⟩
noncomputable def J0(u:U):Prop:=Kf u/\Ma u 3 "Fuse" "view_form" ["self","form"] (ao aE 2 6)
theorem M5(q:Kf u):J0 u:=⟨q,(by ktn_call ["place","gone","kind","numbers"] aE)⟩
noncomputable def Kn(u:U):Prop:=J0 u/\Ta u 3 "view_form" ["self","form"] [("Fuse",(ao aE 2 6))]
theorem MU(q:J0 u):Kn u:=⟨q,(by walk_at "t")⟩
noncomputable def KJ(u:U):Prop:=Kn u/\Ma u 4 "Fuse" "got" ["self","form","table"] (ao cq 3 8)
theorem MS(q:Kn u):KJ u:=⟨q,(by ktn_call ["place","gone","rows","row","number"] cq)⟩
noncomputable def Kt(u:U):Prop:=KJ u/\Ta u 4 "got" ["self","form","table"] [("Step",(ao bg 3 3)),("Part",(ao cu 3 4)),("Fuse",(ao cq 3 8)),("Rename",(ao bg 3 3))]
theorem e20(q:KJ u):Kt u:=⟨q,(by walk_at "t")⟩
noncomputable def Ky(u:U):Prop:=Kt u/\Ta u 3 "put" ["self","form","table","view"] [("Step",(ao bK 4 4)),("Part",(ao dj 4 5)),("Fuse",(ao dh 4 10)),("Rename",(ao bK 4 4))]
theorem MF(q:Kt u):Ky u:=⟨q,(by walk_at "t")⟩
noncomputable def KA(u:U):Prop:=Ky u/\Ca u 13 "_law_back" ["_law_steps","_law_forms","_law_table_here","_law_view"] (ao bG 4 6)
theorem MB(q:Ky u):KA u:=⟨q,(by ktn_call ["_law_tables","_law_k"] bG)⟩
noncomputable def Kx(u:U):Prop:=KA u/\Ca u 13 "_law_shown" ["_law_steps","_law_forms","_law_table_here"] (ao b8 3 5)
theorem Mu(q:KA u):Kx u:=⟨q,(by ktn_call ["_law_k","_law_many"] b8)⟩
noncomputable def Jp(u:U):Prop:=Kx u/\Ca u 1 "_law_draw" ["_law_cell","_law_j"] (ao aA 2 3)
theorem MK(q:Kx u):Jp u:=⟨q,(by ktn_call ["_law_number"] aA)⟩
theorem fW(q:Jp u):∀n:Nat,Ca u (1+n) "_law_value" ["_law_kind_here","_law_cell"] (aG n)/\Ca u (1+n) "_law_table" ["_law_form_here","_law_cells"] (aJ n)
 |0=>by
  rw[aG];rw[aJ];exact⟨Jk (by walk_at "a") (by walk_at "b"),Jk (by walk_at "a") (by walk_at "b")⟩
 |n+1=>by
  have ih:=fW q n;have c0:=ih.1;have a0:=iF n;have c1:=ih.2;have a1:=iA n;rw[cg];rw[dA];refine⟨?_,?_⟩
  ·apply HJ (k:=1+n) [];walk_at "m";unfold df;walk_at "d"
  ·apply HJ (k:=1+n) ["_law_kinds","_law_many","_law_found","_law_cell","_law_row","_law_at"];walk_at "m";unfold dH;walk_at "d"
noncomputable def KU(u:U):Prop:=(((Jp u/\Ca u 13 "_law_value" ["_law_kind_here","_law_cell"] (aG 12))/\Ar 2 (aG 12))/\Ca u 13 "_law_table" ["_law_form_here","_law_cells"] (aJ 12))/\Ar 2 (aJ 12)
theorem Mi(q:Jp u):KU u:=⟨⟨⟨⟨q,(fW q 12).1⟩,iF 12⟩,(fW q 12).2⟩,iA 12⟩
noncomputable def Lq(u:U):Prop:=KU u/\Ca u 14 "_law_rows" ["_law_form_here","_law_cell","_law_more"] (ao bV 3 4)
theorem MD(q:KU u):Lq u:=⟨q,(by ktn_call ["_law_many"] bV)⟩
noncomputable def Ld(u:U):Prop:=Lq u/\Ca u 1 "_law_cell_at" ["_law_script","_law_k"] (ao bQ 2 2)
theorem MN(q:Lq u):Ld u:=⟨q,(by ktn_call [] bQ)⟩
noncomputable def Ku(u:U):Prop:=(((Ld u/\Ma u 1 "Part" "steady" ["self","form"] (ao az 2 2))/\Ma u 1 "Fuse" "steady" ["self","form"] (ao az 2 2))/\Ma u 1 "Step" "steady" ["self","form"] (ao az 2 2))/\Ma u 1 "Rename" "steady" ["self","form"] (ao az 2 2)
theorem MR(q:Ld u):Ku u:=⟨⟨⟨⟨q,(by ktn_call [] az)⟩,(by ktn_call [] az)⟩,(by ktn_call [] az)⟩,(by ktn_call [] az)⟩
noncomputable def KQ(u:U):Prop:=(((Ku u/\Ma u 1 "Part" "exact" ["self","form"] (ao aD 2 2))/\Ma u 1 "Fuse" "exact" ["self","form"] (ao aD 2 2))/\Ma u 1 "Step" "exact" ["self","form"] (ao aD 2 2))/\Ma u 1 "Rename" "exact" ["self","form"] (ao aD 2 2)
theorem Mw(q:Ku u):KQ u:=⟨⟨⟨⟨q,(by ktn_call [] aD)⟩,(by ktn_call [] aD)⟩,(by ktn_call [] aD)⟩,(by ktn_call [] aD)⟩
noncomputable def Kp(u:U):Prop:=KQ u/\Ma u 1 "Step" "view_form" ["self","form"] (ao cC 2 2)
theorem L7(q:KQ u):Kp u:=⟨q,(by ktn_call [] cC)⟩
noncomputable def Jr(u:U):Prop:=Kp u/\Ca u 1 "kinds_of" ["form"] (ao dY 1 1)
theorem M4(q:Kp u):Jr u:=⟨q,(by ktn_call [] dY)⟩
theorem pP(q:Jr u):∀n:Nat,Ca u (1+n) "least" ["kind"] (bN n)
 |0=>by
  rw[bN];exact Jk (by walk_at "a") (by walk_at "b")
 |n+1=>by
  have ih:=pP q n;have c0:=ih;have a0:=nU n;rw[dJ];apply HJ (k:=1+n) [];walk_at "m";unfold hX;walk_at "d"
noncomputable def K6(u:U):Prop:=(Jr u/\Ca u 13 "least" ["kind"] (bN 12))/\Ar 1 (bN 12)
theorem MZ(q:Jr u):K6 u:=⟨⟨q,(pP q 12)⟩,nU 12⟩
noncomputable def Kz(u:U):Prop:=K6 u/\Ca u 14 "least_row" ["form"] (ao fw 1 1)
theorem MA(q:K6 u):Kz u:=⟨q,(by ktn_call [] fw)⟩
noncomputable def Lg(u:U):Prop:=Kz u/\Ma u 15 "Part" "check_ends" ["self","form","place"] (ao bR 3 5)
theorem MQ(q:Kz u):Lg u:=⟨q,(by ktn_call ["kind","row"] bR)⟩
noncomputable def Lp(u:U):Prop:=Lg u/\Ma u 2 "Part" "check_names" ["self","form","place"] (ao bL 3 3)
theorem MO(q:Lg u):Lp u:=⟨q,(by ktn_call [] bL)⟩
noncomputable def KY(u:U):Prop:=Lp u/\Ta u 2 "check_names" ["self","form","place"] [("Part",(ao bL 3 3))]
theorem Mp(q:Lp u):KY u:=⟨q,(by walk_at "t")⟩
noncomputable def J9(u:U):Prop:=KY u/\Ta u 15 "check_ends" ["self","form","place"] [("Part",(ao bR 3 5))]
theorem Mt(q:KY u):J9 u:=⟨q,(by walk_at "t")⟩
noncomputable def J8(u:U):Prop:=J9 u/\Ma u 16 "Part" "view_form" ["self","form"] (ao aB 2 6)
theorem ME(q:J9 u):J8 u:=⟨q,(by ktn_call ["place","kind","quotients","rests"] aB)⟩
noncomputable def KO(u:U):Prop:=J8 u/\Ma u 3 "Rename" "view_form" ["self","form"] (ao aV 2 3)
theorem Mq(q:J8 u):KO u:=⟨q,(by ktn_call ["place"] aV)⟩
noncomputable def K9(u:U):Prop:=KO u/\Ta u 16 "view_form" ["self","form"] [("Step",(ao cC 2 2)),("Part",(ao aB 2 6)),("Fuse",(ao aE 2 6)),("Rename",(ao aV 2 3))]
theorem Mf(q:KO u):K9 u:=⟨q,(by walk_at "t")⟩
noncomputable def Lw(u:U):Prop:=K9 u/\Ca u 17 "_law_told" ["_law_step_here","_law_form_here"] (ao cB 2 3)
theorem L3(q:K9 u):Lw u:=⟨q,(by ktn_call ["_law_found"] cB)⟩
noncomputable def Li(u:U):Prop:=Lw u/\Ca u 3 "_law_step" ["_law_cell","_law_form_here","_law_names_here"] (ao eD 3 9)
theorem Mh(q:Lw u):Li u:=⟨q,(by ktn_call ["_law_there","_law_kinds","_law_at","_law_other","_law_new","_law_by"] eD)⟩
noncomputable def JR(u:U):Prop:=Li u/\Ca u 2 "_law_words" ["_law_cell"] (ao cM 1 7)
theorem M0(q:Li u):JR u:=⟨q,(by ktn_call ["_law_letters","_law_many","_law_full","_law_at","_law_first","_law_end"] cM)⟩
noncomputable def LD(u:U):Prop:=JR u/\Ca u 2 "_law_names" ["_law_cell","_law_many"] (ao cA 2 10)
theorem MV(q:JR u):LD u:=⟨q,(by ktn_call ["_law_letters","_law_base","_law_long","_law_at","_law_step_here","_law_names_here","_law_k","_law_sign"] cA)⟩
noncomputable def Lc(u:U):Prop:=LD u/\Ca u 3 "_law_inner" ["_law_cell"] (ao eJ 1 4)
theorem L9(q:LD u):Lc u:=⟨q,(by ktn_call ["_law_names_here","_law_low","_law_key"] eJ)⟩
noncomputable def Lx(u:U):Prop:=Lc u/\Ca u 4 "_law_kind" ["_law_cell","_law_deep"] (ao ce 2 4)
theorem Md(q:Lc u):Lx u:=⟨q,(by ktn_call ["_law_some","_law_low"] ce)⟩
noncomputable def Ki(u:U):Prop:=Lx u/\Ca u 5 "_law_form" ["_law_script","_law_names_here"] (ao eG 2 9)
theorem MP(q:Lx u):Ki u:=⟨q,(by ktn_call ["_law_cell","_law_many","_law_fields","_law_k","_law_some","_law_kind_here","_law_low"] eG)⟩
noncomputable def K7(u:U):Prop:=Ki u/\Ta u 1 "exact" ["self","form"] [("Step",(ao aD 2 2)),("Part",(ao aD 2 2)),("Fuse",(ao aD 2 2)),("Rename",(ao aD 2 2))]
theorem MX(q:Ki u):K7 u:=⟨q,(by walk_at "t")⟩
noncomputable def LQ(u:U):Prop:=K7 u/\Ta u 1 "steady" ["self","form"] [("Step",(ao az 2 2)),("Part",(ao az 2 2)),("Fuse",(ao az 2 2)),("Rename",(ao az 2 2))]
theorem Mm(q:K7 u):LQ u:=⟨q,(by walk_at "t")⟩
theorem Iq{f:RG}{fd:SD}(F:ou u.K "law" "law" (top 50) f fd)(q:LQ u):fP u.P u.w u.K u.mg u.base (iH u.P u.w) 18 f fd ["_law_script"] (xP u.K 1 (ao lW 1 13)):=by
 refine Mx ["_law_names_here","_law_forms","_law_steps","_law_cell","_law_step_here","_law_found","_law_table_here","_law_first","_law_second","_law_seen","_law_one","_law_two"] F ?_ ?_
 ·exact‹2›
 refine λnd=>⟨λcdv A outer s H E hr hp=>?_⟩
 unfold lW;walk_at "d"
set_option hygiene true
variable{P:RM}{w:RL}{K:Qw}{mg:bP}{base:RN}
theorem sC{C f:RG}{fd:SD}(h1:clsAt K "Rename" C)(hM:Mk K C f)(cl:pH K C)(na:∀g∈(["old","new"]:au),dF K C g)(F:ou K "__init__" "Rename.__init__" gz f fd)(b:Binds K fd ["self","old","new"] [])(hmg:mg "Rename"=some (.ref C)):iW P w K mg base 1 "Rename" ["self","old","new"] ["old","new"]:=
 lG (k:=0) h1 hM cl na F b hmg jK rfl (by decide +kernel) (by decide) λcdv A outer s H E=>(et rfl (pv 0) (pv 1) rfl (lT rfl (pv 0) (pv 2) rfl))
theorem yA{C f:RG}{fd:SD}(h1:clsAt K "Part" C)(hM:Mk K C f)(cl:pH K C)(na:∀g∈(["name","by","quotient","rest"]:au),dF K C g)(F:ou K "__init__" "Part.__init__" iE f fd)(b:Binds K fd ["self","name","by","quotient","rest"] [])(hmg:mg "Part"=some (.ref C)):iW P w K mg base 1 "Part" ["self","name","by","quotient","rest"] ["name","by","quotient","rest"]:=
 lG (k:=0) h1 hM cl na F b hmg lw rfl (by decide +kernel) (by decide) λcdv A outer s H E=>(et rfl (pv 0) (pv 1) rfl (et rfl (pv 0) (pv 2) rfl (et rfl (pv 0) (pv 3) rfl (lT rfl (pv 0) (pv 4) rfl))))
theorem yr{C f:RG}{fd:SD}(h1:clsAt K "Fuse" C)(hM:Mk K C f)(cl:pH K C)(na:∀g∈(["quotient","rest","by","name"]:au),dF K C g)(F:ou K "__init__" "Fuse.__init__" iz f fd)(b:Binds K fd ["self","quotient","rest","by","name"] [])(hmg:mg "Fuse"=some (.ref C)):iW P w K mg base 1 "Fuse" ["self","quotient","rest","by","name"] ["quotient","rest","by","name"]:=
 lG (k:=0) h1 hM cl na F b hmg lR rfl (by decide +kernel) (by decide) λcdv A outer s H E=>(et rfl (pv 0) (pv 1) rfl (et rfl (pv 0) (pv 2) rfl (et rfl (pv 0) (pv 3) rfl (lT rfl (pv 0) (pv 4) rfl))))
theorem vv{C f:RG}{fd:SD}(h1:clsAt K "Torn" C)(hM:JD K C f)(na:∀g∈(["view"]:au),dF K C g)(F:ou K "__init__" "Torn.__init__" iD f fd)(b:Binds K fd ["self","view"] [])(hmg:mg "Torn"=some (.ref C)):m9 P w K mg base 1 "Torn" ["self","view"] ["view"]:=
 uT (k:=0) h1 hM na F b hmg kZ rfl (by decide +kernel) (by decide) λcdv A outer s H E=>(xx rfl (pv 0) (pv 1) rfl)
end
theorem all_mk{l:Ra}{w:RL}{K:Qw}{h:RN}{mg:bP}{fa:RG}(X:K.In h)(G:h.Ns RQ mg)(hfa:mg "law"=some (.ref fa)){f1 f2:RG}
  (ac0:QO K RQ "Part"=some (some (.ref Cl0)))
  (ac1:QO K RQ "Fuse"=some (some (.ref Cl1)))
  (ac2:QO K RQ "Step"=some (some (.ref Cl2)))
  (ac3:QO K RQ "Rename"=some (some (.ref Cl3)))
  (a0:QA K (.ref Cl2) "put"=some (some (.ref f0)))
  (a0_3:QA K (.ref Cl3) "put"=some (some (.ref f0)))
  (i0:QD K (.ref f0)=true)
  (l0:Lk K f0 "put" "Step.put" (inClass (top 25) 3) oc0 od0 kV0 dc0 pm0 an0 cd0 ct0 sl0)
  (c0:QN K cd0 "Step.put"=true)
  (k0:QJ K (.ref f0)=true)
  (a1:QA K (.ref Cl0) "put"=some (some (.ref f1)))
  (i1:QD K (.ref f1)=true)
  (l1:Lk K f1 "put" "Part.put" (inClass (top 29) 6) oc1 od1 kV1 dc1 pm1 an1 cd1 ct1 sl1)
  (c1:QN K cd1 "Part.put"=true)
  (k1:QJ K (.ref f1)=true)
  (a2:QO K RQ "sorted_by"=some (some (.ref f2)))
  (l2:Lk K f2 "sorted_by" "sorted_by" (top 16) oc2 od2 kV2 dc2 pm2 an2 cd2 ct2 sl2)
  (c2:QN K cd2 "sorted_by"=true)
  (k2:QJ K (.ref f2)=true)
  (a3:QA K (.ref Cl1) "put"=some (some (.ref f3)))
  (i3:QD K (.ref f3)=true)
  (l3:Lk K f3 "put" "Fuse.put" (inClass (top 30) 5) oc3 od3 kV3 dc3 pm3 an3 cd3 ct3 sl3)
  (c3:QN K cd3 "Fuse.put"=true)
  (k3:QJ K (.ref f3)=true)
  (a4:QA K (.ref Cl2) "got"=some (some (.ref f4)))
  (a4_3:QA K (.ref Cl3) "got"=some (some (.ref f4)))
  (i4:QD K (.ref f4)=true)
  (l4:Lk K f4 "got" "Step.got" (inClass (top 25) 2) oc4 od4 kV4 dc4 pm4 an4 cd4 ct4 sl4)
  (c4:QN K cd4 "Step.got"=true)
  (k4:QJ K (.ref f4)=true)
  (a5:QA K (.ref Cl0) "got"=some (some (.ref f5)))
  (i5:QD K (.ref f5)=true)
  (l5:Lk K f5 "got" "Part.got" (inClass (top 29) 5) oc5 od5 kV5 dc5 pm5 an5 cd5 ct5 sl5)
  (c5:QN K cd5 "Part.got"=true)
  (k5:QJ K (.ref f5)=true)
  (a6:QA K (.ref Cl1) "check_kinds"=some (some (.ref f6)))
  (i6:QD K (.ref f6)=true)
  (l6:Lk K f6 "check_kinds" "Fuse.check_kinds" (inClass (top 30) 3) oc6 od6 kV6 dc6 pm6 an6 cd6 ct6 sl6)
  (c6:QN K cd6 "Fuse.check_kinds"=true)
  (k6:QJ K (.ref f6)=true)
  (a7:QA K (.ref Cl1) "view_form"=some (some (.ref f7)))
  (i7:QD K (.ref f7)=true)
  (l7:Lk K f7 "view_form" "Fuse.view_form" (inClass (top 30) 2) oc7 od7 kV7 dc7 pm7 an7 cd7 ct7 sl7)
  (c7:QN K cd7 "Fuse.view_form"=true)
  (k7:QJ K (.ref f7)=true)
  (a8:QA K (.ref Cl1) "got"=some (some (.ref f8)))
  (i8:QD K (.ref f8)=true)
  (l8:Lk K f8 "got" "Fuse.got" (inClass (top 30) 4) oc8 od8 kV8 dc8 pm8 an8 cd8 ct8 sl8)
  (c8:QN K cd8 "Fuse.got"=true)
  (k8:QJ K (.ref f8)=true)
  (a9:QA K (.ref Cl0) "steady"=some (some (.ref f9)))
  (a9_1:QA K (.ref Cl1) "steady"=some (some (.ref f9)))
  (a9_2:QA K (.ref Cl2) "steady"=some (some (.ref f9)))
  (a9_3:QA K (.ref Cl3) "steady"=some (some (.ref f9)))
  (i9:QD K (.ref f9)=true)
  (l9:Lk K f9 "steady" "Step.steady" (inClass (top 25) 5) oc9 od9 kV9 dc9 pm9 an9 cd9 ct9 sl9)
  (c9:QN K cd9 "Step.steady"=true)
  (k9:QJ K (.ref f9)=true)
  (a10:QA K (.ref Cl0) "exact"=some (some (.ref f10)))
  (a10_1:QA K (.ref Cl1) "exact"=some (some (.ref f10)))
  (a10_2:QA K (.ref Cl2) "exact"=some (some (.ref f10)))
  (a10_3:QA K (.ref Cl3) "exact"=some (some (.ref f10)))
  (i10:QD K (.ref f10)=true)
  (l10:Lk K f10 "exact" "Step.exact" (inClass (top 25) 4) oc10 od10 kV10 dc10 pm10 an10 cd10 ct10 sl10)
  (c10:QN K cd10 "Step.exact"=true)
  (k10:QJ K (.ref f10)=true)
  (a11:QA K (.ref Cl2) "view_form"=some (some (.ref f11)))
  (i11:QD K (.ref f11)=true)
  (l11:Lk K f11 "view_form" "Step.view_form" (inClass (top 25) 1) oc11 od11 kV11 dc11 pm11 an11 cd11 ct11 sl11)
  (c11:QN K cd11 "Step.view_form"=true)
  (k11:QJ K (.ref f11)=true)
  (a12:QA K (.ref Cl0) "check_ends"=some (some (.ref f12)))
  (i12:QD K (.ref f12)=true)
  (l12:Lk K f12 "check_ends" "Part.check_ends" (inClass (top 29) 4) oc12 od12 kV12 dc12 pm12 an12 cd12 ct12 sl12)
  (c12:QN K cd12 "Part.check_ends"=true)
  (k12:QJ K (.ref f12)=true)
  (a13:QA K (.ref Cl0) "check_names"=some (some (.ref f13)))
  (i13:QD K (.ref f13)=true)
  (l13:Lk K f13 "check_names" "Part.check_names" (inClass (top 29) 3) oc13 od13 kV13 dc13 pm13 an13 cd13 ct13 sl13)
  (c13:QN K cd13 "Part.check_names"=true)
  (k13:QJ K (.ref f13)=true)
  (a14:QA K (.ref Cl0) "view_form"=some (some (.ref f14)))
  (i14:QD K (.ref f14)=true)
  (l14:Lk K f14 "view_form" "Part.view_form" (inClass (top 29) 2) oc14 od14 kV14 dc14 pm14 an14 cd14 ct14 sl14)
  (c14:QN K cd14 "Part.view_form"=true)
  (k14:QJ K (.ref f14)=true)
  (a15:QA K (.ref Cl3) "view_form"=some (some (.ref f15)))
  (i15:QD K (.ref f15)=true)
  (l15:Lk K f15 "view_form" "Rename.view_form" (inClass (top 32) 2) oc15 od15 kV15 dc15 pm15 an15 cd15 ct15 sl15)
  (c15:QN K cd15 "Rename.view_form"=true)
  (k15:QJ K (.ref f15)=true)
  (a16:QO K RQ "law"=some (some (.ref f16)))
  (l16:Lk K f16 "law" "law" (top 50) oc16 od16 kV16 dc16 pm16 an16 cd16 ct16 sl16)
  (c16:QN K cd16 "law"=true)
  (k16:QJ K (.ref f16)=true)
  (a17:QA K (.ref Cl3) "__init__"=some (some (.ref f17)))
  (i17:QD K (.ref f17)=true)
  (l17:Lk K f17 "__init__" "Rename.__init__" (inClass (top 32) 0) oc17 od17 kV17 dc17 pm17 an17 cd17 ct17 sl17)
  (c17:QN K cd17 "Rename.__init__"=true)
  (k17:QJ K (.ref f17)=true)
  (a18:QA K (.ref Cl0) "__init__"=some (some (.ref f18)))
  (i18:QD K (.ref f18)=true)
  (l18:Lk K f18 "__init__" "Part.__init__" (inClass (top 29) 0) oc18 od18 kV18 dc18 pm18 an18 cd18 ct18 sl18)
  (c18:QN K cd18 "Part.__init__"=true)
  (k18:QJ K (.ref f18)=true)
  (a19:QA K (.ref Cl1) "__init__"=some (some (.ref f19)))
  (i19:QD K (.ref f19)=true)
  (l19:Lk K f19 "__init__" "Fuse.__init__" (inClass (top 30) 0) oc19 od19 kV19 dc19 pm19 an19 cd19 ct19 sl19)
  (c19:QN K cd19 "Fuse.__init__"=true)
  (k19:QJ K (.ref f19)=true)
  (p0:Qy K Cl0 Str.empty=true)
  (q0:Qz K Cl0=true)
  (r0:QE K Cl0=true)
  (s0:QA K (.ref Cl0) "__setattr__"=some (some (.builtin "object.__setattr__")))
  (n0_0:QA K (.ref Cl0) "name"=some none)
  (n0_1:QA K (.ref Cl0) "by"=some none)
  (n0_2:QA K (.ref Cl0) "quotient"=some none)
  (n0_3:QA K (.ref Cl0) "rest"=some none)
  (m0:QG K Cl0=true)
  (kp0:QJ K (.ref Cl0)=true)
  (p1:Qy K Cl1 Str.empty=true)
  (q1:Qz K Cl1=true)
  (r1:QE K Cl1=true)
  (s1:QA K (.ref Cl1) "__setattr__"=some (some (.builtin "object.__setattr__")))
  (n1_0:QA K (.ref Cl1) "quotient"=some none)
  (n1_1:QA K (.ref Cl1) "rest"=some none)
  (n1_2:QA K (.ref Cl1) "by"=some none)
  (n1_3:QA K (.ref Cl1) "name"=some none)
  (m1:QG K Cl1=true)
  (kp1:QJ K (.ref Cl1)=true)
  (p2:Qy K Cl2 Str.empty=true)
  (q2:Qz K Cl2=true)
  (r2:QE K Cl2=true)
  (s2:QA K (.ref Cl2) "__setattr__"=some (some (.builtin "object.__setattr__")))
  (p3:Qy K Cl3 Str.empty=true)
  (q3:Qz K Cl3=true)
  (r3:QE K Cl3=true)
  (s3:QA K (.ref Cl3) "__setattr__"=some (some (.builtin "object.__setattr__")))
  (n3_0:QA K (.ref Cl3) "old"=some none)
  (n3_1:QA K (.ref Cl3) "new"=some none)
  (m3:QG K Cl3=true)
  (kp3:QJ K (.ref Cl3)=true)
  (xa0:QO K RQ "NoField"=some (some (.ref Xl0)))
  (xa1:QO K RQ "NoKind"=some (some (.ref Xl1)))
  (xa2:QO K RQ "Twice"=some (some (.ref Xl2)))
  (xa3:QO K RQ "Torn"=some (some (.ref Xl3)))
  (xa4:QO K RQ "TooMany"=some (some (.ref Xl4)))
  (xa5:QO K RQ "GlassError"=some (some (.ref Xl5)))
  (a20:QA K (.ref Xl3) "__init__"=some (some (.ref f20)))
  (i20:QD K (.ref f20)=true)
  (l20:Lk K f20 "__init__" "Torn.__init__" (inClass (top 7) 0) oc20 od20 kV20 dc20 pm20 an20 cd20 ct20 sl20)
  (c20:QN K cd20 "Torn.__init__"=true)
  (k20:QJ K (.ref f20)=true)
  (xs3:QA K (.ref Xl3) "__setattr__"=some (some (.builtin "object.__setattr__")))
  (xp3:QJ K (.ref Xl3)=true)
  (xi3:uJ K Xl3 f20=true)
  (xy3:uU K Xl3=true)
  (xd3:Qz K Xl3=true)
  (xna3_0:QA K (.ref Xl3) "view"=some none)
  (xe0:QT K Xl0 Gy "ValueError.__new__"=true)
  (xe1:QT K Xl1 Gy "ValueError.__new__"=true)
  (xe2:QT K Xl2 Gy "ValueError.__new__"=true)
  (xe4:QT K Xl4 Gy "ValueError.__new__"=true)
  (xsg:PySem.W.specialIn K (.builtin "object.__class__") "__get__"=some (some (.builtin "getset_descriptor.__get__")))
  (xtk:PySem.W.takesIn K (.builtin "object.__class__")=some true)
  (xg0:QA K (.ref Xl0) "__getattribute__"=some (some (.builtin "BaseException.__getattribute__")))
  (xn0:QA K (.ref Xl0) "__getattr__"=some none)
  (xf0:QA K (.ref Xl0) "__class__"=some (some (.builtin "object.__class__")))
  (xb0:QX K Xl0 (.type "BaseException")=some true)
  (xg2:QA K (.ref Xl2) "__getattribute__"=some (some (.builtin "BaseException.__getattribute__")))
  (xn2:QA K (.ref Xl2) "__getattr__"=some none)
  (xf2:QA K (.ref Xl2) "__class__"=some (some (.builtin "object.__class__")))
  (xb2:QX K Xl2 (.type "BaseException")=some true)
  (xg1:QA K (.ref Xl1) "__getattribute__"=some (some (.builtin "BaseException.__getattribute__")))
  (xn1:QA K (.ref Xl1) "__getattr__"=some none)
  (xf1:QA K (.ref Xl1) "__class__"=some (some (.builtin "object.__class__")))
  (xb1:QX K Xl1 (.type "BaseException")=some true)
  (xg4:QA K (.ref Xl4) "__getattribute__"=some (some (.builtin "BaseException.__getattribute__")))
  (xn4:QA K (.ref Xl4) "__getattr__"=some none)
  (xf4:QA K (.ref Xl4) "__class__"=some (some (.builtin "object.__class__")))
  (xb4:QX K Xl4 (.type "BaseException")=some true)
  (xg3:QA K (.ref Xl3) "__getattribute__"=some (some (.builtin "BaseException.__getattribute__")))
  (xn3:QA K (.ref Xl3) "__getattr__"=some none)
  (xf3:QA K (.ref Xl3) "__class__"=some (some (.builtin "object.__class__")))
  (xb3:QX K Xl3 (.type "BaseException")=some true)
  (xo0:QX K Xl0 (.type "object")=some true)
  (xt0:QH K (.ref Xl0)=some (.type "type"))
  (xo1:QX K Xl1 (.type "object")=some true)
  (xt1:QH K (.ref Xl1)=some (.type "type"))
  (xo2:QX K Xl2 (.type "object")=some true)
  (xt2:QH K (.ref Xl2)=some (.type "type"))
  (xo3:QX K Xl3 (.type "object")=some true)
  (xt3:QH K (.ref Xl3)=some (.type "type"))
  (xo4:QX K Xl4 (.type "object")=some true)
  (xt4:QH K (.ref Xl4)=some (.type "type"))
  (xo5:QX K Xl5 (.type "object")=some true)
  (xt5:QH K (.ref Xl5)=some (.type "type"))
  (xw5:QY K (.ref Xl5) (.type "BaseException")=some true)
  (xm5_0:QY K (.ref Xl0) (.ref Xl5)=some true)
  (xm5_2:QY K (.ref Xl2) (.ref Xl5)=some true)
  (xm5_1:QY K (.ref Xl1) (.ref Xl5)=some true)
  (xm5_4:QY K (.ref Xl4) (.ref Xl5)=some true)
  (xm5_3:QY K (.ref Xl3) (.ref Xl5)=some true)
  (dd0:KDs K [("_law_fits",top 43),("_law_keeps",top 44),("names_of",top 13),("place_of",top 14),("replaced",top 21),("in_key",top 20),("with_fields",top 22),("kind_at",top 19),("named_elsewhere",top 23),("_law_back",top 48),("_law_shown",top 49),("_law_draw",top 35),("_law_value",top 40),("_law_table",top 41),("_law_rows",top 42),("_law_cell_at",top 34),("kinds_of",top 9),("least",top 10),("least_row",top 17),("_law_told",top 47),("_law_step",top 46),("_law_words",top 37),("_law_names",top 36),("_law_inner",top 38),("_law_kind",top 39),("_law_form",top 45)])
  (zz:KZs K ["isinstance","int","bool","str","len","tuple","all","zip","range","enumerate","sorted","any","reversed"])
  (ke0:QO K RQ "LEAST_BY"=some (some (.int 2 tk0)))
  (ke1:QO K RQ "MOST_BY"=some (some (.int 1000000000 tk1)))
  (ke2:QO K RQ "MOST_FIELDS"=some (some (.int 8 tk2)))
  (lc:cd2=.ref cL)
  (lh:Rc K cL T=true)
  (lt:K.lookup T=none):
  (∃c,Rc K c T=true)/\K.lookup T=none/\∃fd:SD,(∀(s:RK)(v:RE),SE s fd ⟨[v],[]⟩ [("_law_script",v)])/\∀base:RN,K.In base->base.Ns RQ mg->uF mg base->fP l.prog w K mg base (iH l.prog w) 18 fa fd ["_law_script"] (@xP (qG T ⟨41,34,41,56⟩ ((("sorted_by":Str)++".<locals>.")++"<lambda>")) K 1 (ao lW 1 13)):=by
 letI:aC:=qG T ⟨41,34,41,56⟩ ((("sorted_by":Str)++".<locals>.")++"<lambda>")
 have e:=hfa.symm.trans (Rb X G a16);cases e;have c_LEAST_BY:∃t,mg "LEAST_BY"=some (.int 2 t):=⟨_,Rb X G ke0⟩
 have c_MOST_BY:∃t,mg "MOST_BY"=some (.int 1000000000 t):=⟨_,Rb X G ke1⟩
 have c_MOST_FIELDS:∃t,mg "MOST_FIELDS"=some (.int 8 t):=⟨_,Rb X G ke2⟩
 have F0:=cF (st:=(inClass (top 25) 3)) l0 c0 k0;have F1:=cF (st:=(inClass (top 29) 6)) l1 c1 k1;have F2:=cF (st:=(top 16)) l2 c2 k2;have F3:=cF (st:=(inClass (top 30) 5)) l3 c3 k3;have F4:=cF (st:=(inClass (top 25) 2)) l4 c4 k4;have F5:=cF (st:=(inClass (top 29) 5)) l5 c5 k5;have F6:=cF (st:=(inClass (top 30) 3)) l6 c6 k6;have F7:=cF (st:=(inClass (top 30) 2)) l7 c7 k7;have F8:=cF (st:=(inClass (top 30) 4)) l8 c8 k8;have F9:=cF (st:=(inClass (top 25) 5)) l9 c9 k9;have F10:=cF (st:=(inClass (top 25) 4)) l10 c10 k10;have F11:=cF (st:=(inClass (top 25) 1)) l11 c11 k11;have F12:=cF (st:=(inClass (top 29) 4)) l12 c12 k12;have F13:=cF (st:=(inClass (top 29) 3)) l13 c13 k13;have F14:=cF (st:=(inClass (top 29) 2)) l14 c14 k14;have F15:=cF (st:=(inClass (top 32) 2)) l15 c15 k15;have F16:=cF (st:=(top 50)) l16 c16 k16;have F17:=cF (st:=(inClass (top 32) 0)) l17 c17 k17;have b17:=F17.binds (ps:=["self","old","new"]) λ_ _ _ _ _ _ us hl=>by obtain⟨u0,u1,u2,rfl⟩:=Ga hl;rfl
 have F18:=cF (st:=(inClass (top 29) 0)) l18 c18 k18;have b18:=F18.binds (ps:=["self","name","by","quotient","rest"]) λ_ _ _ _ _ _ us hl=>by obtain⟨u0,u1,u2,u3,u4,rfl⟩:=IU hl;rfl
 have F19:=cF (st:=(inClass (top 30) 0)) l19 c19 k19;have b19:=F19.binds (ps:=["self","quotient","rest","by","name"]) λ_ _ _ _ _ _ us hl=>by obtain⟨u0,u1,u2,u3,u4,rfl⟩:=IU hl;rfl
 have F20:=cF (st:=(inClass (top 7) 0)) l20 c20 k20;have b20:=F20.binds (ps:=["self","view"]) λ_ _ _ _ _ _ us hl=>by obtain⟨u0,u1,rfl⟩:=Gk hl;rfl
 have cl0:pH K Cl0:=⟨p0,q0,r0,s0⟩
 have cl1:pH K Cl1:=⟨p1,q1,r1,s1⟩
 have cl2:pH K Cl2:=⟨p2,q2,r2,s2⟩
 have cl3:pH K Cl3:=⟨p3,q3,r3,s3⟩
 have qN:dU K "name" ["Part"]:=by
  intro c hc C hC;simp only[OD,PR,or_false]at hc;rcases hc with rfl
  ·cases cH hC ac0;exact⟨cl0,n0_0⟩
 have uA:dU K "by" ["Part"]:=by
  intro c hc C hC;simp only[OD,PR,or_false]at hc;rcases hc with rfl
  ·cases cH hC ac0;exact⟨cl0,n0_1⟩
 have lA:dU K "quotient" ["Fuse"]:=by
  intro c hc C hC;simp only[OD,PR,or_false]at hc;rcases hc with rfl
  ·cases cH hC ac1;exact⟨cl1,n1_0⟩
 have rQ:dU K "rest" ["Fuse"]:=by
  intro c hc C hC;simp only[OD,PR,or_false]at hc;rcases hc with rfl
  ·cases cH hC ac1;exact⟨cl1,n1_1⟩
 have u5:dU K "by" ["Fuse"]:=by
  intro c hc C hC;simp only[OD,PR,or_false]at hc;rcases hc with rfl
  ·cases cH hC ac1;exact⟨cl1,n1_2⟩
 have rT:dU K "name" ["Fuse"]:=by
  intro c hc C hC;simp only[OD,PR,or_false]at hc;rcases hc with rfl
  ·cases cH hC ac1;exact⟨cl1,n1_3⟩
 have kX:dU K "quotient" ["Part"]:=by
  intro c hc C hC;simp only[OD,PR,or_false]at hc;rcases hc with rfl
  ·cases cH hC ac0;exact⟨cl0,n0_2⟩
 have qV:dU K "rest" ["Part"]:=by
  intro c hc C hC;simp only[OD,PR,or_false]at hc;rcases hc with rfl
  ·cases cH hC ac0;exact⟨cl0,n0_3⟩
 have oE:dU K "old" ["Rename"]:=by
  intro c hc C hC;simp only[OD,PR,or_false]at hc;rcases hc with rfl
  ·cases cH hC ac3;exact⟨cl3,n3_0⟩
 have oN:dU K "new" ["Rename"]:=by
  intro c hc C hC;simp only[OD,PR,or_false]at hc;rcases hc with rfl
  ·cases cH hC ac3;exact⟨cl3,n3_1⟩
 have lC:pA K f2 (.ref cL):=⟨_,_,_,_,l2,lc⟩
 refine⟨⟨cL,lh⟩,lt,QM "law" "law" (gZ (top 50)) (cT (top 50)) (aw (top 50)) .none kV16 dc16 pm16 an16 cd16 ct16,λs v=>.of_eq rfl,λbase kb _ bm=>?_⟩;have E_NoField:ExcAt K mg "NoField":=⟨_,xa0,Rb X G xa0,xe0⟩
 have E_NoKind:ExcAt K mg "NoKind":=⟨_,xa1,Rb X G xa1,xe1⟩
 have E_Twice:ExcAt K mg "Twice":=⟨_,xa2,Rb X G xa2,xe2⟩
 have E_TooMany:ExcAt K mg "TooMany":=⟨_,xa4,Rb X G xa4,xe4⟩
 have xK0:AV K Xl0:=⟨xg0,xn0,xf0,xsg,xtk,xo0,xb0⟩
 have xK2:AV K Xl2:=⟨xg2,xn2,xf2,xsg,xtk,xo2,xb2⟩
 have xK1:AV K Xl1:=⟨xg1,xn1,xf1,xsg,xtk,xo1,xb1⟩
 have xK4:AV K Xl4:=⟨xg4,xn4,xf4,xsg,xtk,xo4,xb4⟩
 have xK3:AV K Xl3:=⟨xg3,xn3,xf3,xsg,xtk,xo3,xb3⟩
 have RI_Torn:=vv (P:=l.prog) (w:=w) (base:=base) xa3 (Ff xi3 (beq_iff_eq.mp i20) ⟨xs3,xy3,xd3⟩ xp3) (by intro g hg;simp only[OD,PR,or_false]at hg;rcases hg with rfl<;>first|exact xna3_0) F20 b20 (Rb X G xa3);have T_GlassError:sL K mg "GlassError" ["NoField","Twice","NoKind","TooMany","Torn"]:=Am (Rb X G xa5) (by
  intro c hc;simp only[OD,PR,or_false]at hc;rcases hc with rfl|rfl|rfl|rfl|rfl
  ·exact⟨_,xa0,j8 xw5 xm5_0 xo5 xt5⟩
  ·exact⟨_,xa2,j8 xw5 xm5_2 xo5 xt5⟩
  ·exact⟨_,xa1,j8 xw5 xm5_1 xo5 xt5⟩
  ·exact⟨_,xa4,j8 xw5 xm5_4 xo5 xt5⟩
  ·exact⟨_,xa3,j8 xw5 xm5_3 xo5 xt5⟩)
 have BI:=sC (P:=l.prog) (w:=w) (base:=base) ac3 ⟨m3,a17,i17,kp3⟩ cl3 (by intro g hg;simp only[OD,PR,or_false]at hg;rcases hg with rfl|rfl<;>first|exact n3_0|exact n3_1) F17 b17 (Rb X G ac3);have Fj:=yA (P:=l.prog) (w:=w) (base:=base) ac0 ⟨m0,a18,i18,kp0⟩ cl0 (by intro g hg;simp only[OD,PR,or_false]at hg;rcases hg with rfl|rfl|rfl|rfl<;>first|exact n0_0|exact n0_1|exact n0_2|exact n0_3) F18 b18 (Rb X G ac0);have Gx:=yr (P:=l.prog) (w:=w) (base:=base) ac1 ⟨m1,a19,i19,kp1⟩ cl1 (by intro g hg;simp only[OD,PR,or_false]at hg;rcases hg with rfl|rfl|rfl|rfl<;>first|exact n1_0|exact n1_1|exact n1_2|exact n1_3) F19 b19 (Rb X G ac1)
 let u:U:=⟨l.prog,w,K,mg,base,cL,T⟩
 have q0:Q0 u:=⟨⟨⟨⟨⟨⟨⟨⟨⟨⟨⟨⟨⟨⟨⟨⟨⟨⟨⟨⟨⟨⟨⟨⟨⟨⟨⟨⟨⟨⟨⟨⟨⟨⟨⟨⟨⟨⟨⟨⟨⟨⟨⟨⟨⟨⟨⟨⟨(KC.of X G (Zs.of X G zz) dd0),c_LEAST_BY⟩,c_MOST_BY⟩,c_MOST_FIELDS⟩,qN⟩,uA⟩,lA⟩,rQ⟩,u5⟩,rT⟩,kX⟩,qV⟩,oE⟩,oN⟩,BI⟩,Fj⟩,Gx⟩,RI_Torn⟩,E_NoField⟩,E_NoKind⟩,E_Twice⟩,E_TooMany⟩,T_GlassError⟩,⟨_,_,_,ac2,cl2,⟨a0,i0,k0⟩,F0⟩⟩,⟨_,_,_,ac3,cl3,⟨a0_3,i0,k0⟩,F0⟩⟩,⟨_,_,_,ac0,cl0,⟨a1,i1,k1⟩,F1⟩⟩,⟨_,_,F2,Rb X G a2,lC⟩⟩,(Ef kb lh bm)⟩,(λ_ z=>z)⟩,⟨_,_,_,ac1,cl1,⟨a3,i3,k3⟩,F3⟩⟩,⟨_,_,_,ac2,cl2,⟨a4,i4,k4⟩,F4⟩⟩,⟨_,_,_,ac3,cl3,⟨a4_3,i4,k4⟩,F4⟩⟩,⟨_,_,_,ac0,cl0,⟨a5,i5,k5⟩,F5⟩⟩,⟨_,_,_,ac1,cl1,⟨a6,i6,k6⟩,F6⟩⟩,⟨_,_,_,ac1,cl1,⟨a7,i7,k7⟩,F7⟩⟩,⟨_,_,_,ac1,cl1,⟨a8,i8,k8⟩,F8⟩⟩,⟨_,_,_,ac0,cl0,⟨a9,i9,k9⟩,F9⟩⟩,⟨_,_,_,ac1,cl1,⟨a9_1,i9,k9⟩,F9⟩⟩,⟨_,_,_,ac2,cl2,⟨a9_2,i9,k9⟩,F9⟩⟩,⟨_,_,_,ac3,cl3,⟨a9_3,i9,k9⟩,F9⟩⟩,⟨_,_,_,ac0,cl0,⟨a10,i10,k10⟩,F10⟩⟩,⟨_,_,_,ac1,cl1,⟨a10_1,i10,k10⟩,F10⟩⟩,⟨_,_,_,ac2,cl2,⟨a10_2,i10,k10⟩,F10⟩⟩,⟨_,_,_,ac3,cl3,⟨a10_3,i10,k10⟩,F10⟩⟩,⟨_,_,_,ac2,cl2,⟨a11,i11,k11⟩,F11⟩⟩,⟨_,_,_,ac0,cl0,⟨a12,i12,k12⟩,F12⟩⟩,⟨_,_,_,ac0,cl0,⟨a13,i13,k13⟩,F13⟩⟩,⟨_,_,_,ac0,cl0,⟨a14,i14,k14⟩,F14⟩⟩,⟨_,_,_,ac3,cl3,⟨a15,i15,k15⟩,F15⟩⟩
 exact Iq (u:=u) F16 (Mm (MX (MP (Md (L9 (MV (M0 (Mh (L3 (Mf (Mq (ME (Mt (Mp (MO (MQ (MA (MZ (M4 (L7 (Mw (MR (MN (MD (Mi (MK (Mu (MB (MF (e20 (MS (MU (M5 (Mb (M3 (ML (Ml (My (Kc (e10 (e9 (e8 (e7 (e6 (e5 (e4 (e3 (e2 (e1 q0)))))))))))))))))))))))))))))))))))))))))))))))))
theorem walk{l:Ra}{q:RM}{loose:au}{XP:(bP)->RN->Prop}{YP:RL->RN->Prop}{d:DefRec}{K:Params->Qw}{T:RG}(hn:l.most=some 63)(hdf:d.params.defaults=[])
  (hY:∀(w:RL)(h:RN),YP w h->(K w.params).In h/\h.get? T=some (QZ #[]))
  (F:∀ (w:RL) (mg:bP) (fa:RG) (h:RN),(K w.params).In h->h.Ns RQ mg->mg d.name=some (.ref fa) ->
   (∃c,Rc (K w.params) c T=true)/\(K w.params).lookup T=none/\∃fd:SD,(∀(s:RK)(u:RE),SE s fd ⟨[u],[]⟩ [("_law_script",u)])/\∀base:RN,(K w.params).In base->base.Ns RQ mg->uF mg base->fP l.prog w (K w.params) mg base (iH l.prog w) 18 fa fd ["_law_script"] (@xP (qG T ⟨41,34,41,56⟩ ((("sorted_by":Str)++".<locals>.")++"<lambda>")) (K w.params) 1 (ao lW 1 13)))
  (math:∀ns:List Int,ns.length<=63->ao lW 1 13 [.lst (ns.map .int)]=.ok (.bl true)):PySem.W.WalkO q loose XP YP l.row.toRowW d [] (λf vs=>PySem.call f vs):=
 AU (n:=63) (k:=18) (x:="_law_script") (T:=T) (CX:=λw=>iH l.prog w) (sp:=λw=>@xP (qG T ⟨41,34,41,56⟩ ((("sorted_by":Str)++".<locals>.")++"<lambda>")) (K w.params) 1 (ao lW 1 13)) hn (by decide) hdf ⟨rfl,by decide,by decide⟩ hY F
  (λw H a ns hl hT hS=>⟨[],[.lst (ns.map .int)],rfl,⟨hT,λa h=>nomatch h⟩,by rw[C7];exact bH.mpr ⟨.ref a,[],rfl,cn.mpr ⟨a,_,rfl,hS,pE ns⟩,cD.mpr rfl⟩,by rw[math ns hl];exact λv H' sm d=>⟨ia.mp d,sm⟩⟩) λ_ _ _ _ _ z=>by obtain⟨_,_,_,_,_,_,_,_,_,_,_,_,_,_,z⟩:=z;exact z
end Tk26
namespace Tk26
open PySem PySem.Spec L2 TG TD
local macro_rules|`(‹$x›)=>do if x.raw.isOfKind `num then Lean.Macro.throwUnsupported else `(some (S.val $x))
local macro_rules
 |`(tactic| simp! only[$xs,*])=>`(tactic| simp only[eB,wo,o6,wz,jE,fj,ge_0,DU,qQ,DI,qR,mJ,ro,rA,Ek,DM,DZ,CP,Cb,qX,qI,wU,kh,mU,rg,ng,v9,rN,ql,mS,rj,kH,rK,jW,kA,ju,jw,rz,my,jq,mM,jT,mG,mV,dP,mX,kR,qt,fQ,kF,gR,mI,mH,D3,wt,Ds,Cu,Eo,qE,mE,rh,mC,mK,CU,Cd,PB,PD,Nw,NY,N3,Ol,K0,env0,List.replicate,OW,NB,OO,Nat.reduceAdd,Nat.reduceSub,Nv,O0,qB,rq,vM,qw,qf,qM,jg,qz,wD,wH,wW,ra,j6,kN,j4,kQ,ky,kL,sG,xf,wj,wX,w8,vU,jZ,kB,iw,iy,qL,jy,ig,gU,gS,qg,qW,hZ,ir,kP,jX,mY,mD,ja,mB,rB,qC,mQ,mP,gN,if_true,if_false,PF,PH,N1,$xs,*])
theorem FR(xs ys:List D):xE [.lst xs,.tup ys]=some (ka xs ys):=nr rfl
theorem sB(n:Nat):ua [.lst ((List.replicate n true).map .bl)]=some (.bl true):=by
 rw[DE];congr;simp
theorem y9{kf rf:List D}{ps:cf}(hl:ps.length<=100)(G:aW)(ρ:av)(hG:G ρ=.ok (ps.map fld)):eQ [none,none] G (gT 2 (o9 [0,1])) bo (af 1) ρ=.ok (.lst (ps.map (·.2))):=by
 refine bX hG (by rw[Nx];omega) ?_;exact dX fld _ ps λp _=>⟨[‹.str p.1›,‹p.2›],rfl,rfl,rfl⟩
theorem A5(n:Nat)(h:n<=1000):gu [.int ((n:Int)-1)]=some (bJ 0 (n-1)):=by
 cases n with
 |zero=>rfl
 |succ n=>
  have:=cV n ‹0›
  rw[show((n+1:Nat):Int)-1=(n:Int)by omega,Nat.add_sub_cancel];exact this
theorem nE(g:Nat){kf rf:List D}{ps:cf}(rows:bw){σ:cy}(hr:rows.length<=100)(hl:ps.length<=100)(e:kf++rf=ps.map fld)(hf:∀r∈rows,F2 (λk v=>aR g [k,v]=.ok (.bl true)) (ps.map (·.2)) r)
  (hs:∀r∈rows,Sh σ (r.take kf.length)) (hk:vW kf.length rows):aN (g+1) [.tup [.tup kf,.tup rf],.tup (rows.map .tup)]=.ok (.bl true):=by
 have len:kf.length+rf.length=ps.length:=by have:=congrArg List.length e;rwa [NR,Nx]at this
 have ad:=cI kf rf ‹0›;rw[e]at ad;have kl:=y9 (kf:=kf) (rf:=rf) hl (bO (f2 aI (f2 ak (af 0) (fC (.int 0))) (f2 ak (af 0) (fC (.int 1))))) [‹.tup [.tup kf,.tup rf]›,‹.tup (rows.map .tup)›,none,none,none] (by simp! only[ad]);have t1:∀xs,yn "tuple" (.tup xs)=some (.bl true):=λ_=>rfl;have r0:=A5 (rows.map D.tup).length (by rw[Nx];omega);obtain⟨us,u1,u2,u3⟩:=lL (ρ:=inB [none,some 1,some 3] [none,‹.tup (rows.map .tup)›,‹.lst (ps.map (·.2))›,‹.int kf.length›,none]) (g:=gN 0) (C:=bo) (Fe:=f2 eU (aS (f2 ak (af 1) (af 0)) aM (aY (af 2))) (aS (f2 ak (af 1) (f2 aI (af 0) (fC (.int 1)))) aM (aY (af 2)))) (bJ 0 ((rows.map D.tup).length-1)) (λ_ v=>v=.bl true) (λt d hd=>by
  have ht:=ax hd;rw[aP,Nx]at ht;have hdi:d=.int (t:Int):=by
   rw[eE,NM,Ox (by rw[Nx];exact ht)]at hd;cases hd;simp
  subst hdi;have a:ak (.tup (rows.map .tup)) (.int (t:Int))=some (.tup rows[t]):=by rw[Au,hJ,fV ‹0›];rfl
  have b:ak (.tup (rows.map .tup)) (.int ((t:Int)+1))=some (.tup rows[t+1]):=by rw[show(t:Int)+1=((t+1:Nat):Int)by omega,Au,hJ,fV ‹0›];rfl
  have lt:=Ae (hs rows[t] (O9 _)) (hs rows[t+1] (O9 _));rw[Dh.mpr (List.pairwise_iff_getElem.mp hk t (t+1) ‹0› ‹0› ‹0›)]at lt;refine⟨_,_,rfl,rfl,?_,rfl⟩;simp! only[a,b,hW,lt])
 have all1:∀vs:List D,(∀(i:Nat)(v:D),vs[i]?=some v->v=.bl true)->vs=(List.replicate vs.length true).map .bl:=λvs v2=>by
  apply Pa
  ·simp
  ·intro t h1 h2;rw[v2 t _ (Od h1)];simp
 have f0:=bX (ix:=[none,some 1,some 3]) (G:=bh (aa (f2 ib (fL cO (aa (af 1) ah)) (fC (.int 1))) ah)) (ρ:=[none,‹.tup (rows.map .tup)›,‹.lst (ps.map (·.2))›,‹.int kf.length›,none]) (by simp! only[r0]) (by rw[aP,Nx];omega) u3;rw[all1 us u2]at f0;have f1:∀r:List D,F2 (λk v=>aR g [k,v]=.ok (.bl true)) (ps.map (·.2)) r->∃n,eQ [none,none] (xM (aa (af 2) (aa (af 4) ah))) (gT 2 (o9 [0,1])) bo (fR (aR g) (aa (af 0) (aa (af 1) ah))) [none,‹.tup (rows.map .tup)›,‹.lst (ps.map (·.2))›,‹.int kf.length›,‹.tup r›]=.ok (.lst ((List.replicate n true).map .bl)):=λr hf=>by
  obtain⟨vs,v1,v2,v3⟩:=lL (ρ:=inB [none,none] [none,‹.tup (rows.map .tup)›,‹.lst (ps.map (·.2))›,‹.int kf.length›,‹.tup r›]) (g:=gT 2 (o9 [0,1])) (C:=bo) (Fe:=fR (aR g) (aa (af 0) (aa (af 1) ah))) (ka (ps.map (·.2)) r) (λ_ v=>v=.bl true) (λt d hd=>by
   obtain⟨x,y,hx,hy,rfl⟩:=nF hd;refine⟨[‹x›,‹y›],_,rfl,rfl,?_,rfl⟩;simp! only[hf.get hx hy])
  have f1:=bX (ix:=[none,none]) (G:=xM (aa (af 2) (aa (af 4) ah))) (ρ:=[none,‹.tup (rows.map .tup)›,‹.lst (ps.map (·.2))›,‹.int kf.length›,‹.tup r›]) (by simp! only[FR]) (by rw[je,Nx];omega) v3;rw[all1 vs v2]at f1;exact⟨_,f1⟩
 rw[eL,bB];unfold fN;simp! only[kl,t1];refine fm (Q:=λz=>z=.ok (.bl true)) (λ_ ρ=>ρ=[none,‹.tup (rows.map .tup)›,‹.lst (ps.map (·.2))›,‹.int kf.length›,none]) ?_ rfl ?_
 ·rintro j d ρ k' hd rfl;obtain⟨r,rfl,hr⟩:∃r,d=.tup r/\F2 (λk v=>aR g [k,v]=.ok (.bl true)) (ps.map (·.2)) r:=by
   rw[NM]at hd;cases q:rows[j]? with
   |none=>rw[q]at hd;cases hd
   |some r=>rw[q]at hd;cases hd;exact⟨r,rfl,hf r (NQ q)⟩
  have rl:r.length=ps.length:=by rw[<-hr.length,Nx]
  have nn:(((r.length:Int))==(((ps.map (·.2)).length:Nat):Int))=true:=by rw[rl,Nx];simp
  obtain⟨n,f1⟩:=f1 r hr;refine⟨[none,‹.tup (rows.map .tup)›,‹.lst (ps.map (·.2))›,‹.int kf.length›,‹.tup r›],_,rfl,rfl,?_⟩;simp! only[t1,nn,f1,sB]
 ·rintro ρ rfl;simp! only[f0,sB]
noncomputable def rW(k:D):Prop:=(∃lo hi:Int,lo<=hi/\k=.tup [.str "number",.int lo,.int hi])\/∃ws:au,ws≠[]/\ws.length<=12/\k=.tup [.str "word",.tup (ws.map .str)]
noncomputable def Kw(k:D):Prop:=rW k\/vy 1 k
theorem ot.w{k:D}(h:ot k):rW k:=by
 rcases h with⟨lo,hi,a,_,_,e⟩|h
 ·exact .inl ⟨lo,hi,a,e⟩
 ·exact .inr h
theorem keySh:∀{ks:List D},(∀k∈ks,rW k)->∃σ:cy,∀vs,F2 iK ks vs->Sh σ vs
 |[],_=>⟨[],λvs h=>by cases h;exact .nil⟩
 |k::ks,h=>by
  obtain⟨σ,hσ⟩:=keySh (ks:=ks) λx hx=>h x (Ni _ hx);rcases h k Nh with⟨lo,hi,h1,rfl⟩|⟨ws,w1,w2,rfl⟩
  ·refine⟨true::σ,λvs hv=>?_⟩;cases hv with
   |cons q t=>
    rcases q with⟨_,_,i,_,_,_,rfl⟩|⟨_,_,e,_⟩
    ·exact .int i (hσ _ t)
    ·cases e
  ·refine⟨false::σ,λvs hv=>?_⟩;cases hv with
   |cons q t=>
    rcases q with⟨_,_,i,e,_⟩|⟨_,w,_,_,rfl⟩
    ·cases e
    ·exact .str w (hσ _ t)
theorem CQ{k v:D}(h:rW k)(l:dI 1 k v):iK k v:=by
 rcases l with l|⟨kf,rf,b,ps,rows,rfl,_⟩
 ·exact l
 ·rcases h with⟨_,_,_,e⟩|⟨_,_,_,e⟩<;>cases e
theorem o7(g:Nat){k v:D}(h:iK k v):aR (g+1) [k,v]=.ok (.bl true):=by
 rw[dN,bB];unfold fA;rcases h with⟨lo,hi,i,rfl,h1,h2,rfl⟩|⟨ws,w,rfl,hw,rfl⟩
 ·have t1:yn "int" (.int i)=some (.bl true):=rfl;have t2:yn "bool" (.int i)=some (.bl false):=rfl;simp! only[BEq.rfl,t1,t2,decide_eq_true h1,decide_eq_true h2];rfl
 ·have t1:yn "str" (.str w)=some (.bl true):=rfl;have c:ws.contains w=true:=List.contains_iff_mem.mpr hw;simp! only[BEq.rfl,kW,t1,vB,c];rfl
theorem HC{k v:D}(h:iK k v):pl v=true:=by
 rcases h with⟨_,_,i,_,_,_,rfl⟩|⟨_,w,_,_,rfl⟩
 ·exact G4
 ·exact HA
theorem CC{ks:List D}{rows:bw}(h:∀r∈rows,F2 iK ks r):pl (.tup (rows.map .tup))=true:=by
 rw[bW];refine rS λx hx=>?_;obtain⟨r,hr,rfl⟩:=List.mem_map.mp hx;rw[bW];exact rS λy hy=>by obtain⟨a,_,q⟩:=(h r hr).mem hy;exact HC q
theorem Dc{rows:bw}(h:pl (.tup (rows.map .tup))=true):iI (.tup (rows.map .tup)) (.tup [])=some (.bl (!rows.isEmpty)):=by
 have e:iI (.tup (rows.map .tup)) (.tup [])=if(pl (.tup (rows.map .tup))&&pl (.tup []))&&(cS 8 (.tup (rows.map .tup))||cS 8 (.tup []))then some (.bl (!pyEq (.tup (rows.map .tup)) (.tup [])))else none:=rfl
 have d:cS 8 (.tup [])=true:=rfl;have p2:pl (.tup [])=true:=rfl;rw[e,h,p2,d,Pk];show some (D.bl (!pyEq (.tup (rows.map .tup)) (.tup [])))=_;rw[pyEq];cases rows with
 |nil=>rfl
 |cons a r=>
  have z:pyEqL (.tup a::r.map .tup) []=false:=by unfold pyEqL;rfl
  rw[Nw,z];rfl
theorem Do{k v:D}(hk:Kw k)(h:dI 1 k v):aR 11 [k,v]=.ok (.bl true):=by
 rcases h with h|⟨kf,rf,b,ps,rows,rfl,e,l,rfl,rl,hf,ris,hb⟩
 ·exact o7 10 h
 ·rcases hk with hk|hk|⟨kf',rf',b',e',k1,k2,k3,k4⟩
  ·rcases hk with⟨_,_,_,z⟩|⟨_,_,_,z⟩<;>cases z
  ·rcases hk with⟨_,_,_,_,_,z⟩|⟨_,_,_,z⟩<;>cases z
  ·cases e';have hf:∀r∈rows,F2 iK (ps.map (·.2)) r:=hf;have fk:∀x∈(ps.map (·.2)).take kf.length,rW x:=λx hx=>by
    obtain⟨j,hj,ej⟩:=Oi hx;rw[NE,Nx]at hj;rw[PV,PX]at ej;have g:(kf++rf)[j]?=some (fld ps[j]):=(by rw[e,NM,Od ‹0›];rfl);rw[NK ‹0›]at g;obtain⟨nm,k,e1,q⟩:=k3 _ (NQ g);have e1:fld ps[j]=.tup [.str nm,k]:=e1;injection e1 with e1;injection e1 with _ e1;injection e1 with e1 _;rw[<-ej,e1];exact ot.w q
   obtain⟨σ,hσ⟩:=keySh fk;have kp:aN 10 [.tup [.tup kf,.tup rf],.tup (rows.map .tup)]=.ok (.bl true):=nE 9 (σ:=σ) rows rl l e (λr hr=>(hf r hr).imp λa c q=>o7 8 q) (λr hr=>hσ _ ((hf r hr).take _)) ris;have n1:=Dc (CC hf);rw[dN,bB];unfold fA;cases b with
   |false=>
    cases z:rows.isEmpty with
    |true=>
     rw[z]at n1;simp! only[iU,ie,kp,CM,n1,PF];rfl
    |false=>
     rw[z]at n1;simp! only[iU,ie,kp,CM,n1,PH];rfl
   |true=>
    have z:rows.isEmpty=false:=by
     cases rows with
     |nil=>exact absurd rfl (hb rfl)
     |cons _ _=>rfl
    rw[z]at n1;simp! only[iU,ie,kp,CM,n1,PH];rfl
structure Fo(kf rf:List D)(ps:cf):Prop where
 k1:1<=kf.length
 k8:kf.length<=8
 r8:rf.length<=8
 e:kf++rf=ps.map fld
 hn:(ps.map (·.1)).Nodup
 fl:∀(j:Nat)(p:Str×D),ps[j]?=some p->(j<kf.length->rW p.2)/\Kw p.2
structure Tb(m:Nat)(ps:cf)(rows:bw):Prop where
 l:rows.length<=60
 f:∀r∈rows,F2 (dI 1) (ps.map (·.2)) r
 ris:vW m rows
section
variable{kf rf:List D}{ps:cf}{rows:bw}
theorem Fo.len(h:Fo kf rf ps):kf.length+rf.length=ps.length:=by
 have:=congrArg List.length h.e
 rwa [NR,Nx]at this
theorem Fo.hl(h:Fo kf rf ps):ps.length<=16:=by have:=h.len;have:=h.k8;have:=h.r8;omega
theorem Fo.keyk(h:Fo kf rf ps):∀x∈(ps.map (·.2)).take kf.length,rW x:=λx hx=>by
 obtain⟨j,hj,ej⟩:=Oi hx;rw[NE,Nx]at hj;rw[PV,PX]at ej;rw[<-ej];exact(h.fl j _ (Od ‹0›)).1 ‹0›
theorem Fo.sh(h:Fo kf rf ps):∃σ:cy,∀r,F2 (dI 1) (ps.map (·.2)) r->Sh σ (r.take kf.length):=by
 obtain⟨σ,hσ⟩:=keySh h.keyk;refine⟨σ,λr hr=>hσ _ (F2.of (by rw[(hr.take kf.length).length]) λj a b ha hb=>?_)⟩;exact CQ (h.keyk a (NQ ha)) ((hr.take kf.length).get ha hb)
theorem tq(h:Fo kf rf ps)(t:Tb kf.length ps rows):aN 12 [.tup [.tup kf,.tup rf],.tup (rows.map .tup)]=.ok (.bl true):=by
 have hl:=h.hl;have tl:=t.l;obtain⟨σ,hσ⟩:=h.sh;refine nE 11 (σ:=σ) rows ‹0› ‹0› h.e (λr hr=>F2.of (t.f r hr).length λj a b ha hb=>?_) (λr hr=>hσ r (t.f r hr)) t.ris;rw[NM]at ha;cases hp:ps[j]? with
 |none=>rw[hp]at ha;cases ha
 |some p=>
  have q:=(h.fl j p hp).2;have g:=(t.f r hr).get (i:=j) (a:=p.2) (b:=b) (by rw[NM,hp];rfl) hb;rw[hp]at ha;cases ha;exact Do q g
end
theorem Dj(m:Nat)(k:D)(c:Int)(h:Kw k):∃v,dI 1 k v/\aG (m+3) [k,.int c]=.ok v:=by
 rcases h with h|h
 ·rcases h with⟨lo,hi,h1,rfl⟩|⟨ws,w1,w2,rfl⟩
  ·have g:=λi=>bf (i:=i) (show(0:Int)<hi-lo+1 by omega);have b1:=PJ c (show hi-lo+1≠0 by omega);have b2:=PN c (show 0<hi-lo+1 by omega);refine⟨_,.inl (.inl ⟨lo,hi,lo+c%(hi-lo+1),rfl,by omega,by omega,rfl⟩),?_⟩;rw[cg,bB];unfold df;simp! only[BEq.rfl,g]
  ·exact wv m _ c (.inl (.inr ⟨ws,w1,w2,rfl⟩))
 ·exact wv m k c h
theorem ints_of:∀{vs:List D},(∀v∈vs,∃i:Int,v=.int i)->∃cells:List Int,vs=cells.map .int
 |[],_=>⟨[],rfl⟩
 |v::vs,h=>by
  obtain⟨i,rfl⟩:=h v Nh;obtain⟨cs,rfl⟩:=ints_of (vs:=vs) λv hv=>h v (Ni _ hv);exact⟨i::cs,rfl⟩
section
variable{kf rf:List D}{ps:cf}
theorem qZ(h:Fo kf rf ps)(c:Int)(more:List Int)(hm:more.length<=35):∃rows,Tb kf.length ps rows/\ao bV 3 4 [.tup [.tup kf,.tup rf],.int c,.lst (more.map .int)]=.ok (.tup (rows.map .tup)):=by
 have hl:=h.hl;have len:=h.len;obtain⟨σ,hσ⟩:=h.sh;have g7:=λi=>bf (i:=i) (show(0:Int)<7 by decide);have g8:=λi=>bf (i:=i) (show(0:Int)<8 by decide);have d7:=λi=>cQ (i:=i) (show(0:Int)<7 by decide) (show(7:Int)<10^200 by decide);have key:∀n:Nat,n<=20->∃rows,Tb kf.length ps rows/\(fR (aJ 12) (aa (af 0) (aa (f2 aI (eQ [none,some 1] (bh (aa (af 3) ah)) (gN 0) bo (fR (ao aA 2 3) (aa (af 1) (aa (f2 aI (fC (.int 60)) (af 0)) ah)))) (af 2)) ah))) [‹.tup [.tup kf,.tup rf]›,‹.int c›,‹.lst (more.map .int)›,‹.int n›]=.ok (.tup (rows.map .tup)):=λn hn=>by
  have rn:=cV n ‹0›;obtain⟨vs,v1,v2,v3⟩:∃vs:List D,vs.length=(bJ 0 n).length/\(∀v∈vs,∃i:Int,v=.int i)/\oY (inB [none,some 1] [‹.tup [.tup kf,.tup rf]›,‹.int c›,‹.lst (more.map .int)›,‹.int n›]) (gN 0) bo (fR (ao aA 2 3) (aa (af 1) (aa (f2 aI (fC (.int 60)) (af 0)) ah))) (bJ 0 n)=.ok vs:=by
   refine gP (λv=>∃i:Int,v=.int i) _ λd hd=>?_;obtain⟨k,hk,rfl⟩:=fS hd;obtain⟨q,hq,eq⟩:=dg c (60+(0+(k:Int))) ‹0› ‹0›;refine⟨_,_,rfl,rfl,?_,q,rfl⟩;simp! only[eq]
  obtain⟨cells,rfl⟩:=ints_of v2;rw[Nx,aP]at v1;have f0:=bX (ix:=[none,some 1]) (G:=bh (aa (af 3) ah)) (ρ:=[‹.tup [.tup kf,.tup rf]›,‹.int c›,‹.lst (more.map .int)›,‹.int n›]) (by simp! only[rn]) (by rw[aP];omega) v3;obtain⟨rows,r1,r2,r3,_,r5⟩:=pM (aG 11) (aJ 11) (dI 1) ps kf rf h.e ‹0› (λp hp c=>by
   obtain⟨j,hj,ej⟩:=Oi hp;exact Dj 8 p.2 c (h.fl j p (by rw[Od hj,ej])).2) σ hσ (cells++more) (by rw[NR];omega)
  refine⟨rows,⟨by rw[NR]at r3;omega,r1,r2⟩,?_⟩;have al:=zu (cells.map .int) (more.map .int) (by rw[Nx,Nx];omega);rw[<-Oq]at al;rw[<-dA]at r5;simp! only[f0,al,r5]
 rw[fK];unfold bV;cases z:(c/7%8==5)with
 |true=>
  obtain⟨rows,t,e⟩:=key 20 (by decide);refine⟨rows,t,?_⟩;generalize (fR (aJ 12) (aa (af 0) (aa (f2 aI (eQ [none,some 1] (bh (aa (af 3) ah)) (gN 0) bo (fR (ao aA 2 3) (aa (af 1) (aa (f2 aI (fC (.int 60)) (af 0)) ah)))) (af 2)) ah)))=T at e ⊢;have e:T [‹.tup [.tup kf,.tup rf]›,‹.int c›,‹.lst (more.map .int)›,‹.int 20›]=.ok (.tup (rows.map .tup)):=e;simp! only[g7,d7,g8,z,e]
 |false=>
  obtain⟨n,hn⟩:=PY (show 0<=c%7 by omega);obtain⟨rows,t,e⟩:=key n ‹0›;refine⟨rows,t,?_⟩;generalize (fR (aJ 12) (aa (af 0) (aa (f2 aI (eQ [none,some 1] (bh (aa (af 3) ah)) (gN 0) bo (fR (ao aA 2 3) (aa (af 1) (aa (f2 aI (fC (.int 60)) (af 0)) ah)))) (af 2)) ah)))=T at e ⊢;simp! only[g7,d7,g8,z,hn,e]
end
noncomputable abbrev sR(o n:Str):D:=.obj "Rename" ["old","new"] [.str o,.str n]
noncomputable abbrev sP(nm:Str)(b:Int)(q r:Str):D:=.obj "Part" ["name","by","quotient","rest"] [.str nm,.int b,.str q,.str r]
noncomputable abbrev sF(q r:Str)(b:Int)(n:Str):D:=.obj "Fuse" ["quotient","rest","by","name"] [.str q,.str r,.int b,.str n]
inductive B2:D->Prop where
 |r (o n:Str):B2 (sR o n)
 |p (nm:Str) (b:Int) (q r:Str):B2 (sP nm b q r)
 |f (q r:Str) (b:Int) (n:Str):B2 (sF q r b n)
noncomputable def jO(g1 g2 g3:cP):D->cP
 |.obj c _ _=>if c==("Part":Str)then g1 else if c==("Fuse":Str)then g2 else g3
 |_=>λ_=>un
theorem c1:(("Part":Str)==("Part":Str))=true:=by decide +kernel
theorem c2:(("Fuse":Str)==("Part":Str))=false:=by decide +kernel
theorem c3:(("Fuse":Str)==("Fuse":Str))=true:=by decide +kernel
theorem c4:(("Rename":Str)==("Part":Str))=false:=by decide +kernel
theorem c5:(("Rename":Str)==("Fuse":Str))=false:=by decide +kernel
theorem c6:(("Rename":Str)==("Rename":Str))=true:=by decide +kernel
theorem c7:(("Part":Str)==("Step":Str))=false:=by decide +kernel
theorem c8:(("Fuse":Str)==("Step":Str))=false:=by decide +kernel
theorem c9:(("Rename":Str)==("Step":Str))=false:=by decide +kernel
theorem meth{s:D}(h:B2 s)(m:Str)(g0 g1 g2 g3:cP)(fo:FX)(fas:aW)(ρ:av)(hs:fo ρ=.ok s)
  (hm:(["old","new"]:au).contains m=false/\(["name","by","quotient","rest"]:au).contains m=false/\(["quotient","rest","by","name"]:au).contains m=false):cY m [("Step",g0),("Part",g1),("Fuse",g2),("Rename",g3)] fo fas ρ=(fas ρ).bind λas=>jO g1 g2 g3 s (s::as):=by
 unfold cY;rw[hs,eB];have l1:List.lookup ("Part":Str) [(("Step":Str),g0),(("Part":Str),g1),(("Fuse":Str),g2),(("Rename":Str),g3)]=some g1:=by rw[NZ,c7,NZ,c1]
 have l2:List.lookup ("Fuse":Str) [(("Step":Str),g0),(("Part":Str),g1),(("Fuse":Str),g2),(("Rename":Str),g3)]=some g2:=by rw[NZ,c8,NZ,c2,NZ,c3]
 have l3:List.lookup ("Rename":Str) [(("Step":Str),g0),(("Part":Str),g1),(("Fuse":Str),g2),(("Rename":Str),g3)]=some g3:=by rw[NZ,c9,NZ,c4,NZ,c5,NZ,c6]
 cases h with
 |r o n=>
  simp only[l3,hm.1,jO,c4,c5];rfl
 |p nm b q r=>
  simp only[l1,hm.2.1,jO,c1];rfl
 |f q r b n=>
  simp only[l2,hm.2.2,jO,c2,c3];rfl
noncomputable abbrev VW:=jO (ao aB 2 6) (ao aE 2 6) (ao aV 2 3)
noncomputable abbrev GT:=jO (ao cu 3 4) (ao cq 3 8) (ao bg 3 3)
noncomputable abbrev IP:=jO (ao dj 4 5) (ao dh 4 10) (ao bK 4 4)
noncomputable abbrev frm(kf rf:List D):D:=.tup [.tup kf,.tup rf]
noncomputable abbrev tbl(rows:bw):D:=.tup (rows.map .tup)
noncomputable def Ln(s:D)(kf rf:List D)(ps:cf)(kf' rf':List D)(ps':cf):Prop:=Fo kf' rf' ps'/\∃G P:bw->bw,
 (∀rows,Tb kf.length ps rows->Tb kf'.length ps' (G rows)/\(G rows).length=rows.length/\P (G rows)=rows/\GT s [s,frm kf rf,tbl rows]=.ok (tbl (G rows)))/\
 ∀rows,Tb kf'.length ps' rows->Tb kf.length ps (P rows)/\G (P rows)=rows/\∀t,IP s [s,frm kf rf,t,tbl rows]=.ok (tbl (P rows))
inductive Vw(s:D)(kf rf:List D)(ps:cf):R D->Prop where
 |no (c:Str) (fs:au) (vs:List D) (h:(["NoField","Twice","NoKind","TooMany","Torn"]:au).contains c=true):Vw s kf rf ps (.error (some ⟨c,fs,vs⟩))
 |ok (kf' rf':List D) (ps':cf) (h:Ln s kf rf ps kf' rf' ps'):Vw s kf rf ps (.ok (frm kf' rf'))
theorem md(a c:Bool):(if a=true then(.ok true:R Bool)else .ok c)=.ok (a||c):=by cases a<;>rfl
theorem eT(c:Str)(f:aW)(k:Ks)(ρ:av):eS c f k ρ=ll (f ρ) k ρ λds=>if small ds.length then k.ex ⟨c,[],[]⟩ ρ else un:=nr rfl
theorem fq(f:FX)(k:Ks)(ρ:av):qc f k ρ=ll (f ρ) k ρ λ_=>k.nx ρ:=nr rfl
theorem tP(cs:au)(F Fh:bU)(k:Ks)(ρ:av):tX cs F Fh k ρ=F {k with ex:=λx ρ1=>if cs.contains x.c=true then Fh (hK0 k) ρ1 else un} ρ:=nr rfl
theorem ue(c:Str)(fs:au)(f:aW)(k:Ks)(ρ:av):ke c fs f k ρ=ll (f ρ) k ρ λds=>if small ds.length&&ds.length==fs.length then k.ex ⟨c,fs,ds⟩ ρ else un:=nr rfl
theorem Fk:small (0+1)=true:=by rfl
theorem cG(kf rf:List D)(ps:cf)(hl:ps.length<=100)(e:kf++rf=ps.map fld)(hn:(ps.map (·.1)).Nodup)(i:Nat)(nm:Str)(k:D)(hi:ps[i]?=some (nm,k)):
  ao bS 2 4 [.tup [.tup kf,.tup rf],.str nm]=.ok (.int i):=by
 have en:=nM kf rf ps hl e;rw[bB];unfold bS;rw[dP,gR];simp! only[en,lD];have di:(fD 0 (ps.map λp=>D.str p.1))[i]?=some (.tup [.int ((i:Nat):Int),.str nm]):=by
  rw[iV,NM,hi,OO];rfl
 refine pB (Q:=λz=>z=.ok (.int i)) (λ_ ρ=>ρ=[‹.tup [.tup kf,.tup rf]›,‹.str nm›,none,none]) _ 0 i _ _ di ?_ rfl ?_
 ·rintro j d ρ k' hj hd rfl;rw[iV,NM]at hd;have hil:=ax hi;have hjl:j<ps.length:=by omega
  rw[Od hjl]at hd;cases hd;have ne:(ps[j].1==nm)=false:=by
   have h1:=List.pairwise_iff_getElem.mp hn j i (by rw[Nx];exact hjl) (by rw[Nx];exact hil) hj;rw[PX,PX]at h1;have h2:ps[i]=(nm,k):=(by rw[Od hil]at hi;exact Option.some.inj hi);rw[h2]at h1
   simpa using h1
  refine⟨[‹.tup [.tup kf,.tup rf]›,‹.str nm›,‹.int ((0+j:Nat):Int)›,‹.str ps[j].1›],_,rfl,rfl,?_⟩;simp! only[ne]
 ·rintro ρ k' rfl;refine⟨[‹.tup [.tup kf,.tup rf]›,‹.str nm›,‹.int (i:Int)›,‹.str nm›],rfl,?_⟩;simp! only[BEq.rfl]
theorem C1{s:D}(hs:B2 s){f:D}{c:Str}{fs:au}{vs:List D}(h:VW s [s,f]=.error (some ⟨c,fs,vs⟩))(hc:(["NoField","Twice","NoKind","TooMany","Torn"]:au).contains c=true):ao cB 2 3 [s,f]=.ok .non:=by
 have m1:=λfas ρ=>meth hs "view_form" (ao cC 2 2) (ao aB 2 6) (ao aE 2 6) (ao aV 2 3) (af 0) fas (‹s›::ρ) rfl (by decide +kernel);rw[bB];unfold cB;simp! only[tP,m1,h,hc,hK0]
theorem Dr{s:D}(hs:B2 s){f g:D}(h:VW s [s,f]=.ok g):ao cB 2 3 [s,f]=.ok g:=by
 have m1:=λfas ρ=>meth hs "view_form" (ao cC 2 2) (ao aB 2 6) (ao aE 2 6) (ao aV 2 3) (af 0) fas (‹s›::ρ) rfl (by decide +kernel);rw[bB];unfold cB;simp! only[tP,m1,h]
theorem vF{α:Type}(xs:List α)(i:Nat)(x:α)(h:i<xs.length):xs.take i++[x]++xs.drop (i+1)=xs.set i x:=by
 rw[PZ,if_pos h,OA];rfl
theorem sy(ps:cf)(x:Str):G0 (.str x) (.tup (ps.map λp=>.str p.1))=some (.bl ((ps.map (·.1)).contains x)):=by
 have:=vB x (ps.map (·.1))
 rwa [PL]at this
theorem Aa{o n:Str}:bZ "old" ["Rename"] (sR o n)=some (.str o):=by rfl
theorem Bg{o n:Str}:bZ "new" ["Rename"] (sR o n)=some (.str n):=by rfl
theorem AZ(g1 g2 g3:cP)(o n:Str):jO g1 g2 g3 (sR o n)=g3:=by simp only[jO,c4,c5];rfl
theorem Bm(g1 g2 g3:cP)(nm:Str)(b:Int)(q r:Str):jO g1 g2 g3 (sP nm b q r)=g1:=by simp only[jO,c1];rfl
theorem Bb(g1 g2 g3:cP)(q r:Str)(b:Int)(n:Str):jO g1 g2 g3 (sF q r b n)=g2:=by simp only[jO,c2,c3];rfl
theorem GL(s f t:D):ao bg 3 3 [s,f,t]=.ok t:=by
 rw[fK];unfold bg;simp! only[]
theorem Fz(s f t v:D):ao bK 4 4 [s,f,t,v]=.ok v:=by
 rw[nz];unfold bK;simp! only[]
theorem A6(s f:D):ao aD 2 2 [s,f]=.ok (.bl true):=by
 rw[bB];unfold aD;simp! only[]
theorem xj(s f:D):ao az 2 2 [s,f]=.ok (.bl true):=by
 rw[bB];unfold az;simp! only[]
section
variable{kf rf:List D}{ps:cf}
theorem xR{xs:au}(h:xs.Nodup){i:Nat}{n:Str}(hn:n∉xs):(xs.set i n).Nodup:=by
 refine List.pairwise_iff_getElem.mpr λa b ha hb hab=>?_;rw[Oy]at ha hb;rw[List.getElem_set,List.getElem_set];have w:=List.pairwise_iff_getElem.mp h a b ha hb hab;split
 ·split
  ·omega
  ·exact λz=>hn (by rw[z];exact O9 _)
 ·split
  ·exact λz=>hn (by rw[<-z];exact O9 _)
  ·exact w
theorem Hq(h:Fo kf rf ps){i:Nat}{o:Str}{k:D}(hi:ps[i]?=some (o,k))(n:Str):Vw (sR o n) kf rf ps (VW (sR o n) [sR o n,frm kf rf]):=by
 have hl:=h.hl;have len:=h.len;have il:=ax hi;have p1:=cG kf rf ps ‹0› h.e h.hn i o k hi;have p2:=nM kf rf ps ‹0› h.e;have p3:=eW kf rf ps ‹0› h.e i o k hi;rw[VW,AZ];by_cases hw:n∈ps.map (·.1)
 ·have p5:(ps.map (·.1)).contains n=true:=by simpa using hw
  have:ao aV 2 3 [sR o n,frm kf rf]=.error (some ⟨"Twice",[],[]⟩):=by
   rw[bB];unfold aV;simp! only[Aa,Bg,p1,p2,sy,p5,eT,Fk]
  rw[this];exact .no _ _ _ (by decide +kernel)
 ·have p5:(ps.map (·.1)).contains n=false:=by simpa using hw
  have p4:=gL kf rf [.tup [.str n,k]] i (by simp;omega);obtain⟨kf',hkf⟩:∃kf',kf'=if i<kf.length then kf.set i (.tup [.str n,k])else kf:=⟨_,rfl⟩
  obtain⟨rf',hrf⟩:∃rf',rf'=if i<kf.length then rf else rf.set (i-kf.length) (.tup [.str n,k]):=⟨_,rfl⟩
  have lk:kf'.length=kf.length:=by rw[hkf];split<;>simp
  have lr:rf'.length=rf.length:=by rw[hrf];split<;>simp
  have e4:(if i<kf.length then D.tup [.tup (kf.take i++[.tup [.str n,k]]++kf.drop (i+1)),.tup rf]else .tup [.tup kf,.tup (rf.take (i-kf.length)++[.tup [.str n,k]]++rf.drop (i-kf.length+1))])=frm kf' rf':=by
   rw[hkf,hrf];split
   ·rename_i w1;rw[vF _ _ _ w1]
   ·rw[vF _ _ _ ‹0›]
  rw[e4]at p4;have ev:ao aV 2 3 [sR o n,frm kf rf]=.ok (frm kf' rf'):=by
   rw[bB];unfold aV;simp! only[Aa,Bg,p1,p2,p3,sy,p5,ya,uK,p4]
  have ks:(ps.set i (n,k)).map (·.2)=ps.map (·.2):=by
   apply P0;intro j;rw[NM,NM];by_cases hj:j=i
   ·subst hj;rw[Nk il,hi];rfl
   ·rw[Nm (Ne.symm hj)]
  have fo:Fo kf' rf' (ps.set i (n,k)):=by
   refine⟨by rw[lk];exact h.k1,by rw[lk];exact h.k8,by rw[lr];exact h.r8,?_,?_,λj p hp=>?_⟩
   ·rw[P4,<-h.e,hkf,hrf];split
    ·rename_i w1;rw[P5 _ _ w1]
    ·rw[P6 _ _ ‹0›]
   ·rw[P4];exact xR h.hn hw
   ·rw[lk];by_cases hj:j=i
    ·subst hj;rw[Nk il]at hp;cases hp
     have:=h.fl j (o,k) hi
     exact this
    ·rw[Nm (Ne.symm hj)]at hp;exact h.fl j p hp
  have tb:∀rows,Tb kf.length ps rows↔Tb kf'.length (ps.set i (n,k)) rows:=λrows=>by
   constructor
   ·exact λt=>⟨t.l,λr hr=>by rw[ks];exact t.f r hr,by rw[lk];exact t.ris⟩
   ·exact λt=>⟨t.l,λr hr=>by have:=t.f r hr;rwa [ks]at this,by have:=t.ris;rwa [lk]at this⟩
  rw[ev];refine .ok _ _ _ ⟨fo,id,id,λrows t=>⟨(tb rows).mp t,rfl,rfl,?_⟩,λrows t=>⟨(tb rows).mpr t,rfl,λt=>?_⟩⟩
  ·rw[GT,AZ];exact GL _ _ _
  ·rw[IP,AZ];exact Fz _ _ _ _
end
noncomputable def LF:Nat->D->D->Prop
 |0,k,v=>iK k v
 |n+1,k,v=>iK k v\/∃(kf rf:List D)(b:Bool)(ps:cf),k=.tup [.str "rows",.tup [.tup kf,.tup rf],.bl b]/\kf++rf=ps.map fld/\ps.length<=20/\((b=false/\v=.tup [])\/(b=true/\∃row,v=.tup [.tup row]/\F2 (LF n) (ps.map (·.2)) row))
theorem LF.of{n:Nat}{k v:D}(h:iK k v):LF n k v:=by
 cases n with
 |zero=>exact h
 |succ n=>exact .inl h
theorem zk{α:Type}{P:D->D->Prop}(a b:α->D):∀xs:List α,(∀x∈xs,P (a x) (b x))->F2 P (xs.map a) (xs.map b)
 |[],_=>.nil
 |x::xs,h=>.cons (h x Nh) (zk a b xs λy hy=>h y (Ni _ hy))
theorem xY:∀(n g:Nat)(k:D),n+1<=g->vy n k->∃v,bN g [k]=.ok v/\LF n k v:=by
 have flat:∀(n g:Nat)(k:D),1<=g->ot k->∃v,bN g [k]=.ok v/\LF n k v:=λn g k hg h=>by
  obtain⟨z,rfl⟩:∃z',g=z'+1:=⟨g-1,by omega⟩
  rw[dJ,gB];unfold hX;rcases h with⟨lo,hi,a1,_,_,rfl⟩|⟨ws,hw,_,rfl⟩
  ·refine⟨.int lo,?_,.of (.inl ⟨lo,hi,lo,rfl,Int.le_refl _,a1,rfl⟩)⟩;simp! only[BEq.rfl]
  ·cases ws with
   |nil=>exact absurd rfl hw
   |cons w ws=>
    refine⟨.str w,?_,.of (.inr ⟨w::ws,w,rfl,Nh,rfl⟩)⟩;simp! only[BEq.rfl,kW]
 intro n
 induction n with
 |zero=>exact λg k hg h=>flat 0 g k ‹0› h
 |succ n ih=>
  intro g k hg h;rcases h with h|⟨kf,rf,b,rfl,h1,h2,h3,h4⟩
  ·exact flat _ g k ‹0› h
  ·obtain⟨ps,e,pl1,q2,_⟩:=su h3 h4;obtain⟨z,rfl⟩:∃z',g=z'+1:=⟨g-1,by omega⟩
   rw[dJ,gB];unfold hX;cases b with
   |false=>
    refine⟨.tup [],?_,.inr ⟨kf,rf,false,ps,rfl,e,by omega,.inl ⟨rfl,rfl⟩⟩⟩;simp! only[BEq.rfl,iU,ie,CM]
   |true=>
    have ko:ao dY 1 1 [.tup [.tup kf,.tup rf]]=.ok (.tup (ps.map (·.2))):=kinds_ok kf rf ps ‹0› e;obtain⟨w,hw⟩:∃w:Str×D->D,∀p∈ps,bN z [p.2]=.ok (w p)/\LF n p.2 (w p):=by
     classical
     have h:=λp (hp:p∈ps)=>ih z p.2 ‹0› (q2 p hp);exact⟨λp=>if hp:p∈ps then(h p hp).choose else .non,λp hp=>by
      show bN z [p.2]=.ok (if hp:p∈ps then(h p hp).choose else .non)/\LF n p.2 (if hp:p∈ps then(h p hp).choose else .non);rw[dif_pos hp];exact(h p hp).choose_spec⟩
    refine⟨.tup [.tup (ps.map w)],?_,.inr ⟨kf,rf,true,ps,rfl,e,by omega,.inr ⟨rfl,_,rfl,zk _ _ ps λp hp=>(hw p hp).2⟩⟩⟩;have f0:eQ [none] (bO (fR (ao dY 1 1) (aa (f2 ak (af 0) (fC (.int 1))) ah))) (gN 0) bo (fR (bN z) (aa (af 0) ah)) [‹.tup [.str "rows",.tup [.tup kf,.tup rf],.bl true]›]=.ok (.lst (ps.map w)):=by
     refine bX (ds:=ps.map (·.2)) ?_ (by rw[Nx];omega) ?_
     ·simp! only[ko]
     ·refine dX (λp:Str×D=>p.2) _ ps λp hp=>⟨_,rfl,rfl,?_⟩
      simp! only[(hw p hp).1]
    simp! only[BEq.rfl,iU,ie,f0,ya]
theorem C5(g:Nat)(hg:3<=g){k:D}(h:Kw k):∃v,bN g [k]=.ok v:=by
 rcases h with h|h
 ·obtain⟨z,rfl⟩:∃z',g=z'+1:=⟨g-1,by omega⟩
  rw[dJ,gB];unfold hX;rcases h with⟨lo,hi,a1,rfl⟩|⟨ws,hw,_,rfl⟩
  ·refine⟨.int lo,?_⟩;simp! only[BEq.rfl]
  ·cases ws with
   |nil=>exact absurd rfl hw
   |cons w ws=>
    refine⟨.str w,?_⟩;simp! only[BEq.rfl,kW]
 ·obtain⟨v,e,_⟩:=xY 1 g k ‹0› h;exact⟨v,e⟩
theorem uN{kf rf:List D}{ps:cf}(h:Fo kf rf ps):∃row,ao fw 1 1 [frm kf rf]=.ok (.tup row)/\row.length=ps.length:=by
 have hl:=h.hl;have len:=h.len;have ko:ao dY 1 1 [.tup [.tup kf,.tup rf]]=.ok (.tup (ps.map (·.2))):=kinds_ok kf rf ps ‹0› h.e;obtain⟨w,hw⟩:∃w:Str×D->D,∀p∈ps,bN 11 [p.2]=.ok (w p):=by
  classical
  have hh:∀p∈ps,∃v,bN 11 [p.2]=.ok v:=λp hp=>by
   obtain⟨j,hj,ej⟩:=Oi hp;exact C5 11 (by decide) (h.fl j p (by rw[Od hj,ej])).2
  exact⟨λp=>if hp:p∈ps then(hh p hp).choose else .non,λp hp=>by
   show bN 11 [p.2]=.ok (if hp:p∈ps then(hh p hp).choose else .non);rw[dif_pos hp];exact(hh p hp).choose_spec⟩
 have f0:eQ [none] (bO (fR (ao dY 1 1) (aa (f2 ak (af 0) (fC (.int 1))) ah))) (gN 0) bo (fR (bN 11) (aa (af 0) ah)) [‹.tup [.str "rows",.tup [.tup kf,.tup rf],.bl true]›]=.ok (.lst (ps.map w)):=by
  refine bX (ds:=ps.map (·.2)) ?_ (by rw[Nx];omega) ?_
  ·simp! only[ko]
  ·refine dX (λp:Str×D=>p.2) _ ps λp hp=>⟨_,rfl,rfl,?_⟩
   simp! only[hw p hp]
 have e1:bN 12 [.tup [.str "rows",.tup [.tup kf,.tup rf],.bl true]]=.ok (.tup [.tup (ps.map w)]):=by
  rw[dJ,gB];unfold hX;simp! only[BEq.rfl,iU,ie,f0,ya]
 refine⟨ps.map w,?_,by rw[Nx]⟩;rw[gB];unfold fw;simp! only[B1,e1]
theorem oa(a c:Int)(s t:List D):cp (.int a::s) (.int c::t)=if a=c then cp s t else some (decide (a<c)):=by rw[cp]
theorem Ab(a c:Str)(s t:List D):cp (.str a::s) (.str c::t)=if a=c then cp s t else some (decide (a.cps.toList<c.cps.toList)):=by rw[cp]
theorem vf{x y b:Int}(hb:0<b):(x=y↔x/b=y/b/\x%b=y%b)/\(x<y↔x/b<y/b\/(x/b=y/b/\x%b<y%b)):=by
 have e1:=P7 x b;have e2:=P7 y b;have a1:=PJ x (show b≠0 by omega);have a2:=PN x hb;have a3:=PJ y (show b≠0 by omega);have a4:=PN y hb;have mono:x<=y->x/b<=y/b:=λh=>P8 hb h;have mono':y<=x->y/b<=x/b:=λh=>P8 hb h;refine⟨⟨λh=>by rw[h];exact⟨rfl,rfl⟩,λ⟨h1,h2⟩=>by rw[<-e1,<-e2,h1,h2]⟩,⟨λh=>?_,λh=>?_⟩⟩
 ·rcases Int.lt_or_eq_of_le (mono ‹0›)with z|z
  ·exact .inl z
  ·refine .inr ⟨z,?_⟩;rw[z]at e1;omega
 ·rcases h with z|⟨z1,z2⟩
  ·rcases(show x<y\/y<=x by omega)with w|w
   ·exact w
   ·have:=mono' w;omega
  ·rw[z1]at e1;omega
theorem n0{b:Int}(hb:0<b)(x y:Int)(s t:List D):∀{σ:cy}{p p':List D},Sh σ p->Sh σ p'->cp (p++.int (x/b)::.int (x%b)::s) (p'++.int (y/b)::.int (y%b)::t)=cp (p++.int x::s) (p'++.int y::t)
 |_,_,_,.nil,.nil=>by
  show cp (.int (x/b)::.int (x%b)::s) (.int (y/b)::.int (y%b)::t)=cp (.int x::s) (.int y::t);rw[oa,oa,oa];obtain⟨h1,h2⟩:=vf (x:=x) (y:=y) hb;by_cases z:x=y
  ·obtain⟨w1,w2⟩:=h1.mp z;rw[if_pos w1,if_pos w2,if_pos z]
  ·rw[if_neg z];by_cases w:x/b=y/b
   ·have w':x%b≠y%b:=λq=>z (h1.mpr ⟨w,q⟩);rw[if_pos w,if_neg w'];congr 1;rw[decide_eq_decide];constructor
    ·exact λq=>h2.mpr (.inr ⟨w,q⟩)
    ·exact λq=>by
      rcases h2.mp q with u|⟨_,u⟩
      ·omega
      ·exact u
   ·rw[if_neg w];congr 1;rw[decide_eq_decide];constructor
    ·exact λq=>h2.mpr (.inl q)
    ·exact λq=>by
      rcases h2.mp q with u|⟨u,_⟩
      ·exact u
      ·exact absurd u w
 |_,_,_,.int i h,.int j h'=>by
  rw[N3,N3,N3,N3,oa,oa,n0 hb x y s t h h']
 |_,_,_,.str i h,.str j h'=>by
  rw[N3,N3,N3,N3,Ab,Ab,n0 hb x y s t h h']
theorem Fp{α:Type}(xs:List α)(i:Nat)(h:i<xs.length):xs=xs.take i++xs[i]::xs.drop (i+1):=by
 rw[<-Oz h,P9]
noncomputable def iv(r:List D)(i:Nat):Int:=match r[i]? with
 |some (.int x)=>x
 |_=>0
noncomputable def gr(i:Nat)(b:Int)(r:List D):List D:=r.take i++[.int (iv r i/b),.int (iv r i%b)]++r.drop (i+1)
noncomputable def pt(i:Nat)(b:Int)(r:List D):List D:=r.take i++[.int (iv r i*b+iv r (i+1))]++r.drop (i+2)
theorem cX{r:List D}{i:Nat}{x:Int}(h:r[i]?=some (.int x)):iv r i=x:=by unfold iv;rw[h]
theorem lE{r:List D}{i:Nat}{x:Int}(h:r[i]?=some (.int x)):ak (.tup r) (.int (i:Int))=some (.int x):=by rw[Au,j5,h]
theorem Jf{r:List D}{i:Nat}{x b:Int}(h:r[i]?=some (.int x)):pt i b (gr i b r)=r:=by
 have hi:=ax h;have lt:(r.take i).length=i:=by rw[NE];omega
 have e0:gr i b r=r.take i++(.int (x/b)::.int (x%b)::r.drop (i+1)):=by
  unfold gr;rw[cX h,OA];rfl
 have g1:(gr i b r)[i]?=some (.int (x/b)):=by
  rw[e0,NF ‹0›,lt,OV];rfl
 have g2:(gr i b r)[i+1]?=some (.int (x%b)):=by
  rw[e0,NF ‹0›,lt,Qa];rfl
 have t1:(gr i b r).take i=r.take i:=by rw[e0];exact PQ lt
 have t2:(gr i b r).drop (i+2)=r.drop (i+1):=by
  rw[e0,Qb,Pz ‹0›,lt,Qa];rfl
 unfold pt;rw[cX g1,cX g2,t1,t2];have ex:x/b*b+x%b=x:=by have:=P7 x b;rw[Qc]at this;exact this
 rw[ex,OA];have hx:r[i]=.int x:=by rw[Od hi]at h;exact Option.some.inj h
 conv=>rhs;rw[Fp r i hi,hx]
 rfl
theorem mid{α:Type}(xs:List α)(i:Nat)(a:α)(h:xs[i]?=some a):xs=xs.take i++a::xs.drop (i+1):=by
 have hl:=ax h;have e:xs[i]=a:=by rw[Od hl]at h;exact Option.some.inj h
 rw[<-e,List.getElem_cons_drop,P9]
theorem kI{α:Type}(p s:List α)(a:α)(m:Nat)(h:p.length<m):(p++a::s).take m=p++a::s.take (m-p.length-1):=by
 rw[List.take_append,OB ‹0›];obtain⟨n,hn⟩:∃n,m-p.length=n+1:=⟨m-p.length-1,by omega⟩
 rw[hn,N6];rfl
theorem qa{r:List D}{i:Nat}{x b:Int}(h:r[i]?=some (.int x)):gr i b r=r.take i++.int (x/b)::.int (x%b)::r.drop (i+1):=by
 unfold gr;rw[cX h,OA];rfl
theorem vS{r:List D}{i:Nat}{x y b:Int}(h:r[i]?=some (.int x))(h':r[i+1]?=some (.int y)):pt i b r=r.take i++.int (x*b+y)::r.drop (i+2):=by
 unfold pt;rw[cX h,cX h',OA];rfl
theorem A4{r:List D}{i:Nat}{x y b:Int}(h:r[i]?=some (.int x))(h':r[i+1]?=some (.int y)):(pt i b r)[i]?=some (.int (x*b+y)):=by
 have hi:=ax h;have lt:(r.take i).length=i:=by rw[NE];omega
 rw[vS h h',NF ‹0›,lt,OV];rfl
theorem Ji{r:List D}{i:Nat}{x y b:Int}(h:r[i]?=some (.int x))(h':r[i+1]?=some (.int y))(y0:0<=y)(yb:y<b):gr i b (pt i b r)=r:=by
 have hi:=ax h;have hi':=ax h';have lt:(r.take i).length=i:=by rw[NE];omega
 have a:=A4 (b:=b) h h';have t1:(pt i b r).take i=r.take i:=by rw[vS h h'];exact PQ lt
 have t2:(pt i b r).drop (i+1)=r.drop (i+2):=by
  rw[vS h h',Qb,Pz ‹0›,lt,Qa];rfl
 have d1:(x*b+y)/b=x:=by rw[Qd,Qe _ _ ‹0›,Qf y0 yb,PK]
 have d2:(x*b+y)%b=y:=by rw[Qd,Qg,Qh y0 yb]
 rw[qa a,t1,t2,d1,d2];have e1:=mid r i _ h;have e2:r.drop (i+1)=.int y::r.drop (i+2):=by
  rw[Oz hi']
  have:r[i+1]=.int y:=by rw[Od hi']at h';exact Option.some.inj h'
  rw[this]
 rw[<-e2];exact e1.symm
theorem mz:∀{σ:cy}{l:List D}(i:Nat),Sh σ l->Sh (σ.take i) (l.take i)
 |_,_,i,.nil=>by rw[N5,N5];exact .nil
 |_,_,0,.int x h=>by rw[N4,N4];exact .nil
 |_,_,0,.str x h=>by rw[N4,N4];exact .nil
 |_,_,i+1,.int x h=>by rw[N6,N6];exact .int x (mz i h)
 |_,_,i+1,.str x h=>by rw[N6,N6];exact .str x (mz i h)
theorem zL{m i:Nat}{b:Int}(hb:0<b){σ:cy}{r s:List D}{x y:Int}(hr:r[i]?=some (.int x))(hs:s[i]?=some (.int y))(sr:Sh σ (r.take m))(ss:Sh σ (s.take m)):
  cp ((gr i b r).take (if i<m then m+1 else m)) ((gr i b s).take (if i<m then m+1 else m))=cp (r.take m) (s.take m):=by
 have li:=ax hr;have lj:=ax hs;have pr:(r.take i).length=i:=by rw[NE];omega
 have ps:(s.take i).length=i:=by rw[NE];omega
 by_cases h:i<m
 ·rw[if_pos h,qa hr,qa hs];have a1:=kI (r.take i) (.int (x%b)::r.drop (i+1)) (.int (x/b)) (m+1) ‹0›;have a2:=kI (s.take i) (.int (y%b)::s.drop (i+1)) (.int (y/b)) (m+1) ‹0›;have b1:=kI (r.take i) (r.drop (i+1)) (.int x) m ‹0›;have b2:=kI (s.take i) (s.drop (i+1)) (.int y) m ‹0›;rw[<-mid r i _ hr]at b1;rw[<-mid s i _ hs]at b2;rw[pr]at a1 b1;rw[ps]at a2 b2;obtain⟨n,hn⟩:∃n,m-i=n+1:=⟨m-i-1,by omega⟩
  rw[show m+1-i-1=n+1 by omega,N6]at a1 a2;rw[show m-i-1=n by omega]at b1 b2;rw[a1,a2,b1,b2];have q1:∃τ,Sh τ (r.take i)/\Sh τ (s.take i):=by
   refine⟨σ.take i,?_,?_⟩
   ·have:=mz i sr
    rwa [Qi,Pr ‹0›]at this
   ·have:=mz i ss
    rwa [Qi,Pr ‹0›]at this
  obtain⟨τ,t1,t2⟩:=q1;exact n0 hb x y _ _ t1 t2
 ·rw[if_neg h,qa hr,qa hs,Qj ‹0›,Qj ‹0›,Qi,Qi,Pr ‹0›]
noncomputable abbrev num(lo hi:Int):D:=.tup [.str "number",.int lo,.int hi]
structure Po(kf rf:List D)(ps:cf)(i:Nat)(nm:Str)(lo hi b:Int)(q r:Str):Prop where
 h:Fo kf rf ps
 at':ps[i]?=some (nm,num lo hi)
 lh:lo<=hi
 b1:2<=b
 b2:b<=1000000000
 d1:lo%b=0
 d2:(hi+1)%b=0
 qr:q≠r
 hq:∀(j:Nat)(p:Str×D),ps[j]?=some p->j≠i->p.1≠q/\p.1≠r
 sz:(if i<kf.length then kf.length else rf.length)<8
noncomputable def ps2(ps:cf)(i:Nat)(lo hi b:Int)(q r:Str):cf:=ps.take i++(q,num (lo/b) (hi/b))::(r,num 0 (b-1))::ps.drop (i+1)
section
variable{kf rf:List D}{ps:cf}{i:Nat}{nm:Str}{lo hi b:Int}{q r:Str}
theorem bounds(P:Po kf rf ps i nm lo hi b q r):lo/b<=hi/b/\(∀x,lo<=x->x<=hi->lo/b<=x/b/\x/b<=hi/b/\0<=x%b/\x%b<=b-1)/\∀x y,lo/b<=x->x<=hi/b->0<=y->y<=b-1->lo<=x*b+y/\x*b+y<=hi:=by
 have b1:=P.b1;have hb:0<b:=by omega
 have e1:=P7 lo b;have e2:=P7 hi b;have d1:=P.d1;have d2:=P.d2;have a3:=PJ hi (show b≠0 by omega);have a4:=PN hi hb;have d3:hi%b=b-1:=by
  have e3:=P7 (hi+1) b;rw[d2]at e3;rcases(show hi%b=b-1\/hi%b+1<b by omega)with z|z
  ·exact z
  ·have:(hi+1)%b=hi%b+1:=by
    rw[Int.add_emod,Qh (show(0:Int)<=1 by decide) (show(1:Int)<b by omega)];exact Qh ‹0› z
   omega
 refine⟨P8 hb P.lh,λx h1 h2=>⟨P8 hb h1,P8 hb h2,PJ x ‹0›,by have:=PN x hb;omega⟩,λx y h1 h2 h3 h4=>?_⟩;have m1:b*(lo/b)<=b*x:=Qk h1 ‹0›;have m2:b*x<=b*(hi/b):=Qk h2 ‹0›;rw[Qc x b];omega
theorem qp(hi':i<ps.length)(j:Nat):(ps2 ps i lo hi b q r)[j]?=if j<i then ps[j]? else if j=i then some (q,num (lo/b) (hi/b))else if j=i+1 then some (r,num 0 (b-1))else ps[j-1]?:=by
 have lt:(ps.take i).length=i:=by rw[NE];omega
 unfold ps2;by_cases h1:j<i
 ·rw[if_pos h1,NK ‹0›,NN h1]
 ·rw[if_neg h1,NF ‹0›,lt];by_cases h2:j=i
  ·rw[if_pos h2,h2,OV];rfl
  ·rw[if_neg h2];by_cases h3:j=i+1
   ·rw[if_pos h3,h3,Qa];rfl
   ·rw[if_neg h3];obtain⟨n,rfl⟩:∃n,j=i+(n+2):=⟨j-i-2,by omega⟩
    rw[Qa,OI,OI,Ot];congr 1;omega
theorem Cm(P:Po kf rf ps i nm lo hi b q r):∃kf' rf',(if i<kf.length then D.tup [.tup (kf.take i++[fld (q,num (lo/b) (hi/b)),fld (r,num 0 (b-1))]++kf.drop (i+1)),.tup rf]else .tup [.tup kf,.tup (rf.take (i-kf.length)++[fld (q,num (lo/b) (hi/b)),fld (r,num 0 (b-1))]++rf.drop (i-kf.length+1))])=frm kf' rf'/\Fo kf' rf' (ps2 ps i lo hi b q r)/\kf'.length=if i<kf.length then kf.length+1 else kf.length:=by
 have h:=P.h;have len:=h.len;have il:=ax P.at';have sz:=P.sz;have k1:=h.k1;have k8:=h.k8;have r8:=h.r8;have bd:=bounds P;have b1:=P.b1;have wq:rW (num (lo/b) (hi/b)):=.inl ⟨_,_,bd.1,rfl⟩;have wr:rW (num 0 (b-1)):=.inl ⟨_,_,by omega,rfl⟩;obtain⟨os,hos⟩:∃os:List D,os=[fld (q,num (lo/b) (hi/b)),fld (r,num 0 (b-1))]:=⟨_,rfl⟩
 rw[<-hos];have ol:os.length=2:=by rw[hos];rfl
 have em:(ps2 ps i lo hi b q r).map fld=(kf++rf).take i++os++(kf++rf).drop (i+1):=by
  rw[h.e,hos];unfold ps2;rw[Oq,Nw,Nw,Px,Pw,OA];rfl
 have nd:((ps2 ps i lo hi b q r).map (·.1)).Nodup:=by
  refine List.pairwise_iff_getElem.mpr λa c ha hc hac=>?_;rw[Nx]at ha hc;rw[PX,PX];have ga:=qp (lo:=lo) (hi:=hi) (b:=b) (q:=q) (r:=r) il a;have gc:=qp (lo:=lo) (hi:=hi) (b:=b) (q:=q) (r:=r) il c;rw[Od ha]at ga;rw[Od hc]at gc;have pw:∀(x y:Nat)(u v:Str×D),x<y->ps[x]?=some u->ps[y]?=some v->u.1≠v.1:=λx y u v xy hu hv=>by
   have lx:=ax hu;have ly:=ax hv
   have:=List.pairwise_iff_getElem.mp h.hn x y (by rw[Nx];exact lx) (by rw[Nx];exact ly) xy
   rw[PX,PX]at this;rw[Od lx]at hu;rw[Od ly]at hv;rw[<-Option.some.inj hu,<-Option.some.inj hv];exact this
  generalize (ps2 ps i lo hi b q r)[a]=u at ga;generalize (ps2 ps i lo hi b q r)[c]=v at gc;have qr:=P.qr;by_cases a1:a<i
  ·rw[if_pos a1]at ga;by_cases c1:c<i
   ·rw[if_pos c1]at gc;exact pw a c u v hac ga.symm gc.symm
   ·rw[if_neg c1]at gc;by_cases c2:c=i
    ·rw[if_pos c2]at gc;cases gc;exact(P.hq a u ga.symm ‹0›).1
    ·rw[if_neg c2]at gc;by_cases c3:c=i+1
     ·rw[if_pos c3]at gc;cases gc;exact(P.hq a u ga.symm ‹0›).2
     ·rw[if_neg c3]at gc;exact pw a (c-1) u v ‹0› ga.symm gc.symm
  ·rw[if_neg a1]at ga;rw[if_neg (show¬c<i by omega),if_neg (show¬c=i by omega)]at gc;by_cases a2:a=i
   ·rw[if_pos a2]at ga;cases ga;by_cases c3:c=i+1
    ·rw[if_pos c3]at gc;cases gc;exact qr
    ·rw[if_neg c3]at gc;exact λz=>(P.hq (c-1) v gc.symm ‹0›).1 z.symm
   ·rw[if_neg a2]at ga;rw[if_neg (show¬c=i+1 by omega)]at gc;by_cases a3:a=i+1
    ·rw[if_pos a3]at ga;cases ga;exact λz=>(P.hq (c-1) v gc.symm ‹0›).2 z.symm
    ·rw[if_neg a3]at ga;exact pw (a-1) (c-1) u v ‹0› ga.symm gc.symm
 have fl:∀m':Nat,(m'=if i<kf.length then kf.length+1 else kf.length)->∀(j:Nat)(p:Str×D),(ps2 ps i lo hi b q r)[j]?=some p->(j<m'->rW p.2)/\Kw p.2:=λm' hm j p hp=>by
  rw[qp il]at hp;by_cases a1:j<i
  ·rw[if_pos a1]at hp
   have:=h.fl j p hp
   exact⟨λz=>this.1 (by split at hm<;>omega),this.2⟩
  ·rw[if_neg a1]at hp;by_cases a2:j=i
   ·rw[if_pos a2]at hp;cases hp;exact⟨λ_=>wq,.inl wq⟩
   ·rw[if_neg a2]at hp;by_cases a3:j=i+1
    ·rw[if_pos a3]at hp;cases hp;exact⟨λ_=>wr,.inl wr⟩
    ·rw[if_neg a3]at hp
     have:=h.fl (j-1) p hp
     exact⟨λz=>this.1 (by split at hm<;>omega),this.2⟩
 by_cases il':i<kf.length
 ·rw[if_pos il']at sz;rw[if_pos il',if_pos il'];have kl:(kf.take i++os++kf.drop (i+1)).length=kf.length+1:=by rw[NR,NR,NE,NT,ol];omega
  refine⟨_,_,rfl,⟨by rw[kl];omega,by rw[kl];omega,r8,?_,nd,fl _ (by rw[kl,if_pos il'])⟩,kl⟩;rw[em,Qj ‹0›,List.drop_append_of_le_length ‹0›];simp only[OA]
 ·rw[if_neg il']at sz;rw[if_neg il',if_neg il'];have kl:(rf.take (i-kf.length)++os++rf.drop (i-kf.length+1)).length=rf.length+1:=by rw[NR,NR,NE,NT,ol];omega
  refine⟨_,_,rfl,⟨k1,k8,by rw[kl];omega,?_,nd,fl _ (by rw[if_neg il'])⟩,rfl⟩;have t1:(kf++rf).take i=kf++rf.take (i-kf.length):=by
   rw[List.take_append,OB (l:=kf) ‹0›]
  have t2:(kf++rf).drop (i+1)=rf.drop (i-kf.length+1):=by
   rw[Qb,Pz (as:=kf) ‹0›,Ol,show i+1-kf.length=i-kf.length+1 by omega]
  rw[em,t1,t2];simp only[OA]
end
theorem jz{ks row:List D}{t:Nat}{lo hi:Int}(f:F2 (dI 1) ks row)(h:ks[t]?=some (num lo hi)):∃x,row[t]?=some (.int x)/\lo<=x/\x<=hi:=by
 have hl:=ax h;have hv:row[t]?=some (row[t]'(by rw[<-f.length];exact hl)):=Od _;generalize row[t]'(by rw[<-f.length];exact hl)=v at hv;rcases f.get h hv with z|⟨_,_,_,_,_,z,_⟩
 ·rcases z with⟨l,u,x,e,h1,h2,rfl⟩|⟨_,_,e,_⟩
  ·injection e with e;injection e with _ e;injection e with e1 e;injection e with e2 _;injection e1 with e1;injection e2 with e2;exact⟨x,hv,by omega,by omega⟩
  ·cases e
 ·cases z
section
variable{kf rf:List D}{ps:cf}{i:Nat}{nm:Str}{lo hi b:Int}{q r:Str}
theorem pq:(ps2 ps i lo hi b q r).map (·.2)=(ps.map (·.2)).take i++num (lo/b) (hi/b)::num 0 (b-1)::(ps.map (·.2)).drop (i+1):=by
 unfold ps2;rw[Oq,Nw,Nw,Px,Pw]
theorem iX(P:Po kf rf ps i nm lo hi b q r){row:List D}(f:F2 (dI 1) (ps.map (·.2)) row):∃x,row[i]?=some (.int x)/\F2 (dI 1) ((ps2 ps i lo hi b q r).map (·.2)) (gr i b row):=by
 obtain⟨x,hx,h1,h2⟩:=jz f (show(ps.map (·.2))[i]?=some (num lo hi)by rw[NM,P.at'];rfl);obtain⟨a1,a2,a3,a4⟩:=(bounds P).2.1 x h1 h2;refine⟨x,hx,?_⟩;rw[pq,qa hx];exact(f.take i).append (.cons (.inl (.inl ⟨_,_,_,rfl,a1,a2,rfl⟩)) (.cons (.inl (.inl ⟨_,_,_,rfl,a3,a4,rfl⟩)) (f.drop (i+1))))
theorem iR(P:Po kf rf ps i nm lo hi b q r){row:List D}(f:F2 (dI 1) ((ps2 ps i lo hi b q r).map (·.2)) row):∃x y,row[i]?=some (.int x)/\row[i+1]?=some (.int y)/\0<=y/\y<b/\F2 (dI 1) (ps.map (·.2)) (pt i b row):=by
 have il:=ax P.at';have lt:((ps.map (·.2)).take i).length=i:=by rw[NE,Nx];omega
 rw[pq]at f;obtain⟨x,hx,h1,h2⟩:=jz (t:=i) (lo:=lo/b) (hi:=hi/b) f (by rw[NF ‹0›,lt,OV];rfl);obtain⟨y,hy,h3,h4⟩:=jz (t:=i+1) (lo:=0) (hi:=b-1) f (by rw[NF ‹0›,lt,Qa];rfl);obtain⟨a1,a2⟩:=(bounds P).2.2 x y h1 h2 h3 h4;refine⟨x,y,hx,hy,h3,by omega,?_⟩;have kk:(ps.map (·.2))[i]?=some (num lo hi):=by rw[NM,P.at'];rfl
 rw[mid _ i _ kk,vS hx hy];have t1:=f.take i;rw[PQ lt]at t1;have t2:=f.drop (i+2);rw[Qb,Pz ‹0›,lt,Qa]at t2;exact t1.append (.cons (.inl (.inl ⟨_,_,_,rfl,a1,a2,rfl⟩)) t2)
theorem Di(P:Po kf rf ps i nm lo hi b q r){rows:bw}(t:Tb kf.length ps rows):Tb (if i<kf.length then kf.length+1 else kf.length) (ps2 ps i lo hi b q r) (rows.map (gr i b)):=by
 have b1:=P.b1;obtain⟨σ,hσ⟩:=P.h.sh;refine⟨by rw[Nx];exact t.l,λr' hr'=>?_,?_⟩
 ·obtain⟨row,hrow,rfl⟩:=List.mem_map.mp hr';exact(iX P (t.f row hrow)).choose_spec.2
 ·refine List.pairwise_map.mpr (t.ris.imp_of_mem λ{u v} hu hv h=>?_);obtain⟨x,hx,_⟩:=iX P (t.f u hu);obtain⟨y,hy,_⟩:=iX P (t.f v hv);rw[zL ‹0› hx hy (hσ u (t.f u hu)) (hσ v (t.f v hv))];exact h
theorem DV(P:Po kf rf ps i nm lo hi b q r){rows:bw}(t:Tb (if i<kf.length then kf.length+1 else kf.length) (ps2 ps i lo hi b q r) rows):Tb kf.length ps (rows.map (pt i b))/\(rows.map (pt i b)).map (gr i b)=rows:=by
 have b1:=P.b1;obtain⟨σ,hσ⟩:=P.h.sh;have gp:∀u∈rows,gr i b (pt i b u)=u:=λu hu=>by
  obtain⟨x,y,hx,hy,h1,h2,_⟩:=iR P (t.f u hu);exact Ji hx hy h1 h2
 refine⟨⟨by rw[Nx];exact t.l,λr' hr'=>?_,?_⟩,?_⟩
 ·obtain⟨row,hrow,rfl⟩:=List.mem_map.mp hr';obtain⟨x,y,hx,hy,h1,h2,f⟩:=iR P (t.f row hrow);exact f
 ·refine List.pairwise_map.mpr (t.ris.imp_of_mem λ{u v} hu hv h=>?_);obtain⟨x,y,hx,hy,h1,h2,f⟩:=iR P (t.f u hu);obtain⟨x',y',hx',hy',h1',h2',f'⟩:=iR P (t.f v hv);rw[<-zL (b:=b) ‹0› (A4 hx hy) (A4 hx' hy') (hσ _ f) (hσ _ f'),gp u hu,gp v hv];exact h
 ·rw[PL]
  have:rows.map (gr i b∘pt i b)=rows.map id:=Om λu hu=>gp u hu
  rw[this,Ql]
theorem gw:bZ "name" ["Part"] (sP nm b q r)=some (.str nm):=by rfl
theorem kq:bZ "by" ["Part"] (sP nm b q r)=some (.int b):=by rfl
theorem G5:bZ "quotient" ["Part"] (sP nm b q r)=some (.str q):=by rfl
theorem FY:bZ "rest" ["Part"] (sP nm b q r)=some (.str r):=by rfl
theorem A0(h:Po kf rf ps i nm lo hi b q r)(rows:bw)(hl:rows.length<=100)(hr:∀r∈rows,r.length<=100/\∃x,r[i]?=some (.int x)):ao cu 3 4 [sP nm b q r,.tup [.tup kf,.tup rf],.tup (rows.map .tup)]=.ok (.tup (rows.map λr=>.tup (gr i b r))):=by
 have b1:=h.b1;have b2:=h.b2;have pp:=cG kf rf ps (by have:=h.h.hl;omega) h.h.e h.h.hn i nm _ h.at';have d:=λj=>cQ (i:=j) (show(0:Int)<b by omega) (show b<10^200 by
  have:(10:Int)^200>1000000000:=by decide +kernel
  omega)
 have g:=λj=>bf (i:=j) (show(0:Int)<b by omega);have f0:eQ [none,some 3,some 0] (bO (af 2)) (gN 0) bo (fR (ao bT 3 3) (aa (af 0) (aa (af 1) (aa (bY (aa (f2 du (f2 ak (af 0) (af 1)) (f1 (bZ "by" ["Part"]) (af 2))) (aa (f2 bI (f2 ak (af 0) (af 1)) (f1 (bZ "by" ["Part"]) (af 2))) ah))) ah)))) [‹sP nm b q r›,‹.tup [.tup kf,.tup rf]›,‹.tup (rows.map .tup)›,‹.int i›]=.ok (.lst (rows.map λr=>.tup (gr i b r))):=by
  refine bX (ds:=rows.map .tup) (by simp! only[]) (by rw[Nx];omega) ?_;refine dX (λr=>D.tup r) (λr=>.tup (gr i b r)) rows λrw' hrw=>⟨_,rfl,rfl,?_⟩
  obtain⟨hz,x,hx⟩:=hr rw' hrw;have rx:=lE hx;have rp:=dQ rw' [.int (x/b),.int (x%b)] i (by simp;omega);have eg:gr i b rw'=rw'.take i++[.int (x/b),.int (x%b)]++rw'.drop (i+1):=by unfold gr;rw[cX hx]
  simp! only[rx,kq,d,g,uK,rp,eg]
 rw[fK];unfold cu;simp! only[gw,pp,f0]
theorem BD{rw':List D}{x y:Int}(b1:2<=b)(b2:b<=1000000000)(hz:rw'.length<=100)(hx:rw'[i]?=some (.int x))(hy:rw'[i+1]?=some (.int y)):
  fX (.int x) (.int b)=some (.int (x*b))/\aI (.tup (rw'.take i)) (.tup [.int (x*b+y)])=some (.tup (rw'.take i++[.int (x*b+y)]))/\aI (.tup (rw'.take i++[.int (x*b+y)])) (.tup (rw'.drop (i+2)))=some (.tup (pt i b rw')):=by
 refine⟨gx ‹0› ‹0›,cI _ _ (by rw[NE];simp;omega),?_⟩;rw[cI _ _ (by rw[NR,NE,NT];simp;omega)];unfold pt;rw[cX hx,cX hy]
theorem AH(h:Po kf rf ps i nm lo hi b q r)(t:D)(rows:bw)(hl:rows.length<=100)(hr:∀r∈rows,r.length<=100/\∃x y,r[i]?=some (.int x)/\r[i+1]?=some (.int y)):ao dj 4 5 [sP nm b q r,.tup [.tup kf,.tup rf],t,.tup (rows.map .tup)]=.ok (.tup (rows.map λr=>.tup (pt i b r))):=by
 have b1:=h.b1;have b2:=h.b2;have pp:=cG kf rf ps (by have:=h.h.hl;omega) h.h.e h.h.hn i nm _ h.at';have c1:((i:Int)+1)=((i+1:Nat):Int):=by omega
 have c2:((i:Int)+2)=((i+2:Nat):Int):=by omega
 have f0:eQ [none,some 4,some 0] (bO (af 3)) (gN 0) bo (f2 aI (f2 aI (aS (af 0) aM (aY (af 1))) (bY (aa (f2 aI (f2 fX (f2 ak (af 0) (af 1)) (f1 (bZ "by" ["Part"]) (af 2))) (f2 ak (af 0) (f2 aI (af 1) (fC (.int 1))))) ah))) (aS (af 0) (aY (f2 aI (af 1) (fC (.int 2)))) aM)) [‹sP nm b q r›,‹.tup [.tup kf,.tup rf]›,‹t›,‹.tup (rows.map .tup)›,‹.int i›]=.ok (.lst (rows.map λr=>.tup (pt i b r))):=by
  refine bX (ds:=rows.map .tup) (by simp! only[]) (by rw[Nx];omega) ?_;refine dX (λr=>D.tup r) (λr=>.tup (pt i b r)) rows λrw' hrw=>⟨_,rfl,rfl,?_⟩
  obtain⟨hz,x,y,hx,hy⟩:=hr rw' hrw;obtain⟨m,a1,a2⟩:=BD (i:=i) b1 b2 hz hx hy;simp! only[lE hx,c1,lE hy,c2,kq,m,ya,hW,kK,a1,a2]
 rw[nz];unfold dj;simp! only[gw,pp,f0]
theorem Ck(P:Po kf rf ps i nm lo hi b q r){kf' rf':List D}(fo:Fo kf' rf' (ps2 ps i lo hi b q r))(lk:kf'.length=if i<kf.length then kf.length+1 else kf.length):Ln (sP nm b q r) kf rf ps kf' rf' (ps2 ps i lo hi b q r):=by
 have hl:=P.h.hl;have hl':=fo.hl;refine⟨fo,List.map (gr i b),List.map (pt i b),λrows t=>?_,λrows t=>?_⟩
 ·have tl:=t.l;refine⟨by rw[lk];exact Di P t,Nx ..,?_,?_⟩
  ·rw[PL]
   have:rows.map (pt i b∘gr i b)=rows.map id:=Om λu hu=>by
    obtain⟨x,hx,_⟩:=iX P (t.f u hu);exact Jf hx
   rw[this,Ql]
  ·rw[GT,Bm,A0 P rows ‹0› λu hu=>?_,tbl,PL]
   ·rfl
   ·obtain⟨x,hx,_⟩:=iX P (t.f u hu);exact⟨by rw[<-(t.f u hu).length,Nx];omega,x,hx⟩
 ·rw[lk]at t;have tl:=t.l;obtain⟨t1,t2⟩:=DV P t;refine⟨t1,t2,λt0=>?_⟩;rw[IP,Bm,AH P t0 rows ‹0› λu hu=>?_,tbl,PL]
  ·rfl
  ·obtain⟨x,y,hx,hy,_⟩:=iR P (t.f u hu);exact⟨by rw[<-(t.f u hu).length,Nx];omega,x,y,hx,hy⟩
end
section
variable{nm q r:Str}{b:Int}
theorem E7(m:Str)(g2:cP)(fo:FX)(fas:aW)(ρ:av)(h:fo ρ=.ok (sP nm b q r))(hm:(["name","by","quotient","rest"]:au).contains m=false):cY m [("Part",g2)] fo fas ρ=(fas ρ).bind λas=>g2 (sP nm b q r::as):=by
 unfold cY;rw[h,eB]
 have:List.lookup ("Part":Str) [(("Part":Str),g2)]=some g2:=by
  rw[NZ,BEq.rfl]
 simp only[this,hm];rfl
end
section
variable{kf rf:List D}{ps:cf}
theorem ph{ps:cf}(hn:(ps.map (·.1)).Nodup){i t:Nat}{q:Str}{k:D}{p:Str×D}(hi:ps[i]?=some (q,k))(ht:ps[t]?=some p):(((i:Nat):Int)==((0+t:Nat):Int))=(p.1==q):=by
 have il:=ax hi;have tl:=ax ht;have e1:ps[i]=(q,k):=by rw[Od il]at hi;exact Option.some.inj hi
 have e2:ps[t]=p:=by rw[Od tl]at ht;exact Option.some.inj ht
 by_cases z:i=t
 ·subst z;rw[e1]at e2;subst e2;simp
 ·have pw:=List.pairwise_iff_getElem.mp hn;have ne:p.1≠q:=λw=>by
   rcases Pj z with y|y
   ·exact pw i t (by rw[Nx];exact il) (by rw[Nx];exact tl) y (by rw[PX,PX,e1,e2,w])
   ·exact pw t i (by rw[Nx];exact tl) (by rw[Nx];exact il) y (by rw[PX,PX,e1,e2,w])
  have a:((i:Int)==((0+t:Nat):Int))=false:=by simp;omega
  have b:(p.1==q)=false:=by simpa using ne
  rw[a,b]
noncomputable def oth(nm:Str)(x:Str):Bool:=!(x==nm)
theorem tL(h:Fo kf rf ps)(nm q:Str){i:Nat}{k:D}(hi:ps[i]?=some (nm,k)):ao bx 3 4 [.tup [.tup kf,.tup rf],.str q,.tup [.int i]]=.ok (.bl (ps.any λp=>(p.1==q)&&oth nm p.1)):=by
 have hl:=h.hl;have len:=h.len;obtain⟨vs,v1,v2,v3⟩:=lL (ρ:=inB [none,none,some 1,some 2] [‹.tup [.tup kf,.tup rf]›,‹.str q›,‹.tup [.int i]›,‹.tup (ps.map fld)›]) (g:=gT 2 (o9 [0,1])) (C:=bo) (Fe:=iB (f2 gd (f2 ak (af 1) (fC (.int 0))) (af 2)) (f2 gD (af 0) (af 3))) (fD 0 (ps.map fld)) (λt v=>∃p,ps[t]?=some p/\v=.bl ((p.1==q)&&oth nm p.1)) (λt d hd=>by
  rw[iV,NM]at hd;cases hp:ps[t]? with
  |none=>rw[hp]at hd;cases hd
  |some p=>
   rw[hp]at hd;cases hd;refine⟨[‹.int ((0+t:Nat):Int)›,‹.tup [.str p.1,p.2]›,‹.str q›,‹.tup [.int i]›],_,rfl,rfl,?_,p,rfl,rfl⟩;have e1:=ph h.hn hi hp;rw[OO]at e1;simp! only[yk,e1,oth])
 have ev:vs=(ps.map λp=>(p.1==q)&&oth nm p.1).map .bl:=by
  have lv:vs.length=ps.length:=by rw[v1,dL,Nx]
  apply Pa
  ·rw[Nx,Nx,lv]
  ·intro t h1 h2;obtain⟨p,hp,e⟩:=v2 t _ (Od h1);rw[e,PX,PX]
   have:ps[t]'‹0›=p:=(by rw[Od ‹0›]at hp;exact Option.some.inj hp);rw[this]
 have f0:=bX (ix:=[none,none,some 1,some 2]) (G:=eh (aa (af 3) ah)) (ρ:=[‹.tup [.tup kf,.tup rf]›,‹.str q›,‹.tup [.int i]›,‹.tup (ps.map fld)›]) (by simp! only[lD]) (by rw[dL,Nx];omega) v3;rw[ev]at f0;have an:(ps.map λp=>(p.1==q)&&oth nm p.1).any id=ps.any λp=>(p.1==q)&&oth nm p.1:=by rw[OY];rfl
 rw[fK];unfold bx;simp! only[cI kf rf ‹0›,h.e,f0,wC,an]
noncomputable def tw(ps:cf)(nm q r:Str):Bool:=(q==r)||((ps.any λp=>(p.1==q)&&oth nm p.1)||ps.any λp=>(p.1==r)&&oth nm p.1)
theorem xA(h:Fo kf rf ps)(nm q r:Str)(b:Int){i:Nat}{k:D}(hi:ps[i]?=some (nm,k)):ao bL 3 3 [sP nm b q r,.tup [.tup kf,.tup rf],.int i]=if tw ps nm q r=true then .error (some ⟨"Twice",[],[]⟩)else .ok .non:=by
 have e1:=tL h nm q hi;have e2:=tL h nm r hi;unfold tw;generalize (ps.any λp=>(p.1==q)&&oth nm p.1)=b1 at *;generalize (ps.any λp=>(p.1==r)&&oth nm p.1)=b2 at *;rw[fK];unfold bL;cases z:(q==r)with
 |true=>simp! only[G5,FY,z,ya,e1,e2,eT,Fk,Bool.true_or]
 |false=>simp! only[G5,FY,z,ya,e1,e2,eT,Fk,md,Bool.false_or]
theorem Kb:(small 1&&((1:Nat)==1))=true:=by rfl
theorem G6(h:Fo kf rf ps)(nm q r:Str){b:Int}(b1:2<=b)(b2:b<=1000000000){i:Nat}{lo hi:Int}(hi':ps[i]?=some (nm,num lo hi)):∃v1 v2:List D,ao bR 3 5 [sP nm b q r,.tup [.tup kf,.tup rf],.int i]=if(!(lo%b==0))=true then .error (some ⟨"Torn",["view"],v1⟩)else if(!((hi+1)%b==0))=true then .error (some ⟨"Torn",["view"],v2⟩)else .ok .non:=by
 have hl:=h.hl;obtain⟨row,er,rl⟩:=uN h;have kp:=eW kf rf ps ‹0› h.e i nm _ hi';have g:=λj=>bf (i:=j) (show(0:Int)<b by omega);have d:=λj=>cQ (i:=j) (show(0:Int)<b by omega) (show b<10^200 by
  have:(10:Int)^200>1000000000:=by decide +kernel
  omega)
 have rp1:=dQ row [.int (lo/b),.int 0] i (by simp;omega);have rp2:=dQ row [.int (hi/b),.int (b-1)] i (by simp;omega);refine⟨[.tup [.tup (row.take i++[.int (lo/b),.int 0]++row.drop (i+1))]],[.tup [.tup (row.take i++[.int (hi/b),.int (b-1)]++row.drop (i+1))]],?_⟩;rw[fK];unfold bR;simp! only[kp,er,kq,g,d,uK,rp1,rp2,ya,ue,Kb]
noncomputable def sz(kf rf:List D)(i:Nat):Nat:=if i<kf.length then kf.length else rf.length
theorem A3{k:D}(h:Kw k):∃s,ak k (.int 0)=some (.str s)/\((s==("number":Str))=true->∃lo hi,lo<=hi/\k=num lo hi):=by
 rcases h with(⟨lo,hi,a1,rfl⟩|⟨ws,_,_,rfl⟩)|(⟨lo,hi,a1,a2,a3,rfl⟩|⟨ws,_,_,rfl⟩)|⟨kf,rf,b,rfl,_⟩
 ·exact⟨_,rfl,λ_=>⟨lo,hi,a1,rfl⟩⟩
 ·exact⟨_,rfl,λz=>by rw[kW]at z;cases z⟩
 ·exact⟨_,rfl,λ_=>⟨lo,hi,a1,rfl⟩⟩
 ·exact⟨_,rfl,λz=>by rw[kW]at z;cases z⟩
 ·exact⟨_,rfl,λz=>by rw[iU]at z;cases z⟩
theorem DF(h:Fo kf rf ps)(nm q r:Str){b:Int}(z2:2<=b)(z3:b<=1000000000){i:Nat}{k:D}(hi:ps[i]?=some (nm,k)):Vw (sP nm b q r) kf rf ps (VW (sP nm b q r) [sP nm b q r,frm kf rf]):=by
 have hl:=h.hl;have len:=h.len;rw[VW,Bm];obtain⟨s,hs,hk⟩:=A3 (h.fl i _ hi).2;have hs:ak k (.int 0)=some (.str s):=hs;have p1:=cG kf rf ps ‹0› h.e h.hn i nm k hi;have p3:=eW kf rf ps ‹0› h.e i nm k hi;have nv:=xA h nm q r b hi;have m1:=λfas ρ=>E7 (nm:=nm) (b:=b) (q:=q) (r:=r) "check_names" (ao bL 3 3) (af 0) fas (‹sP nm b q r›::ρ) rfl (by decide +kernel);have m2:=λfas ρ=>E7 (nm:=nm) (b:=b) (q:=q) (r:=r) "check_ends" (ao bR 3 5) (af 0) fas (‹sP nm b q r›::ρ) rfl (by decide +kernel);have bb:(decide (2<=b)&&decide (b<=1000000000))=true:=by rw[decide_eq_true z2,decide_eq_true z3];rfl
 cases w:(s==("number":Str))with
 |false=>
  have:ao aB 2 6 [sP nm b q r,.tup [.tup kf,.tup rf]]=.error (some ⟨"NoKind",[],[]⟩):=by
   rw[bB];unfold aB;simp! only[gw,kq,p1,p3,hs,md,w,bb,PH,Bool.true_or,eT,Fk]
  rw[this];exact .no _ _ _ (by decide +kernel)
 |true=>
  obtain⟨lo,up,lu,rfl⟩:=hk w;obtain⟨v1,v2,ec⟩:=G6 h nm q r z2 z3 hi;cases t:tw ps nm q r with
  |true=>
   rw[t,if_pos rfl]at nv
   have:ao aB 2 6 [sP nm b q r,.tup [.tup kf,.tup rf]]=.error (some ⟨"Twice",[],[]⟩):=by
    rw[bB];unfold aB;simp! only[gw,kq,p1,p3,hs,md,w,bb,PF,Qm,m1,nv,fq]
   rw[this];exact .no _ _ _ (by decide +kernel)
  |false=>
   rw[t,if_neg Nn]at nv;have k8:=h.k8;have r8:=h.r8;have sl:cO [if decide (i<kf.length)=true then .tup kf else .tup rf]=some (.int (sz kf rf i:Int)):=by
    unfold sz;by_cases w:i<kf.length
    ·rw[decide_eq_true w,if_pos rfl,if_pos w];rfl
    ·rw[decide_eq_false w,if_neg Nn,if_neg w];rfl
   have s8:sz kf rf i<=8:=(by unfold sz;split<;>omega);have ik:=fZ kf rf i;have ge:decide ((8:Int)<=(sz kf rf i:Int))=decide (sz kf rf i=8):=(by rw[decide_eq_decide];omega);have iff:∀c:Bool,(if c=true then(.ok (.tup kf):R D)else .ok (.tup rf))=.ok (if c=true then .tup kf else .tup rf):=λc=>by cases c<;>rfl
   cases y:decide (sz kf rf i=8)with
   |true=>
    have:ao aB 2 6 [sP nm b q r,.tup [.tup kf,.tup rf]]=.error (some ⟨"TooMany",[],[]⟩):=by
     rw[bB];unfold aB;simp! only[gw,kq,p1,p3,hs,md,w,bb,PF,Qm,m1,nv,fq,ik,iff,sl,ge,y,eT,Fk]
    rw[this];exact .no _ _ _ (by decide +kernel)
   |false=>
    cases v:(!(lo%b==0))with
    |true=>
     rw[v,if_pos rfl]at ec
     have:ao aB 2 6 [sP nm b q r,.tup [.tup kf,.tup rf]]=.error (some ⟨"Torn",["view"],v1⟩):=by
      rw[bB];unfold aB;simp! only[gw,kq,p1,p3,hs,md,w,bb,PF,Qm,m1,m2,nv,fq,ik,iff,sl,ge,y,ec]
     rw[this];exact .no _ _ _ (by decide +kernel)
    |false=>
     rw[v,if_neg Nn]at ec;cases u:(!((up+1)%b==0))with
     |true=>
      rw[u,if_pos rfl]at ec
      have:ao aB 2 6 [sP nm b q r,.tup [.tup kf,.tup rf]]=.error (some ⟨"Torn",["view"],v2⟩):=by
       rw[bB];unfold aB;simp! only[gw,kq,p1,p3,hs,md,w,bb,PF,Qm,m1,m2,nv,fq,ik,iff,sl,ge,y,ec]
      rw[this];exact .no _ _ _ (by decide +kernel)
     |false=>
      rw[u,if_neg Nn]at ec;have P:Po kf rf ps i nm lo up b q r:=by
       have t':=t;unfold tw at t';rw[OT,OT]at t';obtain⟨t1,t2,t3⟩:=t';refine⟨h,hi,lu,z2,z3,by simpa using v,by simpa using u,by simpa using t1,λj p hj ji=>?_,?_⟩
       ·have ne:p.1≠nm:=λe=>by
         have jl:=ax hj;have il:=ax hi;have e1:=ph h.hn hi hj;rw[e,BEq.rfl,OO]at e1
         have:(i:Int)=(j:Int):=(by simpa using e1);omega
        have o1:oth nm p.1=true:=(by unfold oth;simpa using ne);have mp:=NQ hj;rw[Nu]at t2 t3;have u1:=t2 p mp;have u2:=t3 p mp;rw[o1,Of]at u1 u2;exact⟨by simpa using u1,by simpa using u2⟩
       ·have:sz kf rf i≠8:=(by simpa using y);unfold sz at this s8;split
        ·rename_i w1;rw[if_pos w1]at this s8;omega
        ·rename_i w1;rw[if_neg w1]at this s8;omega
      have dv:=λj=>cQ (i:=j) (show(0:Int)<b by omega) (show b<10^200 by
       have:(10:Int)^200>1000000000:=by decide +kernel
       omega)
      obtain⟨kf',rf',e,fo,lk⟩:=Cm P;have wp:ao bC 3 3 [.tup [.tup kf,.tup rf],.int i,.tup [.tup [.str q,num (lo/b) (up/b)],.tup [.str r,num 0 (b-1)]]]=.ok (frm kf' rf'):=by
       rw[<-e];exact gL kf rf _ i (by simp;omega)
      have eg:ao aB 2 6 [sP nm b q r,.tup [.tup kf,.tup rf]]=.ok (frm kf' rf'):=by
       rw[bB];unfold aB;simp! only[gw,kq,G5,FY,p1,p3,hs,md,w,bb,PF,Qm,m1,m2,nv,fq,ik,iff,sl,ge,y,ec,dv,uK,B1,wp]
      rw[eg];exact .ok _ _ _ (Ck P fo lk)
end
theorem sk{P:Nat->D->Prop}{ws:au}:∀(fs:List D)(o:Nat),(∀(j:Nat)(f:D),fs[j]?=some f->∃k,f=fld (ws.getD (o+j) "",k)/\P (o+j) k)->∃ps:cf,fs=ps.map fld/\∀(j:Nat)(p:Str×D),ps[j]?=some p->p.1=ws.getD (o+j) ""/\P (o+j) p.2
 |[],_,_=>⟨[],rfl,λ_ _ h=>nomatch h⟩
 |f::fs,o,h=>by
  obtain⟨k,e,q⟩:=h 0 f rfl;obtain⟨ps,rfl,q2⟩:=sk fs (o+1) λj f' hf=>by
   obtain⟨k',e',q'⟩:=h (j+1) f' (by rw[OI];exact hf);rw[show o+(j+1)=o+1+j by omega]at e' q';exact⟨k',e',q'⟩
  refine⟨(ws.getD o "",k)::ps,by rw[e];rfl,λj p hp=>?_⟩;cases j with
  |zero=>cases hp;exact⟨rfl,q⟩
  |succ j=>
   rw[OI]at hp;rw[show o+(j+1)=o+1+j by omega];exact q2 j p hp
theorem GK{ws:au}(hw:ws.length=20):∀j:Nat,j<20->ak (.lst (ws.map .str)) (.int (j:Int))=some (.str (ws.getD j "")):=λj hj=>by
 rw[lQ,j5,NM,Od ‹0›,Ph,Od ‹0›];rfl
structure Fi(ws:au)(m n:Nat)(ps:cf):Prop where
 len:ps.length=n
 at':∀(j:Nat)(p:Str×D),ps[j]?=some p->p.1=ws.getD j ""/\(j<m->rW p.2)/\Kw p.2
section
variable{ns:List Int}{ws:au}{m r:Nat}{ps:cf}
theorem Fi.fo(hw:ws.length=20)(hn:ws.Nodup)(m1:1<=m)(m8:m<=8)(r8:r<=8)(F:Fi ws m (m+r) ps):Fo ((ps.take m).map fld) ((ps.drop m).map fld) ps:=by
 have pl:=F.len;have nm:ps.map (·.1)=ws.take (m+r):=by
  apply P0;intro j;rw[NM];by_cases hj:j<m+r
  ·rw[NN hj,Od ‹0›,Od ‹0›]
   have:=(F.at' j ps[j] (Od ‹0›)).1
   rw[Ph,Od ‹0›]at this;show some ps[j].1=_;rw[this];rfl
  ·rw[Pp ‹0›,Pp (by rw[NE];omega)];rfl
 have lk:((ps.take m).map fld).length=m:=by rw[Nx,NE];omega
 refine⟨by rw[lk];exact m1,by rw[lk];exact m8,by rw[Nx,NT];omega,?_,?_,λj p hp=>?_⟩
 ·rw[<-Oq,P9]
 ·rw[nm];exact hn.sublist (NP _ _)
 ·rw[lk];exact(F.at' j p hp).2
end
theorem EY(c x y:Int)(hx:0<x)(hy:0<y):∃z:Int,0<z/\ak (.lst [.int x,.int y]) (.int (c%2))=some (.int z):=by
 rcases(show c%2=0\/c%2=1 by omega)with z|z<;>rw[z]
 ·exact⟨x,hx,rfl⟩
 ·exact⟨y,hy,rfl⟩
noncomputable def J1:Int:=10^30
noncomputable def Lh:Int:=10^20
theorem IR:0<J1/\0<Lh:=by decide +kernel
theorem DT(ns:List Int)(ws:au)(hw:ws.length=20)(hn:ws.Nodup):∃(kf rf:List D)(ps:cf),Fo kf rf ps/\ao eG 2 9 [.lst (ns.map .int),.lst (ws.map .str)]=.ok (frm kf rf):=by
 obtain⟨c1,e1⟩:=TD.Jz ns 1 (by decide);obtain⟨c2,e2⟩:=TD.Jz ns 2 (by decide);have p:=IR;have g2:=λi=>bf (i:=i) (show(0:Int)<2 by decide);have g3:=λi=>bf (i:=i) (show(0:Int)<3 by decide);have g4:=λi=>bf (i:=i) (show(0:Int)<4 by decide);have dv:=λ(k:Int)(h:0<k)(h':k<10^200)(i:Int)=>cQ (i:=i) h h';have d3:=dv 3 (by decide) (by decide);have d6:=dv 6 (by decide) (by decide);have d7:=dv 7 (by decide) (by decide);have d36:=dv 36 (by decide) (by decide);have d72:=dv 72 (by decide) (by decide);have w30:kG (.int 10) (.int 30)=some (.int J1):=rE 10 30 (by decide) (by decide);have w20:kG (.int 10) (.int 20)=some (.int Lh):=rE 10 20 (by decide) (by decide);have l2:∀a b:D,jY [a,b]=some (.lst [a,b]):=λ_ _=>nr rfl;have ml:=λj=>jx (i:=3600) (j:=j) (by decide) (by decide);obtain⟨m,hm⟩:=PY (show 0<=1+c1%3 by omega);obtain⟨r,hr⟩:=PY (show 0<=c1/3%4 by omega);have rn:gu [.int ((m:Int)+(r:Int))]=some (bJ 0 (m+r)):=cV (m+r) ‹0›;have nat:=GK hw;rw[bB];unfold eG;simp! only[e1,g3,hm,EQ,d3,g4,hr,rn];refine fm (Q:=λz=>∃(kf rf:List D)(ps:cf),Fo kf rf ps/\z=.ok (frm kf rf))
  (λj ρ=>∃(fs:List D)(x2:Option S),fs.length=j/\(∀(j:Nat)(f:D),fs[j]?=some f->∃k,f=fld (ws.getD (0+j) "",k)/\(0+j<m->rW k)/\Kw k)/\ρ=[‹.lst (ns.map .int)›,‹.lst (ws.map .str)›,x2,‹.int m›,some (.own (.lst fs)),none,none,none,none]) ?_ ?_ ?_
 ·rintro j d ρ k' hd ⟨fs,x2,u1,u2,rfl⟩;have hj:=ax hd;rw[aP]at hj;have hdi:d=.int (j:Int):=by
   rw[eE,NM,Ox hj]at hd;cases hd;simp
  subst hdi;obtain⟨z,hz,ez⟩:=dg c2 (j:Int) ‹0› ‹0›;obtain⟨k,k1,k2,ek⟩:=B7 z (decide ((m:Int)<=(j:Int)));have app:∀k,(j<m->rW k)->Kw k->∀(j':Nat)(f:D),(fs++[fld (ws.getD j "",k)])[j']?=some f->∃k,f=fld (ws.getD (0+j') "",k)/\(0+j'<m->rW k)/\Kw k:=λk a1 a2 j' f hf=>by
   rcases Pn j' fs.length with q|q
   ·rw[NK q]at hf;exact u2 j' f hf
   ·rw[NF q]at hf
    have:j'=j:=by
     have:=ax hf
     simp at this;omega
    subst this;rw[show j'-fs.length=0 by omega]at hf;cases hf;exact⟨k,by rw[OO],λhj'=>a1 ‹0›,a2⟩
  obtain⟨s,hs,hk⟩:=A3 (.inr k2);have ap:=λy=>jG (xs:=fs) (y:=y) ‹0›;cases b1:(s==("number":Str))with
  |false=>
   refine⟨[‹.lst (ns.map .int)›,‹.lst (ws.map .str)›,x2,‹.int m›,some (.own (.lst fs)),‹.int (j:Int)›,none,none,none],_,rfl,⟨fs++[fld (ws.getD j "",k)],x2,by simp;omega,app k (λh=>ot.w (k1 (by simp;omega))) (.inr k2),rfl⟩,?_⟩;simp! only[e2,ez,ek,hs,b1];rw[gF _ _ _ _ _ (xs:=fs) rfl];simp! only[nat j ‹0›,uK,ap]
  |true=>
   obtain⟨y1,hy1,ey1⟩:=EY (z/36) 5 J1 (by decide) p.1;obtain⟨y2,hy2,ey2⟩:=EY (z/72) 4 Lh (by decide) p.2;have gy1:=λi=>bf (i:=i) hy1;have gy2:=λi=>bf (i:=i) hy2;have a3:=PJ (z/7) (show y2≠0 by omega);generalize hlo:3600*(z/6%y1-3)=lo;generalize hup:lo+3600*(1+z/7%y2)-1=up;have fl:rW (num lo up):=.inl ⟨lo,up,by omega,rfl⟩;refine⟨[‹.lst (ns.map .int)›,‹.lst (ws.map .str)›,x2,‹.int m›,some (.own (.lst fs)),‹.int (j:Int)›,none,none,none],_,rfl,⟨fs++[fld (ws.getD j "",num lo up)],x2,by simp;omega,app _ (λ_=>fl) (.inl fl),rfl⟩,?_⟩;simp! only[e2,ez,ek,hs,b1,d6,d36,g2,w30,l2,ey1,gy1,ml,hlo,d7,d72,w20,ey2,gy2,hup,B1];rw[gF _ _ _ _ _ (xs:=fs) rfl];simp! only[nat j ‹0›,uK,ap]
 ·exact⟨[],_,rfl,(λj f h=>by cases h),rfl⟩
 ·rintro ρ' ⟨fs,x2,u1,u2,rfl⟩;rw[aP]at u1;obtain⟨ps,rfl,q⟩:=sk (P:=λj k=>(j<m->rW k)/\Kw k) (ws:=ws) fs 0 u2;rw[Nx]at u1;have F:Fi ws m (m+r) ps:=⟨u1,λj p hp=>by have:=q j p hp;rwa [OO]at this⟩
  refine⟨_,_,ps,F.fo hw hn ‹0› ‹0› ‹0›,?_⟩;simp! only[hW,kK,uK,Px,Pw]
structure F3 where
 kf:List D
 rf:List D
 ps:cf
noncomputable abbrev F3.d(f:F3):D:=frm f.kf f.rf
noncomputable abbrev F3.T(f:F3)(rows:bw):Prop:=Tb f.kf.length f.ps rows
structure Ch(n:Nat)(ss:Nat->D)(fs:Nat->F3):Prop where
 n8:n<=8
 fo:∀k,k<=n->Fo (fs k).kf (fs k).rf (fs k).ps
 st:∀k,k<n->B2 (ss k)
 ln:∀k,k<n->Ln (ss k) (fs k).kf (fs k).rf (fs k).ps (fs (k+1)).kf (fs (k+1)).rf (fs (k+1)).ps
noncomputable abbrev SL(n:Nat)(ss:Nat->D):D:=.lst ((List.range n).map ss)
noncomputable abbrev FL(n:Nat)(fs:Nat->F3):D:=.lst ((List.range (n+1)).map λk=>(fs k).d)
structure GP(n:Nat)(ss:Nat->D)(fs:Nat->F3)(G P:Nat->bw->bw):Prop where
 g:∀k,k<n->∀rows,(fs k).T rows->(fs (k+1)).T (G k rows)/\(G k rows).length=rows.length/\P k (G k rows)=rows/\GT (ss k) [ss k,(fs k).d,tbl rows]=.ok (tbl (G k rows))
 p:∀k,k<n->∀rows,(fs (k+1)).T rows->(fs k).T (P k rows)/\G k (P k rows)=rows/\∀t,IP (ss k) [ss k,(fs k).d,t,tbl rows]=.ok (tbl (P k rows))
theorem Ch.gp{n:Nat}{ss:Nat->D}{fs:Nat->F3}(c:Ch n ss fs):∃G P,GP n ss fs G P:=by
 classical
 have h:=λk (hk:k<n)=>(c.ln k hk).2;refine⟨λk=>if hk:k<n then(h k hk).choose else id,λk=>if hk:k<n then(h k hk).choose_spec.choose else id,⟨λk hk=>?_,λk hk=>?_⟩⟩
 ·simp only[dif_pos hk];exact(h k hk).choose_spec.choose_spec.1
 ·simp only[dif_pos hk];exact(h k hk).choose_spec.choose_spec.2
noncomputable def up(G:Nat->bw->bw):Nat->bw->bw
 |0,x=>x
 |k+1,x=>G k (up G k x)
section
variable{n:Nat}{ss:Nat->D}{fs:Nat->F3}{G P:Nat->bw->bw}
theorem Et(j:Nat)(hj:j<n):ak (SL n ss) (.int (j:Int))=some (ss j):=by rw[lQ,j5,NM,Ox hj];rfl
theorem Fl(j:Nat)(hj:j<=n):ak (FL n fs) (.int (j:Int))=some (fs j).d:=by rw[lQ,j5,NM,Ox ‹0›];rfl
theorem zD:cO [SL n ss]=some (.int (n:Int)):=by
 have:cO [SL n ss]=some (.int (((List.range n).map ss).length:Int)):=rfl
 rw[this,Nx,Ou]
theorem GP.up(gp:GP n ss fs G P){rows:bw}(t:(fs 0).T rows):∀j,j<=n->(fs j).T (up G j rows)
 |0,_=>t
 |j+1,h=>(gp.g j ‹0› _ (GP.up gp t j ‹0›)).1
theorem n6(c:Ch n ss fs)(gp:GP n ss fs G P){rows:bw}(t:(fs 0).T rows):ao b8 3 5 [SL n ss,FL n fs,tbl rows]=.ok (tbl (up G n rows)):=by
 have n8:=c.n8;have rn:=cV n ‹0›;have ls:=zD (n:=n) (ss:=ss);have a1:=Et (n:=n) (ss:=ss);have a2:=Fl (n:=n) (fs:=fs);have tl:∀rs:bw,cO [tbl rs]=some (.int (rs.length:Int)):=λrs=>by
  have:cO [tbl rs]=some (.int ((rs.map D.tup).length:Int)):=rfl
  rw[this,Nx]
 rw[fK];unfold b8;generalize SL n ss=sl at *;generalize FL n fs=fl at *;simp! only[ls,rn];refine fm (Q:=λz=>z=.ok (tbl (up G n rows))) (λj ρ=>ρ=[‹sl›,‹fl›,‹tbl (up G j rows)›,none,none]) ?_ rfl ?_
 ·rintro j d ρ k' hd rfl;have hj:=ax hd;rw[aP]at hj;have hdi:d=.int (j:Int):=by
   rw[eE,NM,Ox hj]at hd;cases hd;simp
  subst hdi;obtain⟨q1,q2,q3,q4⟩:=gp.g j hj _ (gp.up t j ‹0›);have kp:=tq (c.fo (j+1) ‹0›) q1;have m1:=λfo fas ρ h=>meth (c.st j hj) "got" (ao bg 3 3) (ao cu 3 4) (ao cq 3 8) (ao bg 3 3) fo fas ρ h (by decide +kernel);have cj:((j:Int)+1)=((j+1:Nat):Int):=by omega
  have b2:=a2 (j+1) ‹0›;refine⟨[‹sl›,‹fl›,‹tbl (up G j rows)›,‹.int (j:Int)›,none],_,rfl,rfl,?_⟩;have gm:cY "got" [("Step",(ao bg 3 3)),("Part",(ao cu 3 4)),("Fuse",(ao cq 3 8)),("Rename",(ao bg 3 3))] (f2 ak (af 0) (af 3)) (aa (f2 ak (af 1) (af 3)) (aa (af 2) ah)) [‹sl›,‹fl›,‹tbl (up G j rows)›,‹.int (j:Int)›,‹.int ((up G j rows).length:Int)›]=.ok (tbl (G j (up G j rows))):=by
   rw[m1 _ _ _ (by simp! only[a1 j hj])];simp! only[a2 j ‹0›,q4]
  show _=k'.nx [‹sl›,‹fl›,‹tbl (G j (up G j rows))›,none,none];have q2':((G j (up G j rows)).length:Int)=((up G j rows).length:Int):=by rw[q2]
  generalize G j (up G j rows)=gr' at *;generalize up G j rows=ur at *;simp! only[tl,gm,cj,b2,kp,q2',BEq.rfl]
 ·rintro ρ rfl;rw[aP];simp! only[]
end
noncomputable def dn(P:Nat->bw->bw)(n:Nat):Nat->bw->bw
 |0,v=>v
 |j+1,v=>P (n-1-j) (dn P n j v)
theorem yQ:∀{xs:List D},(∀x∈xs,lf x=true)->yz xs=true
 |[],_=>rfl
 |x::xs,h=>by
  show(lf x&&yz xs)=true;rw[h x Nh,yQ λy hy=>h y (Ni _ hy)];rfl
theorem fh{xs:List D}(h:∀x∈xs,lf x=true):lf (.tup xs)=true:=by
 show yz xs=true;exact yQ h
theorem A8{k v:D}(h:iK k v):lf v=true:=by
 rcases h with⟨_,_,i,_,_,_,rfl⟩|⟨_,w,_,_,rfl⟩<;>rfl
theorem DY{k v:D}(h:dI 1 k v):lf v=true:=by
 rcases h with h|⟨kf,rf,b,ps,rows,rfl,e,l,rfl,rl,hf,_⟩
 ·exact A8 h
 ·refine fh λx hx=>?_;obtain⟨r,hr,rfl⟩:=List.mem_map.mp hx;refine fh λy hy=>?_;obtain⟨a,_,q⟩:=(hf r hr).mem hy;exact A8 q
theorem Gf{m:Nat}{ps:cf}{rows:bw}(t:Tb m ps rows):lf (tbl rows)=true:=by
 refine fh λx hx=>?_;obtain⟨r,hr,rfl⟩:=List.mem_map.mp hx;refine fh λy hy=>?_;obtain⟨a,_,q⟩:=(t.f r hr).mem hy;exact DY q
section
variable{n:Nat}{ss:Nat->D}{fs:Nat->F3}{G P:Nat->bw->bw}
theorem GP.dn(gp:GP n ss fs G P){v:bw}(t:(fs n).T v):∀j,j<=n->(fs (n-j)).T (dn P n j v)
 |0,_=>t
 |j+1,h=>by
  have:=GP.dn gp t j ‹0›
  rw[show n-j=n-1-j+1 by omega]at this;have q:=(gp.p (n-1-j) ‹0› _ this).1;rw[show n-(j+1)=n-1-j by omega];exact q
theorem zy(gp:GP n ss fs G P){v:bw}(t:(fs n).T v):∀k,k<=n->up G k (dn P n n v)=dn P n (n-k) v
 |0,_=>rfl
 |k+1,h=>by
  have ih:=zy gp t k ‹0›;show G k (up G k (dn P n n v))=_;rw[ih];obtain⟨j,hj⟩:∃j,n-k=j+1:=⟨n-k-1,by omega⟩
  rw[hj,show n-(k+1)=j by omega];show G k (P (n-1-j) (dn P n j v))=_;rw[show n-1-j=k by omega];have tt:=gp.dn t j ‹0›;rw[show n-j=k+1 by omega]at tt;exact(gp.p k ‹0› _ tt).2.1
theorem EV(gp:GP n ss fs G P){rows:bw}(t:(fs 0).T rows):∀j,j<=n->dn P n j (up G n rows)=up G (n-j) rows
 |0,_=>rfl
 |j+1,h=>by
  show P (n-1-j) (dn P n j (up G n rows))=_;rw[EV gp t j ‹0›];obtain⟨k,hk⟩:∃k,n-j=k+1:=⟨n-j-1,by omega⟩
  rw[hk,show n-1-j=k by omega,show n-(j+1)=k by omega];exact(gp.g k ‹0› _ (gp.up t k ‹0›)).2.2.1
theorem Bj(hi:Int)(n j:Nat)(h:j<n):(kz hi n)[j]?=some (.int (hi-(j:Int))):=by
 unfold kz;rw[NM,Ox h];rfl
theorem zM(n:Nat)(h:n<=1000):Bp [.int (n:Int)]=some (kz ((n:Int)-1) n):=by
 have e:Bp [.int (n:Int)]=if okR (n:Int)then some (kz (((n:Int).toNat:Int)-1) (n:Int).toNat)else none:=rfl
 have o:okR (n:Int)=true:=by unfold okR;exact decide_eq_true ⟨by omega,by omega⟩
 rw[e,o,if_pos rfl,NS]
theorem vq(f:aW)(ρ:av):kr f ρ=(f ρ).bind λds=>rO (Bp ds):=rfl
theorem kc(c:Ch n ss fs)(gp:GP n ss fs G P){rows v:bw}(t:(fs 0).T rows)(tv:(fs n).T v):ao bG 4 6 [SL n ss,FL n fs,tbl rows,tbl v]=.ok (tbl (dn P n n v)):=by
 have n8:=c.n8;have rn:=cV n ‹0›;have rv:=zM n ‹0›;have ls:=zD (n:=n) (ss:=ss);have a1:=Et (n:=n) (ss:=ss);have a2:=Fl (n:=n) (fs:=fs);have JK:∀a:D,jY [a]=some (.lst [a]):=λ_=>nr rfl;have pk4:∀(f:FX)(ρ:av),jC [4] f ρ=(uy (f (frz 4 ρ))).bind λd=>if lf d then .ok d else un:=λ_ _=>rfl
 rw[nz];unfold bG;generalize SL n ss=sl at *;generalize FL n fs=fl at *;simp! only[JK,ls,rn];refine fm (Q:=λz=>z=.ok (tbl (dn P n n v))) (λj ρ=>ρ=[‹sl›,‹fl›,none,‹tbl v›,some (.own (.lst ((List.range (j+1)).map λk=>tbl (up G k rows)))),none]) ?_ rfl ?_
 ·rintro j d ρ k' hd rfl;have hj:=ax hd;rw[aP]at hj;have hdi:d=.int (j:Int):=by
   rw[eE,NM,Ox hj]at hd;cases hd;simp
  subst hdi;obtain⟨q1,q2,q3,q4⟩:=gp.g j hj _ (gp.up t j ‹0›);have m1:=λfo fas ρ h=>meth (c.st j hj) "got" (ao bg 3 3) (ao cu 3 4) (ao cq 3 8) (ao bg 3 3) fo fas ρ h (by decide +kernel);have lfq:=Gf q1;obtain⟨ts,hts⟩:∃ts:List D,ts=(List.range (j+1)).map λk=>tbl (up G k rows):=⟨_,rfl⟩
  have ti:ak (.lst ts) (.int (j:Int))=some (tbl (up G j rows)):=by rw[hts,lQ,j5,NM,Ox ‹0›];rfl
  have tsl:ts.length=j+1:=by rw[hts,Nx,Ou]
  rw[<-hts];have gm:cY "got" [("Step",(ao bg 3 3)),("Part",(ao cu 3 4)),("Fuse",(ao cq 3 8)),("Rename",(ao bg 3 3))] (f2 ak (af 0) (af 5)) (aa (f2 ak (af 1) (af 5)) (aa (f2 ak (af 4) (af 5)) ah)) [‹sl›,‹fl›,none,‹tbl v›,‹.lst ts›,‹.int (j:Int)›]=.ok (tbl (G j (up G j rows))):=by
   rw[m1 _ _ _ (by simp! only[a1 j hj])];simp! only[a2 j ‹0›,ti,q4]
  refine⟨[‹sl›,‹fl›,none,‹tbl v›,some (.own (.lst ts)),‹.int (j:Int)›],[‹sl›,‹fl›,none,‹tbl v›,some (.own (.lst (ts++[tbl (G j (up G j rows))]))),none],rfl,?_,?_⟩
  ·rw[hts,Oo (n:=j+1),Oq];rfl
  ·rw[dP,gF _ _ _ _ _ (xs:=ts) rfl];generalize G j (up G j rows)=gr' at *;simp! only[pk4,gm,lfq,jG (xs:=ts) ‹0›]
 ·rintro ρ rfl;rw[aP];obtain⟨ts,hts⟩:∃ts:List D,ts=(List.range (n+1)).map λk=>tbl (up G k rows):=⟨_,rfl⟩
  have ti:∀j,j<=n->ak (.lst ts) (.int (j:Int))=some (tbl (up G j rows)):=λj hj=>by rw[hts,lQ,j5,NM,Ox ‹0›];rfl
  rw[<-hts];simp! only[ls,vq,rv];refine fm (Q:=λz=>z=.ok (tbl (dn P n n v))) (λj ρ=>ρ=[‹sl›,‹fl›,none,‹tbl (dn P n j v)›,‹.lst ts›,none]) ?_ rfl ?_
  ·rintro j d ρ k' hd rfl;have hj:=ax hd;rw[lN]at hj;rw[Bj _ _ _ hj]at hd;cases hd;have cj:((n:Int)-1-(j:Int))=((n-1-j:Nat):Int):=(by omega);have tj:=gp.dn tv j ‹0›;rw[show n-j=n-1-j+1 by omega]at tj;obtain⟨q1,q2,q3⟩:=gp.p (n-1-j) ‹0› _ tj;have kp:=tq (c.fo (n-1-j) ‹0›) q1;have m1:=λfo fas ρ h=>meth (c.st (n-1-j) ‹0›) "put" (ao bK 4 4) (ao dj 4 5) (ao dh 4 10) (ao bK 4 4) fo fas ρ h (by decide +kernel);have b1:=a1 (n-1-j) ‹0›;have b2:=a2 (n-1-j) ‹0›;have b3:=ti (n-1-j) ‹0›;have pm:cY "put" [("Step",(ao bK 4 4)),("Part",(ao dj 4 5)),("Fuse",(ao dh 4 10)),("Rename",(ao bK 4 4))] (f2 ak (af 0) (af 5)) (aa (f2 ak (af 1) (af 5)) (aa (f2 ak (af 4) (af 5)) (aa (af 3) ah))) [‹sl›,‹fl›,none,‹tbl (dn P n j v)›,‹.lst ts›,‹.int ((n-1-j:Nat):Int)›]=.ok (tbl (P (n-1-j) (dn P n j v))):=by
    rw[m1 _ _ _ (by simp! only[b1])];simp! only[b2,b3,q3]
   refine⟨[‹sl›,‹fl›,none,‹tbl (dn P n j v)›,‹.lst ts›,‹.int ((n:Int)-1-(j:Int))›],_,rfl,rfl,?_⟩;rw[cj];show _=k'.nx [‹sl›,‹fl›,none,‹tbl (P (n-1-j) (dn P n j v))›,‹.lst ts›,none];generalize P (n-1-j) (dn P n j v)=pv at *;simp! only[pm,b2,kp]
  ·rintro ρ rfl;rw[lN];simp! only[]
end
theorem MC(fas:aW)(ρ:av):fNew "Rename" ["old","new"] fas ρ=(fas ρ).bind λas=>if as.length=2 then .ok (.obj "Rename" ["old","new"] as)else un:=rfl
theorem Ms(fas:aW)(ρ:av):fNew "Part" ["name","by","quotient","rest"] fas ρ=(fas ρ).bind λas=>if as.length=4 then .ok (.obj "Part" ["name","by","quotient","rest"] as)else un:=rfl
theorem LW(fas:aW)(ρ:av):fNew "Fuse" ["quotient","rest","by","name"] fas ρ=(fas ρ).bind λas=>if as.length=4 then .ok (.obj "Fuse" ["quotient","rest","by","name"] as)else un:=rfl
theorem Mo(c:Int):∃b:Int,2<=b/\b<=1000000000/\ak (.lst [.int 2,.int 3,.int 4,.int 5,.int 6,.int 10,.int 12,.int 15,.int 60]) (.int (c%9))=some (.int b):=by
 rcases(show c%9=0\/c%9=1\/c%9=2\/c%9=3\/c%9=4\/c%9=5\/c%9=6\/c%9=7\/c%9=8 by omega)with z|z|z|z|z|z|z|z|z<;>rw[z]<;>exact⟨_,by decide,by decide,rfl⟩
section
variable{kf rf:List D}{ps:cf}
theorem zo(h:Fo kf rf ps)(G:aW)(ρ:av)(hG:G ρ=.ok (ps.map fld)):eQ [none] G (gN 0) bo (f2 ak (af 0) (fC (.int 0))) ρ=.ok (.lst (ps.map λp=>.str p.1)):=by
 have hl:=h.hl;refine bX hG (by rw[Nx];omega) ?_;refine dX fld _ ps λp _=>⟨[‹fld p›],rfl,rfl,?_⟩
 simp! only[]
theorem yq(h:Fo kf rf ps)(G:aW)(ρ:av)(hG:G ρ=.ok (ps.map fld)):eQ [none] G (gN 0) bo (f2 ak (af 0) (fC (.int 1))) ρ=.ok (.lst (ps.map (·.2))):=by
 have hl:=h.hl;refine bX hG (by rw[Nx];omega) ?_;refine dX fld _ ps λp _=>⟨[‹fld p›],rfl,rfl,?_⟩
 simp! only[]
theorem CT(h:Fo kf rf ps){ws:au}(hw:ws.length=20)(c:Int)(FV:∀(i j:Nat)(q r:Str)(k k':D)(b:Int)(n:Str),ps[i]?=some (q,k)->ps[j]?=some (r,k')->Vw (sF q r b n) kf rf ps (VW (sF q r b n) [sF q r b n,frm kf rf])):
  ∃s,B2 s/\Vw s kf rf ps (VW s [s,frm kf rf])/\ao eD 3 9 [.int c,frm kf rf,.lst (ws.map .str)]=.ok s:=by
 have hl:=h.hl;have len:=h.len;have k1:=h.k1;have g3:=λi=>bf (i:=i) (show(0:Int)<3 by decide);have g9:=λi=>bf (i:=i) (show(0:Int)<9 by decide);have g20:=λi=>bf (i:=i) (show(0:Int)<20 by decide);obtain⟨x1,_,ex1⟩:=dg c 1 (by decide) (by decide);obtain⟨x2,_,ex2⟩:=dg c 2 (by decide) (by decide);obtain⟨x3,_,ex3⟩:=dg c 3 (by decide) (by decide);obtain⟨x4,_,ex4⟩:=dg c 4 (by decide) (by decide);obtain⟨x5,_,ex5⟩:=dg c 5 (by decide) (by decide);have ad:=cI kf rf ‹0›;rw[h.e]at ad;have nl:=zo h (bO (f2 aI (f2 ak (af 1) (fC (.int 0))) (f2 ak (af 1) (fC (.int 1))))) [‹.int c›,‹frm kf rf›,‹.lst (ws.map .str)›,none,none,none,none,none,none] (by simp! only[ad]);have kl:=yq h (bO (f2 aI (f2 ak (af 1) (fC (.int 0))) (f2 ak (af 1) (fC (.int 1))))) [‹.int c›,‹frm kf rf›,‹.lst (ws.map .str)›,‹.lst (ps.map λp=>.str p.1)›,none,none,none,none,none] (by simp! only[ad]);have pl:((ps.map λp:Str×D=>D.str p.1).length:Int)=(ps.length:Int):=by rw[Nx]
 have pp:(0:Int)<(ps.length:Int):=by omega
 have gp:=λi=>bf (i:=i) pp;have nm:∀y:Int,∃w:Str,ak (.lst (ws.map .str)) (.int (y%20))=some (.str w):=λy=>by
  obtain⟨u,hu⟩:=PY (show 0<=y%20 by omega);rw[hu,lQ,j5,NM,Od ‹0›];exact⟨_,rfl⟩
 obtain⟨w3,ew3⟩:=nm x3;obtain⟨w5,ew5⟩:=nm x5;have at':∀y:Int,∃(i:Nat)(p:Str×D),y%(ps.length:Int)=(i:Int)/\ps[i]?=some p:=λy=>by
  have b1:=PJ y (show(ps.length:Int)≠0 by omega);have b2:=PN y pp;obtain⟨u,hu⟩:=PY b1;exact⟨u,_,hu,Od ‹0›⟩
 obtain⟨i,p,hi,ip⟩:=at' x1;obtain⟨j,p',hj,jp⟩:=at' x2;have ni:ak (.lst (ps.map λp=>.str p.1)) (.int (i:Int))=some (.str p.1):=by rw[lQ,j5,NM,ip];rfl
 have nj:ak (.lst (ps.map λp=>.str p.1)) (.int (j:Int))=some (.str p'.1):=by rw[lQ,j5,NM,jp];rfl
 have kj:ak (.lst (ps.map (·.2))) (.int (j:Int))=some p'.2:=by rw[lQ,j5,NM,jp];rfl
 have ml9:jY [.int 2,.int 3,.int 4,.int 5,.int 6,.int 10,.int 12,.int 15,.int 60]=some (.lst [.int 2,.int 3,.int 4,.int 5,.int 6,.int 10,.int 12,.int 15,.int 60]):=rfl;obtain⟨b,b1,b2,eb⟩:=Mo x4;obtain⟨s,hs,hk⟩:=A3 (h.fl j p' jp).2;rw[fK];unfold eD;have e01:(c%3==0)=true->(c%3==1)=false:=λz=>by have:=beq_iff_eq.mp z;rw[this];rfl
 cases z0:(c%3==0)with
 |true=>
  refine⟨sR p.1 w3,.r _ _,Hq h (k:=p.2) ip w3,?_⟩;simp! only[nl,kl,ex1,ex2,ex3,pl,gp,hi,hj,g20,ew3,g3,z0,ni,MC]
 |false=>
  cases z1:(c%3==1)with
  |true=>
   refine⟨sP p.1 b w3 w5,.p _ _ _ _,DF h p.1 w3 w5 b1 b2 (k:=p.2) ip,?_⟩;simp! only[nl,kl,ex1,ex2,ex3,ex4,ex5,pl,gp,hi,hj,g20,ew3,ew5,g3,z0,z1,ni,ml9,g9,eb,Ms]
  |false=>
   cases w:(s==("number":Str))with
   |false=>
    refine⟨sF p.1 p'.1 2 w3,.f _ _ _ _,FV i j _ _ p.2 p'.2 2 w3 ip jp,?_⟩;simp! only[nl,kl,ex1,ex2,ex3,pl,gp,hi,hj,g20,ew3,g3,z0,z1,ni,nj,kj,hs,w,LW]
   |true=>
    obtain⟨lo,up,_,ek⟩:=hk w;have k2:ak p'.2 (.int 2)=some (.int up):=(by rw[ek];rfl);refine⟨sF p.1 p'.1 (up+1) w3,.f _ _ _ _,FV i j _ _ p.2 p'.2 (up+1) w3 ip jp,?_⟩;simp! only[nl,kl,ex1,ex2,ex3,pl,gp,hi,hj,g20,ew3,g3,z0,z1,ni,nj,kj,hs,w,k2,LW]
end
noncomputable def fu(i j:Nat)(b:Int)(r:List D):List D:=(r.set i (.int (iv r i*b+iv r j))).eraseIdx j
noncomputable def wd(j:Nat)(r:List D):List D:=r.take j++.int 0::r.drop j
noncomputable def bk(i j:Nat)(b:Int)(r:List D):List D:=((wd j r).set i (.int (iv (wd j r) i/b))).set j (.int (iv (wd j r) i%b))
theorem vx{j:Nat}{r:List D}(h:j<=r.length):(wd j r).length=r.length+1:=by
 unfold wd;rw[NR,NE,Nv,NT];omega
theorem jI{j:Nat}{r:List D}(h:j<=r.length)(k:Nat):(wd j r)[k]?=if k<j then r[k]? else if k=j then some (.int 0)else r[k-1]?:=by
 have l:(r.take j).length=j:=by rw[NE];omega
 unfold wd;by_cases h1:k<j
 ·rw[if_pos h1,NK ‹0›,NN h1]
 ·rw[if_neg h1,NF ‹0›,l];by_cases h2:k=j
  ·subst h2;rw[if_pos rfl,OV];rfl
  ·rw[if_neg h2,show k-j=(k-j-1)+1 by omega,OI,Ot,show j+(k-j-1)=k-1 by omega]
theorem get_set{xs:List D}{i k:Nat}{a:D}(h:i<xs.length):(xs.set i a)[k]?=if i=k then some a else xs[k]?:=by
 rw[Qn];by_cases z:i=k
 ·subst z;rw[if_pos rfl,if_pos rfl,if_pos h]
 ·rw[if_neg z,if_neg z]
section
variable{i j m:Nat}{b:Int}{r:List D}{x y:Int}
theorem rJ(hij:i≠j)(hx:r[i]?=some (.int x))(hy:r[j]?=some (.int y))(h0:0<=y)(h1:y<b):bk i j b (fu i j b r)=r:=by
 have il:=ax hx;have jl:=ax hy;have fl:(fu i j b r).length=r.length-1:=by unfold fu;rw[Qo,Oy,if_pos jl]
 have w:wd j (fu i j b r)=(r.set i (.int (x*b+y))).set j (.int 0):=by
  apply P0;intro k;rw[jI ‹0›,get_set (by rw[Oy];exact jl),get_set il];unfold fu;rw[cX hx,cX hy];rw[Qp,Qp,get_set il,get_set il,get_set il];by_cases h1:k<j
  ·rw[if_pos h1,if_pos h1,if_neg (show¬j=k by omega)]
  ·rw[if_neg h1];by_cases h2:k=j
   ·rw[if_pos h2,if_pos h2.symm]
   ·rw[if_neg h2,if_neg (show¬k-1<j by omega),if_neg (Ne.symm h2),show k-1+1=k by omega,get_set il]
 have e:iv (wd j (fu i j b r)) i=x*b+y:=by
  refine cX ?_;rw[w,get_set (by rw[Oy];exact jl),if_neg (Ne.symm hij),get_set il,if_pos rfl]
 have d1:(x*b+y)/b=x:=by
  rw[Qd,Qe _ _ ‹0›,Qf h0 h1,PK]
 have d2:(x*b+y)%b=y:=by
  rw[Qd,Qg,Qh h0 h1]
 unfold bk;rw[e,d1,d2,w];apply P0;intro k;rw[get_set (by rw[Oy,Oy,Oy];exact jl),get_set (by rw[Oy,Oy];exact il),get_set (by rw[Oy];exact jl),get_set il];by_cases h1:j=k
 ·subst h1;rw[if_pos rfl,hy]
 ·rw[if_neg h1];by_cases h2:i=k
  ·subst h2;rw[if_pos rfl,hx]
  ·rw[if_neg h2,if_neg h1,if_neg h2]
theorem qA(hij:i≠j)(hj:j<=r.length)(hn:(wd j r)[i]?=some (.int x))(hb:0<b):fu i j b (bk i j b r)=r:=by
 have wl:=vx hj;have il:=ax hn;have e:=cX hn;have bi:(bk i j b r)[i]?=some (.int (x/b)):=by
  unfold bk;rw[get_set (by rw[Oy];omega),if_neg (Ne.symm hij),get_set il,if_pos rfl,e]
 have bj:(bk i j b r)[j]?=some (.int (x%b)):=by
  unfold bk;rw[get_set (by rw[Oy];omega),if_pos rfl,e]
 have d:x/b*b+x%b=x:=by
  have:=P7 x b
  rw[Qc];exact this
 have bl:(bk i j b r).length=r.length+1:=by unfold bk;rw[Oy,Oy,wl]
 unfold fu;rw[cX bi,cX bj,d];apply P0;intro k;have g:∀k,k≠j->((bk i j b r).set i (.int x))[k]?=(wd j r)[k]?:=λk hk=>by
  rw[get_set ‹0›];by_cases h2:i=k
  ·subst h2;rw[if_pos rfl,hn]
  ·rw[if_neg h2];unfold bk;rw[get_set (by rw[Oy];omega),if_neg (Ne.symm hk),get_set il,if_neg h2]
 rw[Qp];by_cases h1:k<j
 ·rw[if_pos h1,g k ‹0›,jI hj,if_pos h1]
 ·rw[if_neg h1,g (k+1) ‹0›,jI hj,if_neg ‹0›,if_neg ‹0›];rfl
theorem BJ(hm:i<m)(hm':j<m)(hx:r[i]?=some (.int x))(hy:r[j]?=some (.int y)):(fu i j b r).take (m-1)=fu i j b (r.take m):=by
 have il:=ax hx;have jl:=ax hy;have hx':(r.take m)[i]?=some (.int x):=by rw[NN hm,hx]
 have hy':(r.take m)[j]?=some (.int y):=by rw[NN hm',hy]
 unfold fu;rw[cX hx,cX hy,cX hx',cX hy'];apply P0;intro k;rw[Qq,Qp,Qp,get_set il,get_set il,get_set (ax hx'),get_set (ax hx'),Qq,Qq];by_cases h0:k<m-1
 ·rw[if_pos h0,if_pos (show k<m by omega),if_pos (show k+1<m by omega)]
 ·rw[if_neg h0,if_neg (show¬k<j by omega),if_neg (show¬i=k+1 by omega),if_neg (show¬k+1<m by omega)]
theorem vX(hm:m<=i)(hm':m<=j):(fu i j b r).take m=r.take m:=by
 apply P0;intro k;unfold fu;rw[Qq,Qq,Qp];by_cases h0:k<m
 ·rw[if_pos h0,if_pos h0,if_pos (show k<j by omega),Nm ‹0›]
 ·rw[if_neg h0,if_neg h0]
theorem qq(hm:j<m)(hj:j<r.length+1):(wd j r).take m=wd j (r.take (m-1)):=by
 apply P0;intro k;rw[Qq,jI ‹0›,jI (by rw[NE];omega),Qq,Qq];by_cases h0:k<m
 ·rw[if_pos h0];by_cases h1:k<j
  ·rw[if_pos h1,if_pos h1,if_pos ‹0›]
  ·rw[if_neg h1,if_neg h1];by_cases h2:k=j
   ·rw[if_pos h2,if_pos h2]
   ·rw[if_neg h2,if_neg h2,if_pos (show k-1<m-1 by omega)]
 ·rw[if_neg h0,if_neg (show¬k<j by omega),if_neg (show¬k=j by omega),if_neg (show¬k-1<m-1 by omega)]
theorem AA(hm:i<m)(hm':j<m)(hj:j<=r.length)(hn:(wd j r)[i]?=some (.int x)):(bk i j b r).take m=bk i j b (r.take (m-1)):=by
 have e:=qq hm' (show j<r.length+1 by omega);have hn':(wd j (r.take (m-1)))[i]?=some (.int x):=by rw[<-e,NN hm,hn]
 unfold bk;rw[cX hn,cX hn',<-e,List.take_set,List.take_set]
theorem wM(hm:m<=i)(hm':m<=j)(hj:j<=r.length):(bk i j b r).take m=r.take m:=by
 unfold bk;apply P0;intro k;rw[Qq,Qq];by_cases h0:k<m
 ·rw[if_pos h0,if_pos h0,Nm ‹0›,Nm ‹0›,jI hj,if_pos ‹0›]
 ·rw[if_neg h0,if_neg h0]
end
theorem wm:∀{a b:bw},a.map D.tup=b.map D.tup->a=b
 |[],[],_=>rfl
 |[],_::_,h=>by cases h
 |_::_,[],h=>by cases h
 |x::xs,y::ys,h=>by
  rw[Nw,Nw]at h;injection h with h1 h2;injection h1 with h1;rw[h1,wm h2]
structure Ib(m:Nat)(rows:bw):Prop where
 ex:∃σ:cy,σ≠[]/\∀r∈rows,Sh σ (r.take m)
 pw:rows.Pairwise λr s=>r.take m≠s.take m
 hl:rows.length<64
theorem Ib.k{m:Nat}{rows:bw}(h:Ib m rows):IG m (rows.map .tup):=by
 obtain⟨σ,h1,h2⟩:=h.ex;refine⟨by rw[Nx];exact h.hl,σ,h1,λx hx=>?_,?_⟩
 ·obtain⟨r,hr,rfl⟩:=List.mem_map.mp hx;exact⟨r,rfl,h2 r hr⟩
 ·rw[Pb];exact h.pw
theorem Ib.one{m:Nat}{rows fs:bw}(h:Ib m rows)(f1:vW m fs)(f2:fs.Perm rows):mh (oQ m) (rows.map .tup)=fs.map .tup:=by
 obtain⟨σ,h1,h2⟩:=h.ex;refine n9 (σ:=σ) (λx hx=>?_) ?_ ?_ (f2.map _)
 ·obtain⟨r,hr,rfl⟩:=List.mem_map.mp hx;exact h2 r hr
 ·rw[Pb];exact h.pw
 ·unfold sZ;rw[Pb];exact f1
theorem Ib.prog{m:Nat}{rows fs:bw}(h:Ib m rows)(f1:vW m fs)(f2:fs.Perm rows):ao cZ 2 2 [.int m,.lst (rows.map .tup)]=.ok (.tup (fs.map .tup)):=by
 have e:lP (.lst (rows.map .tup)) (.int m)=some (.lst (fs.map .tup)):=by
  show(if(0:Int)<=(m:Int)then nX ((m:Int)).toNat (rows.map .tup)else none)=_;rw[if_pos ‹0›,NS];unfold nX;rw[if_pos h.k,h.one f1 f2]
 rw[bB];unfold cZ;simp! only[e]
section
variable{q r n:Str}{b:Int}
theorem si:bZ "quotient" ["Fuse"] (sF q r b n)=some (.str q):=by rfl
theorem t7:bZ "rest" ["Fuse"] (sF q r b n)=some (.str r):=by rfl
theorem wR:bZ "by" ["Fuse"] (sF q r b n)=some (.int b):=by rfl
theorem EF:bZ "name" ["Fuse"] (sF q r b n)=some (.str n):=by rfl
theorem zf(m:Str)(g2:cP)(fo:FX)(fas:aW)(ρ:av)(h:fo ρ=.ok (sF q r b n))(hm:(["quotient","rest","by","name"]:au).contains m=false):cY m [("Fuse",g2)] fo fas ρ=(fas ρ).bind λas=>g2 (sF q r b n::as):=by
 unfold cY;rw[h,eB]
 have:List.lookup ("Fuse":Str) [(("Fuse":Str),g2)]=some g2:=by
  rw[NZ,BEq.rfl]
 simp only[this,hm];rfl
end
noncomputable def qO(q r:Str)(x:Str):Bool:=!(x==q)&&!(x==r)
structure Ok(kf rf:List D)(ps:cf)(i j:Nat)(q r:Str)(lo hi b:Int)(n:Str):Prop where
 h:Fo kf rf ps
 ai:ps[i]?=some (q,num lo hi)
 aj:ps[j]?=some (r,num 0 (b-1))
 ij:i≠j
 half:(i<kf.length/\j<kf.length)\/(kf.length<=i/\kf.length<=j)
 b1:2<=b
 b2:b<=1000000000
 lh:lo<=hi
 el:(ps.any λp=>(p.1==n)&&qO q r p.1)=false
section
variable{kf rf:List D}{ps:cf}{i j:Nat}{q r n:Str}{lo hi b:Int}
theorem Ok.e(h:Ok kf rf ps i j q r lo hi b n):kf++rf=ps.map fld:=h.h.e
theorem Ok.nd(h:Ok kf rf ps i j q r lo hi b n):(ps.map (·.1)).Nodup:=h.h.hn
theorem Ok.l(h:Ok kf rf ps i j q r lo hi b n):ps.length=kf.length+rf.length:=h.h.len.symm
theorem Ok.k1(h:Ok kf rf ps i j q r lo hi b n):1<=kf.length:=h.h.k1
theorem Ok.kl(h:Ok kf rf ps i j q r lo hi b n):kf.length<=8:=h.h.k8
theorem Ok.rl(h:Ok kf rf ps i j q r lo hi b n):rf.length<=8:=h.h.r8
theorem Ok.pl(h:Ok kf rf ps i j q r lo hi b n):ps.length<=16:=by have:=h.l;have:=h.kl;have:=h.rl;omega
theorem Ok.il(h:Ok kf rf ps i j q r lo hi b n):i<kf.length+rf.length:=by have:=ax h.ai;have:=h.l;omega
theorem Ok.jl(h:Ok kf rf ps i j q r lo hi b n):j<kf.length+rf.length:=by have:=ax h.aj;have:=h.l;omega
noncomputable def oo(lo hi b:Int)(n:Str):D:=fld (n,num (lo*b) (hi*b+b-1))
noncomputable def vk(kf:List D)(i j:Nat)(o:D):List D:=if j<kf.length then(kf.set i o).eraseIdx j else kf
noncomputable def vr(kf rf:List D)(i j:Nat)(o:D):List D:=if j<kf.length then rf else(rf.set (i-kf.length) o).eraseIdx (j-kf.length)
theorem Bk(hh:(i<kf.length/\j<kf.length)\/(kf.length<=i/\kf.length<=j))(o:D):vk kf i j o++vr kf rf i j o=((kf++rf).set i o).eraseIdx j:=by
 unfold vk vr;rcases hh with⟨h1,h2⟩|⟨h1,h2⟩
 ·rw[if_pos h2,if_pos h2,P5 _ _ h1,List.eraseIdx_append_of_lt_length (by rw[Oy];exact h2)]
 ·rw[if_neg ‹0›,if_neg ‹0›,P6 _ _ h1,List.eraseIdx_append_of_length_le h2]
theorem ui(hh:(i<kf.length/\j<kf.length)\/(kf.length<=i/\kf.length<=j))(o:D):(vk kf i j o).length=if j<kf.length then kf.length-1 else kf.length:=by
 unfold vk;split
 ·rename_i z;rw[Qo,Oy,if_pos z]
 ·rfl
theorem kM{xs:List D}{i:Nat}(h:i<xs.length)(o:D):xs.take i++[o]++xs.drop (i+1)=xs.set i o:=by
 rw[PZ,if_pos h,OA];rfl
theorem kY(xs:List D)(i:Nat):xs.take i++[]++xs.drop (i+1)=xs.eraseIdx i:=by
 rw[NB,Qr]
theorem yV(h:Ok kf rf ps i j q r lo hi b n)(o:D):∃f,ao bC 3 3 [.tup [.tup kf,.tup rf],.int i,.tup [o]]=.ok f/\ao bC 3 3 [f,.int j,.tup []]=.ok (.tup [.tup (vk kf i j o),.tup (vr kf rf i j o)]):=by
 have kl:=h.kl;have rl:=h.rl;have il:=h.il;have jl:=h.jl;have w1:=gL kf rf [o] i (by simp;omega);unfold vk vr;rcases h.half with⟨h1,h2⟩|⟨h1,h2⟩
 ·rw[if_pos h1,kM h1]at w1;refine⟨_,w1,?_⟩;have w2:=gL (kf.set i o) rf [] j (by rw[Oy];simp;omega);rw[w2,Oy,if_pos h2,if_pos h2,if_pos h2,kY]
 ·rw[if_neg ‹0›,kM ‹0›]at w1;refine⟨_,w1,?_⟩;have w2:=gL kf (rf.set (i-kf.length) o) [] j (by rw[Oy];simp;omega);rw[w2,if_neg ‹0›,if_neg ‹0›,if_neg ‹0›,kY]
theorem Hm{k:D}(h:pl k=true)(a b:Int):iI k (num a b)=some (.bl (!pyEq k (num a b))):=by
 have e:iI k (num a b)=if(pl k&&pl (num a b))&&(cS 8 k||cS 8 (num a b))then some (.bl (!pyEq k (num a b)))else none:=rfl
 have p:pl (num a b)=true:=rfl;have d:cS 8 (num a b)=true:=rfl;rw[e,h,p,d,Pk];rfl
theorem GD{x:Str}{r:List D}{a b:Int}(h:pyEq (.tup (.str x::r)) (num a b)=true):(x==("number":Str))=true:=by
 rw[pyEq,pyEqL,NU,pyEq]at h;exact h.1
theorem uo{k:D}(h:ot k):pl k=true:=by
 rcases h with⟨lo,hi,_,_,_,rfl⟩|⟨ws,_,_,rfl⟩
 ·rfl
 ·have p:gH (ws.map D.str)=true:=qJ _ (λ_=>rfl) ws;rw[bW,gH,gH,bW,p];rfl
theorem qo:∀{xs:List D},(∀x∈xs,pl x=true)->gH xs=true
 |[],_=>rfl
 |x::xs,h=>by
  rw[gH,h x (Nh ..),qo λy hy=>h y (Ni _ hy)];rfl
theorem Jh{k:D}(h:Kw k):pl k=true:=by
 rcases h with(⟨lo,hi,_,rfl⟩|h)|h|⟨kf,rf,b,rfl,h1,h2,h3,h4⟩
 ·rfl
 ·exact uo (.inr h)
 ·exact uo h
 ·have q:∀f:D,(∃nm k,f=.tup [.str nm,k]/\ot k)->pl f=true:=by
   rintro f ⟨nm,k,e,hk⟩;rw[e,bW,gH,gH,uo hk];rfl
  have pk:gH kf=true:=qo λf hf=>q f (h3 f hf);have pr:gH rf=true:=qo λf hf=>q f (h4 f hf);rw[bW,gH,gH,bW,gH,gH,bW,pk,bW,pr];rfl
theorem p6(h:Fo kf rf ps)(q r n:Str)(b:Int){i j:Nat}{x y:Str}{k1 k2:D}(hi:ps[i]?=some (x,k1))(hj:ps[j]?=some (y,k2)){s:Str}(hs:ak k1 (.int 0)=some (.str s)):
  ao bc 4 4 [sF q r b n,.tup [.tup kf,.tup rf],.int i,.int j]=if(((i:Int)==(j:Int))||!(decide (i<kf.length)==decide (j<kf.length)))=true then .error (some ⟨"NoKind",[],[]⟩)else if(!(s==("number":Str))||!(decide (2<=b)&&decide (b<=1000000000)))=true then .error (some ⟨"NoKind",[],[]⟩)else if(!pyEq k2 (num 0 (b-1)))=true then .error (some ⟨"NoKind",[],[]⟩)else .ok .non:=by
 have hl:=h.hl;have p1:=eW kf rf ps ‹0› h.e i x k1 hi;have p2:=eW kf rf ps ‹0› h.e j y k2 hj;have p3:=fZ kf rf i;have p4:=fZ kf rf j;have nn:=Hm (Jh (h.fl j _ hj).2) 0 (b-1);rw[nz];unfold bc;simp! only[p1,p2,p3,p4,hs,wR,md,ja,B1,nn,eT,Fk]
theorem xt(i a c:Int):gD (.int i) (.tup [.int a,.int c])=some (.bl (!((a==i)||(c==i)))):=by
 have e:gD (.int i) (.tup [.int a,.int c])=some (.bl (!inD (.int i) [.int a,.int c])):=rfl;rw[e];unfold inD;rw[Oj,Oj,List.any_nil,NV,pyEq,pyEq]
theorem sd(h:Fo kf rf ps)(nm q r:Str){i j:Nat}{k1 k2:D}(hi:ps[i]?=some (q,k1))(hj:ps[j]?=some (r,k2)):ao bx 3 4 [.tup [.tup kf,.tup rf],.str nm,.tup [.int i,.int j]]=.ok (.bl (ps.any λp=>(p.1==nm)&&qO q r p.1)):=by
 have hl:=h.hl;have len:=h.len;obtain⟨vs,v1,v2,v3⟩:=lL (ρ:=inB [none,none,some 1,some 2] [‹.tup [.tup kf,.tup rf]›,‹.str nm›,‹.tup [.int i,.int j]›,‹.tup (ps.map fld)›]) (g:=gT 2 (o9 [0,1])) (C:=bo) (Fe:=iB (f2 gd (f2 ak (af 1) (fC (.int 0))) (af 2)) (f2 gD (af 0) (af 3))) (fD 0 (ps.map fld)) (λt v=>∃p,ps[t]?=some p/\v=.bl ((p.1==nm)&&qO q r p.1)) (λt d hd=>by
  rw[iV,NM]at hd;cases hp:ps[t]? with
  |none=>rw[hp]at hd;cases hd
  |some p=>
   rw[hp]at hd;cases hd;refine⟨[‹.int ((0+t:Nat):Int)›,‹.tup [.str p.1,p.2]›,‹.str nm›,‹.tup [.int i,.int j]›],_,rfl,rfl,?_,p,rfl,rfl⟩;have e1:=ph h.hn hi hp;have e2:=ph h.hn hj hp;rw[OO]at e1 e2;simp! only[xt,e1,e2,qO,Bool.not_or])
 have ev:vs=(ps.map λp=>(p.1==nm)&&qO q r p.1).map .bl:=by
  have lv:vs.length=ps.length:=by rw[v1,dL,Nx]
  apply Pa
  ·rw[Nx,Nx,lv]
  ·intro t h1 h2;obtain⟨p,hp,e⟩:=v2 t _ (Od h1);rw[e,PX,PX]
   have:ps[t]'‹0›=p:=(by rw[Od ‹0›]at hp;exact Option.some.inj hp);rw[this]
 have f0:=bX (ix:=[none,none,some 1,some 2]) (G:=eh (aa (af 3) ah)) (ρ:=[‹.tup [.tup kf,.tup rf]›,‹.str nm›,‹.tup [.int i,.int j]›,‹.tup (ps.map fld)›]) (by simp! only[lD]) (by rw[dL,Nx];omega) v3;rw[ev]at f0;have an:(ps.map λp=>(p.1==nm)&&qO q r p.1).any id=ps.any λp=>(p.1==nm)&&qO q r p.1:=by rw[OY];rfl
 rw[fK];unfold bx;simp! only[cI kf rf ‹0›,h.e,f0,wC,an]
theorem Ad(h:Ok kf rf ps i j q r lo hi b n):ao bc 4 4 [sF q r b n,.tup [.tup kf,.tup rf],.int i,.int j]=.ok .non:=by
 have b1:=h.b1;have b2:=h.b2;rw[p6 h.h q r n b h.ai h.aj (s:="number") rfl];have z1:((i:Int)==(j:Int))=false:=by have:=h.ij;simp;omega
 have z2:(!(decide (i<kf.length)==decide (j<kf.length)))=false:=by
  rcases h.half with⟨h1,h2⟩|⟨h1,h2⟩
  ·rw[decide_eq_true h1,decide_eq_true h2];rfl
  ·rw[decide_eq_false ‹0›,decide_eq_false ‹0›];rfl
 rw[z1,z2,BEq.rfl,decide_eq_true b1,decide_eq_true b2,gQ];rfl
theorem vK(h:Ok kf rf ps i j q r lo hi b n):ao aE 2 6 [sF q r b n,.tup [.tup kf,.tup rf]]=.ok (frm (vk kf i j (oo lo hi b n)) (vr kf rf i j (oo lo hi b n))):=by
 have hl:=h.pl;have b1:=h.b1;have b2:=h.b2;have p1:=cG kf rf ps ‹0› h.e h.nd i q _ h.ai;have p2:=cG kf rf ps ‹0› h.e h.nd j r _ h.aj;have p3:=eW kf rf ps ‹0› h.e i q _ h.ai;have ck:=Ad h;have el:=sd h.h n q r h.ai h.aj;rw[h.el]at el;obtain⟨f,w1,w2⟩:=yV h (oo lo hi b n);unfold oo at w1 w2;have w1:ao bC 3 3 [.tup [.tup kf,.tup rf],.int i,.tup [.tup [.str n,num (lo*b) (hi*b+b-1)]]]=.ok f:=w1;have m1:=λfas ρ=>zf (q:=q) (r:=r) (b:=b) (n:=n) "check_kinds" (ao bc 4 4) (af 0) fas (‹sF q r b n›::ρ) rfl (by decide +kernel);have ma:=gx (i:=lo) (j:=b) ‹0› ‹0›;have mb:=gx (i:=hi) (j:=b) ‹0› ‹0›;unfold oo;rw[bB];unfold aE;simp! only[si,t7,EF,wR,p1,p2,m1,ck,fq,uK,el,p3,ma,mb,B1,ya,w1,CM,w2]
theorem BV(h:Ok kf rf ps i j q r lo hi b n)(rows:bw)(hl:rows.length<=100)(hr:∀r∈rows,r.length<=100/\∃x y,r[i]?=some (.int x)/\r[j]?=some (.int y))(d:D)
  (hs:ao cZ 2 2 [.int ((vk kf i j (oo lo hi b n)).length:Int),.lst ((rows.map (fu i j b)).map .tup)]=.ok d):ao cq 3 8 [sF q r b n,.tup [.tup kf,.tup rf],.tup (rows.map .tup)]=.ok d:=by
 have pl:=h.pl;have b1:=h.b1;have b2:=h.b2;have p1:=cG kf rf ps ‹0› h.e h.nd i q _ h.ai;have p2:=cG kf rf ps ‹0› h.e h.nd j r _ h.aj;have vo:=vK h;have m1:=λfas ρ=>zf (q:=q) (r:=r) (b:=b) (n:=n) "view_form" (ao aE 2 6) (af 0) fas (‹sF q r b n›::ρ) rfl (by decide +kernel);rw[fK];unfold cq;rw[dP,fQ];simp! only[si,t7,p1,p2,EQ];refine fm (Q:=λz=>z=.ok d) (λk ρ=>ρ=[‹sF q r b n›,‹.tup [.tup kf,.tup rf]›,‹.tup (rows.map .tup)›,‹.int i›,‹.int j›,some (.own (.lst (((rows.take k).map (fu i j b)).map .tup))),none,none]) ?_ rfl ?_
 ·rintro k d ρ k' hdi rfl;have hk:=ax hdi;rw[Nx]at hk;rw[NM,Od hk]at hdi;cases hdi;obtain⟨rl,x,y,hx,hy⟩:=hr rows[k] (O9 hk);have mb:=gx (i:=x) (j:=b) ‹0› ‹0›;have r1:=dQ rows[k] [.int (x*b+y)] i (by simp;omega);rw[kM (ax hx)]at r1;have r2:=dQ (rows[k].set i (.int (x*b+y))) [] j (by rw[Oy];simp;omega);rw[kY]at r2;have fe:(rows[k].set i (.int (x*b+y))).eraseIdx j=fu i j b rows[k]:=by unfold fu;rw[cX hx,cX hy]
  rw[fe]at r2;refine⟨_,_,rfl,rfl,?_⟩;rw[dP,fQ];simp! only[lE hx,lE hy,wR,mb];rw[gF _ _ _ _ _ (xs:=((rows.take k).map (fu i j b)).map .tup) rfl];simp! only[ya,r1,CM,r2];rw[jG (by rw[Nx,Nx,NE];omega)];simp! only[];rw[Qs hk,Oq,Oq];rfl
 ·rintro ρ' rfl;rw[Nx,Ov];simp! only[m1,vo,hs]
theorem z8(h:Ok kf rf ps i j q r lo hi b n)(t:D)(rows:bw)(hl:rows.length<=100)(hr:∀r∈rows,r.length<=100/\j<=r.length/\∃x,(wd j r)[i]?=some (.int x))(d:D)
  (hs:ao cZ 2 2 [.int (kf.length:Int),.lst ((rows.map (bk i j b)).map .tup)]=.ok d):ao dh 4 10 [sF q r b n,.tup [.tup kf,.tup rf],t,.tup (rows.map .tup)]=.ok d:=by
 have pl:=h.pl;have b1:=h.b1;have b2:=h.b2;have p1:=cG kf rf ps ‹0› h.e h.nd i q _ h.ai;have p2:=cG kf rf ps ‹0› h.e h.nd j r _ h.aj;have big:(1000000000:Int)<10^200:=by decide +kernel
 have gb:=λx=>bf (i:=x) (show(0:Int)<b by omega);have db:=λx=>cQ (i:=x) (show(0:Int)<b by omega) (Int.lt_of_le_of_lt b2 big);rw[nz];unfold dh;rw[dP,fQ];simp! only[si,t7,p1,p2,EQ];refine fm (Q:=λz=>z=.ok d) (λk ρ=>ρ=[‹sF q r b n›,‹.tup [.tup kf,.tup rf]›,none,‹.tup (rows.map .tup)›,‹.int i›,‹.int j›,some (.own (.lst (((rows.take k).map (bk i j b)).map .tup))),none,none,none]) ?_ rfl ?_
 ·rintro k d ρ k' hdi rfl;have hk:=ax hdi;rw[Nx]at hk;rw[NM,Od hk]at hdi;cases hdi;obtain⟨rl,jl,x,hx⟩:=hr rows[k] (O9 hk);have wl:=vx jl;have il:=ax hx;have ww:rows[k].take j++[D.int 0]++rows[k].drop j=wd j rows[k]:=by unfold wd;rw[OA];rfl
  have a1:=cI (rows[k].take j) [.int 0] (by rw[NE];simp;omega);have a2:=cI (rows[k].take j++[.int 0]) (rows[k].drop j) (by rw[NR,NE,NT];simp;omega);rw[ww]at a2;have be:bk i j b rows[k]=((wd j rows[k]).set i (.int (x/b))).set j (.int (x%b)):=by
   unfold bk;rw[cX hx]
  generalize wd j rows[k]=w at a2 hx wl il be;have r1:=dQ w [.int (x/b)] i (by simp;omega);rw[kM il]at r1;have r2:=dQ (w.set i (.int (x/b))) [.int (x%b)] j (by rw[Oy];simp;omega);rw[kM (by rw[Oy];omega),<-be]at r2;refine⟨_,_,rfl,rfl,?_⟩;rw[dP,fQ];simp! only[hW,kK,ya,a1,a2,lE hx];rw[gF _ _ _ _ _ (xs:=((rows.take k).map (bk i j b)).map .tup) rfl];simp! only[wR,db,gb,ya,r1,r2];rw[jG (by rw[Nx,Nx,NE];omega)];simp! only[];rw[Qs hk,Oq,Oq];rfl
 ·rintro ρ' rfl;rw[Nx,Ov];simp! only[hs]
theorem F2.set{R:D->D->Prop}:∀{as bs:List D}(i:Nat){a c:D},F2 R as bs->R a c->F2 R (as.set i a) (bs.set i c)
 |[],[],_,_,_,h,_=>h
 |_::_,_::_,0,_,_,.cons q t,hr=>.cons hr t
 |_::_,_::_,i+1,_,_,.cons q t,hr=>.cons q (F2.set i t hr)
theorem F2.erase{R:D->D->Prop}:∀{as bs:List D}(i:Nat),F2 R as bs->F2 R (as.eraseIdx i) (bs.eraseIdx i)
 |[],[],_,h=>h
 |_::_,_::_,0,.cons q t=>t
 |_::_,_::_,i+1,.cons q t=>.cons q (F2.erase i t)
noncomputable def ks(ps:cf):List D:=ps.map (·.2)
noncomputable def kv(ps:cf)(i j:Nat)(lo hi b:Int):List D:=((ks ps).set i (num (lo*b) (hi*b+b-1))).eraseIdx j
theorem Ok.ki(h:Ok kf rf ps i j q r lo hi b n):(ks ps)[i]?=some (num lo hi):=by unfold ks;rw[NM,h.ai];rfl
theorem Ok.kj(h:Ok kf rf ps i j q r lo hi b n):(ks ps)[j]?=some (num 0 (b-1)):=by unfold ks;rw[NM,h.aj];rfl
theorem kC(h:Ok kf rf ps i j q r lo hi b n){w:List D}(f:F2 (dI 1) (ks ps) w):∃x y,w[i]?=some (.int x)/\w[j]?=some (.int y)/\lo<=x/\x<=hi/\0<=y/\y<b:=by
 obtain⟨x,h1,h2,h3⟩:=jz f h.ki;obtain⟨y,h4,h5,h6⟩:=jz f h.kj;exact⟨x,y,h1,h4,h2,h3,h5,by omega⟩
theorem rV(h:Ok kf rf ps i j q r lo hi b n):(kv ps i j lo hi b).length=kf.length+rf.length-1:=by
 unfold kv ks;rw[Qo,Oy,Nx,h.l,if_pos h.jl]
theorem Jl(h:Ok kf rf ps i j q r lo hi b n)(k:Nat)(hk:k≠j)(hki:k≠i):(kv ps i j lo hi b)[if k<j then k else k-1]?=(ks ps)[k]?:=by
 unfold kv;rw[Qp];by_cases z:k<j
 ·rw[if_pos z,if_pos z,Nm (Ne.symm hki)]
 ·rw[if_neg z,if_neg ‹0›,show k-1+1=k by omega,Nm (Ne.symm hki)]
theorem LJ(h:Ok kf rf ps i j q r lo hi b n):(kv ps i j lo hi b)[if i<j then i else i-1]?=some (num (lo*b) (hi*b+b-1)):=by
 have hij:=h.ij;have l:=ax h.ki;unfold kv;rw[Qp];by_cases z:i<j
 ·rw[if_pos z,if_pos z,Nk l]
 ·rw[if_neg z,if_neg ‹0›,show i-1+1=i by omega,Nk l]
theorem Eu{w:List D}(hj:j<=w.length)(k:Nat)(hk:k≠j):(wd j w)[k]?=w[if k<j then k else k-1]?:=by
 rw[jI hj];by_cases z:k<j
 ·rw[if_pos z,if_pos z]
 ·rw[if_neg z,if_neg hk,if_neg z]
theorem iZ(h:Ok kf rf ps i j q r lo hi b n){w:List D}(f:F2 (dI 1) (kv ps i j lo hi b) w):j<=w.length/\∃x,(wd j w)[i]?=some (.int x)/\lo*b<=x/\x<=hi*b+b-1:=by
 have l:=f.length;rw[rV h]at l;have jl:=h.jl;have hj:j<=w.length:=by omega
 obtain⟨x,h1,h2,h3⟩:=jz f (LJ h);exact⟨hj,x,by rw[Eu hj i h.ij,h1],h2,h3⟩
theorem Gm{lo hi x:Int}(h1:lo<=x)(h2:x<=hi):dI 1 (num lo hi) (.int x):=.inl (.inl ⟨lo,hi,x,rfl,h1,h2,rfl⟩)
theorem FJ(h:Ok kf rf ps i j q r lo hi b n){w:List D}(f:F2 (dI 1) (ks ps) w):F2 (dI 1) (kv ps i j lo hi b) (fu i j b w):=by
 obtain⟨x,y,hx,hy,h1,h2,h3,h4⟩:=kC h f;have b1:=h.b1;unfold kv fu;rw[cX hx,cX hy];refine F2.erase j (F2.set i f (Gm ?_ ?_))
 ·have:=Qt h1 (show 0<=b by omega)
  omega
 ·have:=Qt h2 (show 0<=b by omega)
  omega
theorem FQ(h:Ok kf rf ps i j q r lo hi b n){w:List D}(f:F2 (dI 1) (kv ps i j lo hi b) w):F2 (dI 1) (ks ps) (bk i j b w):=by
 obtain⟨hj,x,hx,h1,h2⟩:=iZ h f;have b1:=h.b1;have wl:=vx hj;have il:=ax hx;have l:=f.length;rw[rV h]at l;have hl:=h.l;have k1:=h.k1;refine F2.of ?_ λk a v ha hv=>?_
 ·unfold bk ks;rw[Oy,Oy,wl,Nx];omega
 ·unfold bk at hv;rw[cX hx,get_set (by rw[Oy];omega)]at hv;by_cases z:j=k
  ·subst z;rw[if_pos rfl]at hv;cases hv;rw[h.kj]at ha;cases ha
   have:=PJ x (show b≠0 by omega)
   have:=PN x (show 0<b by omega)
   exact Gm ‹0› ‹0›
  ·rw[if_neg z,get_set il]at hv;by_cases z':i=k
   ·subst z';rw[if_pos rfl]at hv;cases hv;rw[h.ki]at ha;cases ha;refine Gm (Int.le_ediv_of_mul_le ‹0› h1) ?_
    have:x/b<hi+1:=Int.ediv_lt_of_lt_mul ‹0› (by rw[Int.add_mul];omega)
    omega
   ·rw[if_neg z',Eu hj k (Ne.symm z)]at hv;rw[<-Jl h k (Ne.symm z) (Ne.symm z')]at ha;exact f.get ha hv
theorem vg{m:Nat}{σ:cy}{rows:bw}(hs:∀r∈rows,Sh σ (r.take m))(h:vW m rows):rows.Pairwise λr s=>r.take m≠s.take m:=
 h.imp_of_mem λ{a c} ha hc z=>G8 (hs a ha) z
end
theorem lI{α β:Type}(f:α->β)(l:List α)(i:Nat):(l.eraseIdx i).map f=(l.map f).eraseIdx i:=by
 rw[Qr,Qr,Oq,Px,Pw]
section
variable{kf rf:List D}{ps:cf}{i j:Nat}{q r n:Str}{lo hi b:Int}
theorem FD(h:Ok kf rf ps i j q r lo hi b n):(vk kf i j (oo lo hi b n)).length+(vr kf rf i j (oo lo hi b n)).length=kf.length+rf.length-1:=by
 have e:=congrArg List.length (Bk (kf:=kf) (rf:=rf) h.half (oo lo hi b n));rw[NR,Qo,Oy,NR,if_pos h.jl]at e;exact e
theorem II(h:Ok kf rf ps i j q r lo hi b n){rows:bw}(hf:∀w∈rows,F2 (dI 1) (ks ps) w)(pw:rows.Pairwise λr s=>r.take kf.length≠s.take kf.length):(rows.map (fu i j b)).Pairwise λr s=>r.take (vk kf i j (oo lo hi b n)).length≠s.take (vk kf i j (oo lo hi b n)).length:=by
 rw[Pb];refine pw.imp_of_mem λ{a c} ha hc z w=>z ?_;obtain⟨x,y,hx,hy,_,_,y1,y2⟩:=kC h (hf a ha);obtain⟨x',y',hx',hy',_,_,y1',y2'⟩:=kC h (hf c hc);rw[ui h.half]at w;rcases h.half with⟨h1,h2⟩|⟨h1,h2⟩
 ·rw[if_pos h2,BJ h1 h2 hx hy,BJ h1 h2 hx' hy']at w;have w':=congrArg (bk i j b) w;rw[rJ h.ij (by rw[NN h1,hx]) (by rw[NN h2,hy]) y1 y2,rJ h.ij (by rw[NN h1,hx']) (by rw[NN h2,hy']) y1' y2']at w';exact w'
 ·rw[if_neg ‹0›,vX h1 h2,vX h1 h2]at w;exact w
theorem Ia(h:Ok kf rf ps i j q r lo hi b n){rows:bw}(hf:∀w∈rows,F2 (dI 1) (kv ps i j lo hi b) w)(pw:rows.Pairwise λr s=>r.take (vk kf i j (oo lo hi b n)).length≠s.take (vk kf i j (oo lo hi b n)).length):(rows.map (bk i j b)).Pairwise λr s=>r.take kf.length≠s.take kf.length:=by
 rw[Pb];have b1:=h.b1;refine pw.imp_of_mem λ{a c} ha hc z w=>z ?_;obtain⟨hj,x,hx,_,_⟩:=iZ h (hf a ha);obtain⟨hj',x',hx',_,_⟩:=iZ h (hf c hc);have la:=(hf a ha).length;have lc:=(hf c hc).length;rw[rV h]at la lc;have k1:=h.k1;rw[ui h.half];rcases h.half with⟨h1,h2⟩|⟨h1,h2⟩
 ·rw[if_pos h2];rw[AA h1 h2 hj hx,AA h1 h2 hj' hx']at w;have w':=congrArg (fu i j b) w;rw[qA h.ij (by rw[NE];omega) (by rw[<-qq h2 ‹0›,NN h1,hx]) ‹0›,qA h.ij (by rw[NE];omega) (by rw[<-qq h2 ‹0›,NN h1,hx']) ‹0›]at w';exact w'
 ·rw[if_neg ‹0›];rw[wM h1 h2 hj,wM h1 h2 hj']at w;exact w
theorem nI{α:Type}(xs:List α)(i j a:Nat)(x:α)(hi:i<xs.length):((xs.set i x).eraseIdx j)[a]?=if i=(if a<j then a else a+1)then some x else xs[if a<j then a else a+1]?:=by
 rw[Qp];by_cases z:a<j
 ·rw[if_pos z,if_pos z,Qn];by_cases w:i=a
  ·rw[if_pos w,if_pos w,if_pos hi]
  ·rw[if_neg w,if_neg w]
 ·rw[if_neg z,if_neg z,Qn];by_cases w:i=a+1
  ·rw[if_pos w,if_pos w,if_pos hi]
  ·rw[if_neg w,if_neg w]
noncomputable def pv(ps:cf)(i j:Nat)(lo hi b:Int)(n:Str):cf:=(ps.set i (n,num (lo*b) (hi*b+b-1))).eraseIdx j
theorem zU:(pv ps i j lo hi b n).map (·.2)=kv ps i j lo hi b:=by
 unfold pv kv ks;rw[lI,P4]
theorem Ok.ne(h:Ok kf rf ps i j q r lo hi b n){k:Nat}{p:Str×D}(hp:ps[k]?=some p)(k1:k≠i)(k2:k≠j):p.1≠n:=λz=>by
 have e1:=ph h.nd h.ai hp;have e2:=ph h.nd h.aj hp;have f1:((i:Int)==((0+k:Nat):Int))=false:=by simp;omega
 have f2:((j:Int)==((0+k:Nat):Int))=false:=by simp;omega
 rw[f1]at e1;rw[f2]at e2
 have:=List.any_eq_false.mp h.el p (NQ hp)
 unfold qO at this;rw[<-e1,<-e2,z,BEq.rfl]at this;exact this rfl
theorem CY(h:Ok kf rf ps i j q r lo hi b n):Fo (vk kf i j (oo lo hi b n)) (vr kf rf i j (oo lo hi b n)) (pv ps i j lo hi b n):=by
 have vl:=FD h;have kl:=ui (kf:=kf) h.half (oo lo hi b n);have k1:=h.k1;have k8:=h.kl;have r8:=h.rl;have ij:=h.ij;have il:=ax h.ai;have pl:=h.l;have b1:=h.b1;have fo:rW (num (lo*b) (hi*b+b-1)):=by
  have:=Qt h.lh (show 0<=b by omega)
  exact .inl ⟨_,_,by omega,rfl⟩
 refine⟨?_,?_,?_,?_,?_,λa p hp=>?_⟩
 ·rw[kl];rcases h.half with⟨h1,h2⟩|⟨h1,h2⟩
  ·rw[if_pos h2];omega
  ·rw[if_neg ‹0›];omega
 ·rw[kl];split<;>omega
 ·rw[kl]at vl;split at vl<;>omega
 ·rw[Bk h.half,h.e];unfold pv oo;rw[lI,P4]
 ·unfold pv;rw[lI,P4];refine List.pairwise_iff_getElem.mpr λa c ha hc hac=>?_;have ga:=nI (ps.map (·.1)) i j a n (by rw[Nx];exact il);have gc:=nI (ps.map (·.1)) i j c n (by rw[Nx];exact il);rw[Od ha]at ga;rw[Od hc]at gc;generalize (((ps.map (·.1)).set i n).eraseIdx j)[a]=u at ga;generalize (((ps.map (·.1)).set i n).eraseIdx j)[c]=v at gc;have aj:(if a<j then a else a+1)≠j:=by split<;>omega
  have cj:(if c<j then c else c+1)≠j:=by split<;>omega
  have ac:(if a<j then a else a+1)<(if c<j then c else c+1):=by split<;>split<;>omega
  generalize (if a<j then a else a+1)=a' at *;generalize (if c<j then c else c+1)=c' at *;have nm:∀(k:Nat)(w:Str),some w=(ps.map (·.1))[k]?->∃p:Str×D,ps[k]?=some p/\p.1=w:=λk w hw=>by
   rw[NM]at hw;cases hp:ps[k]? with
   |none=>rw[hp]at hw;cases hw
   |some p=>rw[hp]at hw;exact⟨p,rfl,(Option.some.inj hw).symm⟩
  by_cases z1:i=a'
  ·rw[if_pos z1]at ga;rw[if_neg ‹0›]at gc;obtain⟨p,hp,e⟩:=nm _ _ gc;rw[Option.some.inj ga,<-e];exact λz=>h.ne hp ‹0› cj z.symm
  ·rw[if_neg z1]at ga;obtain⟨p,hp,e⟩:=nm _ _ ga;by_cases z2:i=c'
   ·rw[if_pos z2]at gc;rw[Option.some.inj gc,<-e];exact h.ne hp (Ne.symm z1) aj
   ·rw[if_neg z2]at gc;have la:=ax ga.symm;have lc:=ax gc.symm
    have:=List.pairwise_iff_getElem.mp h.nd a' c' la lc ac
    rw[Od la]at ga;rw[Od lc]at gc;rw[Option.some.inj ga,Option.some.inj gc];exact this
 ·unfold pv at hp;rw[nI _ _ _ _ _ il]at hp;rw[kl];by_cases z:i=(if a<j then a else a+1)
  ·rw[if_pos z]at hp;cases hp;exact⟨λ_=>fo,.inl fo⟩
  ·rw[if_neg z]at hp
   have:=h.h.fl _ p hp
   refine⟨λw=>this.1 ?_,this.2⟩;rcases h.half with⟨h1,h2⟩|⟨h1,h2⟩
   ·rw[if_pos h2]at w;split<;>omega
   ·rw[if_neg ‹0›]at w;rw[if_pos ‹0›];exact w
theorem Fo.srt{kf rf:List D}{ps:cf}(h:Fo kf rf ps){rows:bw}(hf:∀r∈rows,F2 (dI 1) (ps.map (·.2)) r)(pw:rows.Pairwise λr s=>r.take kf.length≠s.take kf.length)(hl:rows.length<=60):Ib kf.length rows:=by
 obtain⟨σ,hσ⟩:=h.sh;refine⟨?_,pw,by omega⟩;cases rows with
 |nil=>exact⟨[true],by simp,λr hr=>nomatch hr⟩
 |cons r rs=>
  refine⟨σ,λz=>?_,λr hr=>hσ r (hf r hr)⟩;have s:=(hσ r (hf r Nh)).length;have l:=(hf r Nh).length
  have:=h.len
  have:=h.k1
  rw[Nx]at l;rw[z,NE,<-l,O0]at s;omega
noncomputable def so(m:Nat)(rows:bw):bw:=mh (λr:List D=>r.take m) rows
theorem vJ(m:Nat)(rows:bw):(so m rows).Perm rows:=fT _ rows
theorem Ib.ris{m:Nat}{rows:bw}(h:Ib m rows):vW m (so m rows):=by
 obtain⟨σ,h1,h2⟩:=h.ex;exact lK (key:=λr:List D=>r.take m) (σ:=σ) h2 h.pw
theorem E8{kf rf:List D}{ps:cf}(h:Fo kf rf ps){rows t:bw}(T:Tb kf.length ps t)(e:t.Perm rows):so kf.length rows=t:=by
 obtain⟨σ,hσ⟩:=h.sh;have sh:∀r∈t,Sh σ (r.take kf.length):=λr hr=>hσ r (T.f r hr);refine n9 (σ:=σ) (λr hr=>sh r (e.mem_iff.mpr hr)) ?_ T.ris e;exact(e.pairwise_iff (λ{a b} z=>Ne.symm z)).mp (vg sh T.ris)
theorem Cz(h:Ok kf rf ps i j q r lo hi b n):Ln (sF q r b n) kf rf ps (vk kf i j (oo lo hi b n)) (vr kf rf i j (oo lo hi b n)) (pv ps i j lo hi b n):=by
 have fo:=CY h;have b1:=h.b1;have pl:=h.pl;obtain⟨σ,hσ⟩:=h.h.sh;obtain⟨τ,hτ⟩:=fo.sh;obtain⟨m',hm'⟩:∃m',m'=(vk kf i j (oo lo hi b n)).length:=⟨_,rfl⟩
 have lv:=rV h;have kk:=zU (ps:=ps) (i:=i) (j:=j) (lo:=lo) (hi:=hi) (b:=b) (n:=n);refine⟨fo,λrows=>so m' (rows.map (fu i j b)),λrows=>so kf.length (rows.map (bk i j b)),λrows t=>?_,λrows t=>?_⟩
 ·have tl:=t.l;have hf:∀w∈rows,F2 (dI 1) (ks ps) w:=t.f;have ff:∀w∈rows.map (fu i j b),F2 (dI 1) ((pv ps i j lo hi b n).map (·.2)) w:=λw hw=>by
   obtain⟨u,hu,rfl⟩:=List.mem_map.mp hw;rw[kk];exact FJ h (hf u hu)
  have s:=fo.srt ff (II h hf (vg (λr hr=>hσ r (t.f r hr)) t.ris)) (by rw[Nx];exact tl);rw[<-hm']at s ⊢;have pm:=vJ m' (rows.map (fu i j b));have T:Tb m' (pv ps i j lo hi b n) (so m' (rows.map (fu i j b))):=⟨by rw[pm.length_eq,Nx];exact tl,λr hr=>ff r (pm.mem_iff.mp hr),s.ris⟩
  refine⟨T,by rw[pm.length_eq,Nx],E8 h.h t ?_,?_⟩
  ·have e:=pm.map (bk i j b);rw[PL]at e
   have:rows.map (bk i j b∘fu i j b)=rows.map id:=Om λu hu=>by
    obtain⟨x,y,hx,hy,_,_,y1,y2⟩:=kC h (hf u hu);exact rJ h.ij hx hy y1 y2
   rw[this,Ql]at e;exact e.symm
  ·rw[GT,Bb];refine BV h rows ‹0› (λu hu=>?_) _ ?_
   ·obtain⟨x,y,hx,hy,_⟩:=kC h (hf u hu);exact⟨by rw[<-(t.f u hu).length,Nx];omega,x,y,hx,hy⟩
   ·rw[<-hm'];exact s.prog s.ris pm
 ·rw[<-hm']at t;have tl:=t.l;have hf:∀w∈rows,F2 (dI 1) (kv ps i j lo hi b) w:=λw hw=>by rw[<-kk];exact t.f w hw
  have ff:∀w∈rows.map (bk i j b),F2 (dI 1) (ps.map (·.2)) w:=λw hw=>by
   obtain⟨u,hu,rfl⟩:=List.mem_map.mp hw;exact FQ h (hf u hu)
  have t':=t;rw[hm']at t';have s:=h.h.srt ff (Ia h hf (vg (λr hr=>hτ r (t'.f r hr)) t'.ris)) (by rw[Nx];exact tl);have pm:=vJ kf.length (rows.map (bk i j b));refine⟨⟨by rw[pm.length_eq,Nx];exact tl,λr hr=>ff r (pm.mem_iff.mp hr),s.ris⟩,?_,λt0=>?_⟩
  ·rw[hm'];refine E8 fo t' ?_;have e:=pm.map (fu i j b);rw[PL]at e
   have:rows.map (fu i j b∘bk i j b)=rows.map id:=Om λu hu=>by
    obtain⟨hj,x,hx,_⟩:=iZ h (hf u hu);exact qA h.ij hj hx ‹0›
   rw[this,Ql]at e;exact e.symm
  ·rw[IP,Bb];refine z8 h t0 rows ‹0› (λu hu=>?_) _ (s.prog s.ris pm);obtain⟨hj,x,hx,_⟩:=iZ h (hf u hu)
   have:=(hf u hu).length
   have:=h.kl
   have:=h.rl
   exact⟨by omega,hj,x,hx⟩
theorem Bv{k:D}(h:Kw k):∃(x:Str)(r:List D),k=.tup (.str x::r):=by
 rcases h with(⟨lo,hi,_,rfl⟩|⟨ws,_,_,rfl⟩)|(⟨lo,hi,_,_,_,rfl⟩|⟨ws,_,_,rfl⟩)|⟨kf,rf,b,rfl,_⟩<;>exact⟨_,_,rfl⟩
theorem Ci(h:Fo kf rf ps)(i j:Nat)(q r:Str)(k k':D)(b:Int)(n:Str)(ai:ps[i]?=some (q,k))(aj:ps[j]?=some (r,k')):Vw (sF q r b n) kf rf ps (VW (sF q r b n) [sF q r b n,frm kf rf]):=by
 have hl:=h.hl;have len:=h.len;rw[VW,Bb];obtain⟨s,hs,hk⟩:=A3 (h.fl i _ ai).2;have hs:ak k (.int 0)=some (.str s):=hs;obtain⟨s',hs',hk'⟩:=A3 (h.fl j _ aj).2;have hs':ak k' (.int 0)=some (.str s'):=hs';have p1:=cG kf rf ps ‹0› h.e h.hn i q k ai;have p2:=cG kf rf ps ‹0› h.e h.hn j r k' aj;have p3:=eW kf rf ps ‹0› h.e i q k ai;have ck:=p6 h q r n b ai aj hs;have el:=sd h n q r ai aj;have m1:=λfas ρ=>zf (q:=q) (r:=r) (b:=b) (n:=n) "check_kinds" (ao bc 4 4) (af 0) fas (‹sF q r b n›::ρ) rfl (by decide +kernel);have bad:ao bc 4 4 [sF q r b n,.tup [.tup kf,.tup rf],.int i,.int j]=.error (some ⟨"NoKind",[],[]⟩)->Vw (sF q r b n) kf rf ps (ao aE 2 6 [sF q r b n,frm kf rf]):=λe=>by
  have:ao aE 2 6 [sF q r b n,.tup [.tup kf,.tup rf]]=.error (some ⟨"NoKind",[],[]⟩):=by
   rw[bB];unfold aE;simp! only[si,t7,p1,p2,m1,e,fq]
  rw[this];exact .no _ _ _ (by decide +kernel)
 cases z1:(((i:Int)==(j:Int))||!(decide (i<kf.length)==decide (j<kf.length)))with
 |true=>exact bad (by rw[ck,z1,if_pos rfl])
 |false=>
  rw[z1,if_neg Nn]at ck;cases z2:(!(s==("number":Str))||!(decide (2<=b)&&decide (b<=1000000000)))with
  |true=>exact bad (by rw[ck,z2,if_pos rfl])
  |false=>
   rw[z2,if_neg Nn]at ck;cases z3:(!pyEq k' (num 0 (b-1)))with
   |true=>exact bad (by rw[ck,z3,if_pos rfl])
   |false=>
    rw[z3,if_neg Nn]at ck;cases z4:(ps.any λp=>(p.1==n)&&qO q r p.1)with
    |true=>
     rw[z4]at el
     have:ao aE 2 6 [sF q r b n,.tup [.tup kf,.tup rf]]=.error (some ⟨"Twice",[],[]⟩):=by
      rw[bB];unfold aE;simp! only[si,t7,EF,p1,p2,m1,ck,fq,uK,el,eT,Fk]
     rw[this];exact .no _ _ _ (by decide +kernel)
    |false=>
     rw[OT]at z1 z2;obtain⟨y1,y2⟩:=z1;obtain⟨y3,y4⟩:=z2;rw[Bool.not_eq_false']at y2 y3 y4 z3;rw[NU,decide_eq_true_eq,decide_eq_true_eq]at y4;obtain⟨lo,up,lu,rfl⟩:=hk y3;have kn:(s'==("number":Str))=true:=by
      have:=Bv (h.fl j _ aj).2
      obtain⟨x,rest,e⟩:=this;have e:k'=.tup (.str x::rest):=e;rw[e]at z3 hs';have w:=GD z3
      have:ak (.tup (.str x::rest)) (.int 0)=some (.str x):=sG _ _
      rw[this]at hs';cases hs';exact w
     obtain⟨lo',up',_,rfl⟩:=hk' kn;have nn:lo'=0/\up'=b-1:=by
      simp only[pyEq,pyEqL,BEq.rfl,PP,Of,NU,beq_iff_eq]at z3;exact z3
     rw[nn.1,nn.2]at aj;have O:Ok kf rf ps i j q r lo up b n:=by
      refine⟨h,ai,aj,?_,?_,y4.1,y4.2,lu,z4⟩
      ·intro z;rw[z]at y1;simp at y1
      ·have y2:=beq_iff_eq.mp y2;rw[decide_eq_decide]at y2;omega
     rw[vK O];exact .ok _ _ _ (Cz O)
end
noncomputable def nb:Nat->D->Bool
 |_,.int _=>true
 |_,.str _=>true
 |n+1,.tup xs=>xs.all (nb n)
 |_,_=>false
theorem uw{n:Nat}{xs:List D}(h:nb (n+1) (.tup xs)=true):∀x∈xs,nb n x=true:=by
 have h:xs.all (nb n)=true:=h;exact List.all_eq_true.mp h
theorem vD{n:Nat}{xs:List D}(h:∀x∈xs,nb n x=true):nb (n+1) (.tup xs)=true:=by
 show xs.all (nb n)=true;exact List.all_eq_true.mpr h
theorem AY:∀{n:Nat}{d:D},nb n d=true->cS n d=true/\pl d=true:=by
 intro n
 induction n with
 |zero=>
  intro d h;cases d<;>first|exact⟨rfl,rfl⟩|(unfold nb at h;cases h;done)
 |succ n ih=>
  intro d h;cases d with
  |tup xs=>
   have h:=uw h;refine⟨?_,?_⟩
   ·show xs.all (cS n)=true;exact List.all_eq_true.mpr λx hx=>(ih (h x hx)).1
   ·rw[bW];exact rS λx hx=>(ih (h x hx)).2
  |_=>first|exact⟨rfl,rfl⟩|(unfold nb at h;cases h;done)
theorem zi{n:Nat}(ih:∀a b:D,nb n a=true->nb n b=true->pyEq a b=true->a=b):∀(xs ys:List D),(∀x∈xs,nb n x=true)->(∀x∈ys,nb n x=true)->pyEqL xs ys=true->xs=ys
 |[],[],_,_,_=>rfl
 |[],_::_,_,_,h=>by unfold pyEqL at h;cases h
 |_::_,[],_,_,h=>by unfold pyEqL at h;cases h
 |x::xs,y::ys,h1,h2,h=>by
  unfold pyEqL at h;rw[NU]at h;rw[ih x y (h1 x Nh) (h2 y Nh) h.1,zi ih xs ys (λz hz=>h1 z (Ni _ hz)) (λz hz=>h2 z (Ni _ hz)) h.2]
theorem IB:∀(n:Nat)(a b:D),nb n a=true->nb n b=true->pyEq a b=true->a=b:=by
 intro n
 induction n with
 |zero=>
  intro a b ha hb h;cases a<;>cases b<;>first|(unfold nb at ha;cases ha;done)|(unfold nb at hb;cases hb;done)|(unfold pyEq at h;first|(rw[beq_iff_eq.mp h];done)|(cases h;done))
 |succ n ih=>
  intro a b ha hb h;cases a with
  |tup xs=>
   cases b with
   |tup ys=>
    unfold pyEq at h;rw[zi ih xs ys (uw ha) (uw hb) h]
   |_=>first|(unfold nb at hb;cases hb;done)|(unfold pyEq at h;cases h;done)
  |_=>cases b<;>first|(unfold nb at ha;cases ha;done)|(unfold nb at hb;cases hb;done)|(unfold pyEq at h;first|(rw[beq_iff_eq.mp h];done)|(cases h;done))
theorem vA(n:Nat){k v:D}(h:iK k v):nb n v=true:=by
 rcases h with⟨_,_,i,_,_,_,rfl⟩|⟨_,w,_,_,rfl⟩<;>cases n<;>rfl
theorem Hu{k v:D}(h:dI 1 k v):nb 6 v=true:=by
 rcases h with h|⟨kf,rf,b,ps,rows,rfl,e,l,rfl,rl,hf,_⟩
 ·exact vA 6 h
 ·refine vD λx hx=>?_;obtain⟨r,hr,rfl⟩:=List.mem_map.mp hx;refine vD λy hy=>?_;obtain⟨a,_,q⟩:=(hf r hr).mem hy;exact vA 4 q
theorem qT{m:Nat}{ps:cf}{rows:bw}(t:Tb m ps rows):nb 8 (tbl rows)=true:=by
 refine vD λx hx=>?_;obtain⟨r,hr,rfl⟩:=List.mem_map.mp hx;refine vD λy hy=>?_;obtain⟨a,_,q⟩:=(t.f r hr).mem hy;exact Hu q
theorem kU{m m':Nat}{ps ps':cf}{a b:bw}(ta:Tb m ps a)(tb:Tb m' ps' b)[Decidable (a=b)]:gd (tbl a) (tbl b)=some (.bl (decide (a=b)))/\iI (tbl a) (tbl b)=some (.bl (!decide (a=b))):=by
 obtain⟨d1,p1⟩:=AY (qT ta);obtain⟨d2,p2⟩:=AY (qT tb);have e:pyEq (tbl a) (tbl b)=decide (a=b):=by
  by_cases z:a=b
  ·rw[decide_eq_true z];subst z;exact gQ _
  ·rw[decide_eq_false z];cases w:pyEq (tbl a) (tbl b)with
   |false=>rfl
   |true=>
    have:=IB 8 _ _ (qT ta) (qT tb) w
    injection this with this;exact absurd (wm this) z
 constructor
 ·have:gd (tbl a) (tbl b)=if(pl (tbl a)&&pl (tbl b))&&(cS 8 (tbl a)||cS 8 (tbl b))then some (.bl (pyEq (tbl a) (tbl b)))else none:=rfl
  rw[this,p1,p2,d1,e];rfl
 ·have:iI (tbl a) (tbl b)=if(pl (tbl a)&&pl (tbl b))&&(cS 8 (tbl a)||cS 8 (tbl b))then some (.bl (!pyEq (tbl a) (tbl b)))else none:=rfl
  rw[this,p1,p2,d1,e];rfl
theorem uM{k:D}(h:rW k):lf k=true:=by
 rcases h with⟨lo,hi,_,rfl⟩|⟨ws,_,_,rfl⟩
 ·rfl
 ·refine fh λx hx=>?_;rcases List.mem_cons.mp hx with rfl|hx
  ·rfl
  ·rw[List.mem_singleton.mp hx];refine fh λy hy=>?_;obtain⟨w,_,rfl⟩:=List.mem_map.mp hy;rfl
theorem Iz{k:D}(h:Kw k):lf k=true:=by
 rcases h with h|h|⟨kf,rf,b,rfl,h1,h2,h3,h4⟩
 ·exact uM h
 ·exact uM (ot.w h)
 ·have q:∀f:D,(∃nm k,f=.tup [.str nm,k]/\ot k)->lf f=true:=by
   rintro f ⟨nm,k,rfl,hk⟩;show(lf (.str nm)&&(lf k&&yz []))=true;rw[uM (ot.w hk)];rfl
  have pk:lf (.tup kf)=true:=fh λf hf=>q f (h3 f hf);have pr:lf (.tup rf)=true:=fh λf hf=>q f (h4 f hf);show(lf (.str "rows")&&((lf (.tup kf)&&(lf (.tup rf)&&yz []))&&(lf (.bl b)&&yz [])))=true;rw[pk,pr];rfl
theorem Io{kf rf:List D}{ps:cf}(h:Fo kf rf ps):lf (frm kf rf)=true:=by
 have q:∀f∈kf++rf,lf f=true:=λf hf=>by
  rw[h.e]at hf;obtain⟨p,hp,rfl⟩:=List.mem_map.mp hf;obtain⟨j,hj,ej⟩:=Oi hp
  have:=Iz (h.fl j p (by rw[Od hj,ej])).2
  show(lf (.str p.1)&&(lf p.2&&yz []))=true;rw[this];rfl
 have pk:lf (.tup kf)=true:=fh λf hf=>q f (Nj _ hf);have pr:lf (.tup rf)=true:=fh λf hf=>q f (Nr _ hf);show(lf (.tup kf)&&(lf (.tup rf)&&yz []))=true;rw[pk,pr];rfl
theorem Gb{s:D}(h:B2 s):lf s=true:=by cases h<;>rfl
theorem wy{n:Nat}{fs:Nat->F3}:ak (FL n fs) (.int (-1))=some (fs n).d:=by
 rw[lQ];have e:jQ ((List.range (n+1)).map λk=>(fs k).d) (-1)=((List.range (n+1)).map λk=>(fs k).d)[n]?:=by
  unfold jQ Fc;rw[Nx,Ou,if_neg ‹0›,if_pos ‹0›,show -1+((n+1:Nat):Int)=(n:Int)by omega];rfl
 rw[e,NM,Ox ‹0›];rfl
theorem Ch.grow{n:Nat}{ss:Nat->D}{fs:Nat->F3}(c:Ch n ss fs)(hn:n<8){s:D}(hs:B2 s){f:F3}(h:Ln s (fs n).kf (fs n).rf (fs n).ps f.kf f.rf f.ps):∃(ss':Nat->D)(fs':Nat->F3),Ch (n+1) ss' fs'/\((List.range (n+1)).map λk=>(fs k).d)++[f.d]=((List.range (n+1+1)).map λk=>(fs' k).d)/\((List.range n).map ss)++[s]=(List.range (n+1)).map ss':=by
 have a1:∀k,k<n->(λk=>if k=n then s else ss k) k=ss k:=λk hk=>if_neg ‹0›;have a2:(λk=>if k=n then s else ss k) n=s:=if_pos rfl;have b1:∀k,k<=n->(λk=>if k=n+1 then f else fs k) k=fs k:=λk hk=>if_neg ‹0›;have b2:(λk=>if k=n+1 then f else fs k) (n+1)=f:=if_pos rfl;generalize (λk=>if k=n then s else ss k)=ss' at a1 a2;generalize (λk=>if k=n+1 then f else fs k)=fs' at b1 b2;refine⟨ss',fs',⟨by omega,λk hk=>?_,λk hk=>?_,λk hk=>?_⟩,?_,?_⟩
 ·rcases(show k<=n\/k=n+1 by omega)with z|z
  ·rw[b1 k z];exact c.fo k z
  ·rw[z,b2];exact h.1
 ·rcases(show k<n\/k=n by omega)with z|z
  ·rw[a1 k z];exact c.st k z
  ·rw[z,a2];exact hs
 ·rcases(show k<n\/k=n by omega)with z|z
  ·rw[a1 k z,b1 k ‹0›,b1 (k+1) ‹0›];exact c.ln k z
  ·rw[z,a2,b1 n (Nq n),b2];exact h
 ·rw[Oo (n:=n+1),Oq];congr 1
  ·refine Om λk hk=>?_;rw[b1 k (by have:=List.mem_range.mp hk;omega)]
  ·show[f.d]=[(fs' (n+1)).d]
   rw[b2]
 ·rw[Oo (n:=n),Oq];congr 1
  ·refine Om λk hk=>?_;rw[a1 k (List.mem_range.mp hk)]
  ·show[s]=[ss' n]
   rw[a2]
theorem pk2(f:FX)(ρ:av):jC [2] f ρ=(uy (f (frz 2 ρ))).bind λd=>if lf d then .ok d else un:=rfl
theorem MG(f:bF)(ρ:av):dy [2] f ρ=uy (f (frz 2 ρ)):=rfl
theorem JL(f:bF)(ρ:av):dy [3] f ρ=uy (f (frz 3 ρ)):=rfl
noncomputable def yE:bU:=aq (aL 5 (jC [2] (fR (ao eD 3 9) (aa (af 4) (aa (f2 ak (af 2) (jH (fC (.int 1)))) (aa (af 1) ah)))))) (aq (aL 6 (jC [2] (fR (ao cB 2 3) (aa (af 5) (aa (f2 ak (af 2) (jH (fC (.int 1)))) ah))))) (aq (eN (dy [3] (jJ (fB (f2 eU (fL cO (aa (af 3) ah)) (fC (.int 8)))) (fB (lY (af 6))))) (aq (eN (dy [2] (oq (fB (f2 gq (cY "exact" [("Step",(ao aD 2 2)),("Part",(ao aD 2 2)),("Fuse",(ao aD 2 2)),("Rename",(ao aD 2 2))] (af 5) (aa (f2 ak (af 2) (jH (fC (.int 1)))) ah)) (fC (.bl true)))) (fB (f2 gq (cY "steady" [("Step",(ao az 2 2)),("Part",(ao az 2 2)),("Fuse",(ao az 2 2)),("Rename",(ao az 2 2))] (af 5) (aa (f2 ak (af 2) (jH (fC (.int 1)))) ah)) (fC (.bl true)))))) (bu (fC (.bl false))) bz) (aq (p8 3 gI (aa (af 5) ah)) (p8 2 gI (aa (af 6) ah)))) bz) (dB [4,5,6] bz)))
theorem turn{ns:D}{ws:au}(hw:ws.length=20){n:Nat}{ss:Nat->D}{fs:Nat->F3}(c:Ch n ss fs)(x:Int):∃(n':Nat)(ss':Nat->D)(fs':Nat->F3),Ch n' ss' fs'/\∀k':Ks,yE k' [‹ns›,‹.lst (ws.map .str)›,some (.own (FL n fs)),some (.own (SL n ss)),‹.int x›,none,none,none,none,none,none,none,none]=k'.nx [‹ns›,‹.lst (ws.map .str)›,some (.own (FL n' fs')),some (.own (SL n' ss')),none,none,none,none,none,none,none,none,none]:=by
 have n8:=c.n8;have fo:=c.fo n (Nq n);have al:=wy (n:=n) (fs:=fs);have ls:=zD (n:=n) (ss:=ss);obtain⟨s,hs,vw,es⟩:=CT fo hw x (Ci fo);have sl:=Gb hs;have ex:=λfas x0 x1 x2 x3 x4 ρ=>meth hs "exact" (ao aD 2 2) (ao aD 2 2) (ao aD 2 2) (ao aD 2 2) (af 5) fas (x0::x1::x2::x3::x4::‹s›::ρ) rfl (by decide +kernel);have st:=λfas x0 x1 x2 x3 x4 ρ=>meth hs "steady" (ao az 2 2) (ao az 2 2) (ao az 2 2) (ao az 2 2) (af 5) fas (x0::x1::x2::x3::x4::‹s›::ρ) rfl (by decide +kernel);have pk:∀g:cP,jO g g g s=g:=λg=>by cases hs<;>simp only[jO,ite_self]
 have l8:decide ((n:Int)<8)=decide (n<8):=by rw[decide_eq_decide];omega
 cases hv:VW s [s,(fs n).d]with
 |error e=>
  have tn:ao cB 2 3 [s,(fs n).d]=.ok .non:=by
   have vw':=vw;rw[hv]at vw';cases vw' with
   |no c fs vs h=>exact C1 hs hv h
  refine⟨n,ss,fs,c,λk'=>?_⟩;have nn:isNon D.non=true:=rfl;have lfn:lf D.non=true:=rfl;unfold yE;generalize FL n fs=fl at *;generalize SL n ss=sl' at *;cases z:decide (n<8)with
  |true=>simp! only[pk2,JL,al,es,sl,tn,ls,l8,z,nn,lfn]
  |false=>simp! only[pk2,JL,al,es,sl,tn,ls,l8,z,nn,lfn]
 |ok g=>
  have vw':=vw;rw[hv]at vw';cases vw' with
  |ok kf' rf' ps' h=>
   have tn:ao cB 2 3 [s,(fs n).d]=.ok (frm kf' rf'):=Dr hs hv;have nn:isNon (frm kf' rf')=false:=rfl;have lfn:=Io h.1;cases z:decide (n<8)with
   |false=>
    refine⟨n,ss,fs,c,λk'=>?_⟩;unfold yE;generalize FL n fs=fl at *;generalize SL n ss=sl' at *;generalize frm kf' rf'=fr at *;simp! only[pk2,JL,al,es,sl,tn,ls,l8,z,nn,lfn]
   |true=>
    obtain⟨ss',fs',c',e1,e2⟩:=c.grow (of_decide_eq_true z) hs (f:=⟨kf',rf',ps'⟩) h;refine⟨n+1,ss',fs',c',λk'=>?_⟩;have ap1:=jG (xs:=(List.range n).map ss) (y:=s) (by rw[Nx,Ou];omega);have ap2:=jG (xs:=(List.range (n+1)).map λk=>(fs k).d) (y:=frm kf' rf') (by rw[Nx,Ou];omega);rw[e2]at ap1;have ap2:=ap2.trans (congrArg some e1);have mt3':∀(f:aW)(k:Ks)(x0 x1 x2:Option S)(ρ:av)(xs:List D),p8 3 gI f k (x0::x1::x2::some (.own (.lst xs))::ρ)=ll (f (x0::x1::x2::some (.own (.lst xs))::ρ)) k (x0::x1::x2::some (.own (.lst xs))::ρ) λds=>(rO (gI xs ds)).bind λys=>k.nx (x0::x1::x2::some (.own (.lst ys))::ρ):=λf k x0 x1 x2 ρ xs=>gF 3 gI f k _ rfl;have mt2':∀(f:aW)(k:Ks)(x0 x1:Option S)(ρ:av)(xs:List D),p8 2 gI f k (x0::x1::some (.own (.lst xs))::ρ)=ll (f (x0::x1::some (.own (.lst xs))::ρ)) k (x0::x1::some (.own (.lst xs))::ρ) λds=>(rO (gI xs ds)).bind λys=>k.nx (x0::x1::some (.own (.lst ys))::ρ):=λf k x0 x1 ρ xs=>gF 2 gI f k _ rfl;unfold yE;unfold FL at al ⊢;unfold SL at ls ⊢;generalize (List.range (n+1)).map (λk=>(fs k).d)=fl at *;generalize (List.range n).map ss=sl' at *;generalize (List.range (n+1+1)).map (λk=>(fs' k).d)=fl2 at *;generalize (List.range (n+1)).map ss'=sl2 at *;generalize frm kf' rf'=fr at *;simp! only[pk2,JL,MG,al,es,sl,tn,ls,l8,z,nn,lfn,ex,st,pk,A6,xj,BEq.rfl,mt3',mt2',ap1,ap2]
noncomputable def B4:bU:=aq (aL 4 (fR (ao bQ 2 2) (aa (af 0) (aa (fC (.int 3)) ah)))) (jM 2 (aq (aL 7 (fR (ao bV 3 4) (aa (f2 ak (af 2) (fC (.int 0))) (aa (fR (ao aA 2 3) (aa (af 4) (aa (fC (.int 50)) ah))) (aa (aS (af 0) (aY (fC (.int 28))) (aY (fC (.int 63)))) ah))))) (aq (aL 8 (fR (ao bV 3 4) (aa (f2 ak (af 2) (jH (fC (.int 1)))) (aa (fR (ao aA 2 3) (aa (af 4) (aa (fC (.int 51)) ah))) (aa (fU ah) ah))))) (aq (aL 9 (fR (ao bV 3 4) (aa (f2 ak (af 2) (jH (fC (.int 1)))) (aa (fR (ao aA 2 3) (aa (af 4) (aa (fC (.int 52)) ah))) (aa (fU ah) ah))))) (jM 3 (aq (aL 10 (fR (ao b8 3 5) (aa (af 3) (aa (af 2) (aa (af 7) ah))))) (aq (eN (oq (fB (mr (af 10))) (fB (f2 iI (fR (ao bG 4 6) (aa (af 3) (aa (af 2) (aa (af 7) (aa (af 10) ah))))) (af 7)))) (bu (fC (.bl false))) bz) (aq (aL 11 (fR (ao bG 4 6) (aa (af 3) (aa (af 2) (aa (af 7) (aa (af 8) ah)))))) (aq (aL 12 (fR (ao bG 4 6) (aa (af 3) (aa (af 2) (aa (af 7) (aa (af 9) ah)))))) (aq (eN (oq (fB (mr (af 11))) (oq (fB (mr (af 12))) (fB (f2 iI (f2 gd (af 11) (af 12)) (f2 gd (af 8) (af 9)))))) (bu (fC (.bl false))) bz) (aq (eN (oq (fB (f2 iI (fR (ao b8 3 5) (aa (af 3) (aa (af 2) (aa (af 11) ah)))) (af 8))) (fB (f2 iI (fR (ao b8 3 5) (aa (af 3) (aa (af 2) (aa (af 12) ah)))) (af 9)))) (bu (fC (.bl false))) bz) (bu (iB (f2 gd (fR (ao bG 4 6) (aa (af 3) (aa (af 2) (aa (af 11) (aa (af 9) ah))))) (af 12)) (f2 gd (fR (ao bG 4 6) (aa (af 3) (aa (af 2) (aa (bY ah) (aa (af 9) ah))))) (af 12)))))))))))))))
theorem Dk:lW=aq (aL 1 (fR (ao cA 2 10) (aa (fR (ao bQ 2 2) (aa (af 0) (aa (fC (.int 0)) ah))) (aa (fC (.int 20)) ah)))) (aq (jc 2 (fU (aa (fR (ao eG 2 9) (aa (af 0) (aa (af 1) ah))) ah))) (aq (jc 3 (fU ah)) (aq (iP (bO (aS (af 0) (aY (fC (.int 4))) (aY (fC (.int 28))))) (gN 4) yE) B4))):=rfl
theorem IC(ns:List Int):(cutD ns (some 28) (some 63)).length<=35:=by
 unfold cutD;have a:HT.sIx ns.length ns.length (some 63)=min 63 ns.length:=HT.JM _ _ 63;have b:HT.sIx ns.length 0 (some 28)=min 28 ns.length:=HT.JM _ _ 28;rw[NE,NT,a,b];omega
theorem Bf(ns:List Int){w:D}{n:Nat}{ss:Nat->D}{fs:Nat->F3}(c:Ch n ss fs):B4 K0 [‹.lst (ns.map .int)›,‹w›,some (.own (FL n fs)),some (.own (SL n ss)),none,none,none,none,none,none,none,none,none]=.ok (.bl true):=by
 classical
 obtain⟨c3,e3⟩:=TD.Jz ns 3 (by decide);obtain⟨x1,_,d1⟩:=dg c3 50 (by decide) (by decide);obtain⟨x2,_,d2⟩:=dg c3 51 (by decide) (by decide);obtain⟨x3,_,d3⟩:=dg c3 52 (by decide) (by decide);obtain⟨G,P,gp⟩:=c.gp;obtain⟨rows,t0,r0⟩:=qZ (c.fo 0 ‹0›) x1 (cutD ns (some 28) (some 63)) (IC ns);rw[<-qD]at r0;obtain⟨one,t1,r1⟩:=qZ (c.fo n ‹0›) x2 [] (by simp);obtain⟨two,t2,r2⟩:=qZ (c.fo n ‹0›) x3 [] (by simp);have r1:ao bV 3 4 [(fs n).d,.int x2,.lst []]=.ok (tbl one):=r1;have r2:ao bV 3 4 [(fs n).d,.int x3,.lst []]=.ok (tbl two):=r2;have a0:ak (FL n fs) (.int 0)=some (fs 0).d:=Fl 0 ‹0›;have al:=wy (n:=n) (fs:=fs);have tE:(fs 0).T []:=⟨by simp,(λr hr=>nomatch hr),List.Pairwise.nil⟩
 have tu:=gp.up t0 n (Nq n);have u1:=gp.dn t1 n (Nq n);have u2:=gp.dn t2 n (Nq n);rw[OV]at u1 u2;have s0:=n6 c gp t0;have b0:=kc c gp t0 tu;have q0:=EV gp t0 n (Nq n);rw[OV]at q0;have q0:dn P n n (up G n rows)=rows:=q0;rw[q0]at b0;have b1:=kc c gp t0 t1;have b2:=kc c gp t0 t2;have p1:=zy gp t1 n (Nq n);have p2:=zy gp t2 n (Nq n);rw[OV]at p1 p2;have p1:up G n (dn P n n one)=one:=p1;have p2:up G n (dn P n n two)=two:=p2;have s1:=n6 c gp u1;have s2:=n6 c gp u2;rw[p1]at s1;rw[p2]at s2;have b3:=kc c gp u1 t2;have b4:=kc c gp tE t2;have te:tbl []=.tup []:=rfl;rw[te]at b4;have eq0:=(kU t0 t0).2;have eq1:=(kU u1 u2).1;have eq2:=(kU t1 t2).1;have eq3:=(kU t1 t1).2;have eq4:=(kU t2 t2).2;have eq5:=(kU u2 u2).1;have iff:decide (dn P n n one=dn P n n two)=decide (one=two):=by
  rw[decide_eq_decide];exact⟨λz=>by rw[<-p1,<-p2,z],λz=>by rw[z]⟩
 rw[iff]at eq1;have n1:∀r:bw,isNon (tbl r)=false:=λ_=>rfl;have tt:∀r:bw,decide (r=r)=true:=λr=>decide_eq_true rfl;rw[tt]at eq0 eq3 eq4 eq5;unfold B4;generalize FL n fs=fl at *;generalize SL n ss=sl at *;generalize decide (one=two)=bq at *;generalize dn P n n one=v1 at *;generalize dn P n n two=v2 at *;generalize up G n rows=v0 at *;simp! only[e3,d1,d2,d3,a0,al,r0,EQ,r1,r2,s0,n1,b0,eq0,b1,b2,eq1,eq2,BEq.rfl,s1,s2,eq3,eq4,b3,b4,eq5,CM];rfl
theorem math(ns:List Int)(hl:ns.length<=63):ao lW 1 13 [.lst (ns.map .int)]=.ok (.bl true):=by
 obtain⟨c0,e0⟩:=TD.Jz ns 0 (by decide);obtain⟨ws,w1,w2,wn,ew⟩:=TD.BA c0 20 (by decide);have ew':ao cA 2 10 [.int c0,.int 20]=.ok (.lst (ws.map .str)):=ew;have hn:=wn (by decide);obtain⟨kf,rf,ps,fo,ef⟩:=DT ns ws w1 hn;have JK:∀a:D,jY [a]=some (.lst [a]):=λ_=>nr rfl;have tr:=λ{n ss fs}(c:Ch n ss fs) x=>turn (ns:=.lst (ns.map .int)) w1 c x;have lr:=λ{n ss fs}(c:Ch n ss fs)=>Bf ns (w:=.lst (ws.map .str)) c;rw[gB,Dk];generalize yE=LB at *;generalize B4=LT at *;simp! only[e0,ew',ef,JK,EQ,qD];refine fm (Q:=λz=>z=.ok (.bl true)) (λ_ ρ=>∃(n:Nat)(ss:Nat->D)(fs:Nat->F3),Ch n ss fs/\ρ=[‹.lst (ns.map .int)›,‹.lst (ws.map .str)›,some (.own (FL n fs)),some (.own (SL n ss)),none,none,none,none,none,none,none,none,none]) ?_ ?_ ?_
 ·rintro j d ρ k' hd ⟨n,ss,fs,c,rfl⟩;rw[NM]at hd;cases hx:(cutD ns (some 4) (some 28))[j]? with
  |none=>rw[hx]at hd;cases hd
  |some x=>
   rw[hx]at hd;cases hd;obtain⟨n',ss',fs',c',e⟩:=tr c x;exact⟨_,_,rfl,⟨n',ss',fs',c',rfl⟩,e k'⟩
 ·exact⟨0,λ_=>.non,λ_=>⟨kf,rf,ps⟩,⟨by omega,λk hk=>fo,λk hk=>absurd hk ‹0›,λk hk=>absurd hk ‹0›⟩,rfl⟩
 ·rintro ρ' ⟨n,ss,fs,c,rfl⟩;exact lr c
end Tk26
open PySem PySem.W PyProof.Rows
theorem PySem.W.Fast.tw967814927092111362 : True := trivial
theorem PySem.W.Fast.tw4317783828815207029 : True := trivial
theorem PySem.W.Fast.tw17261145781883406815 : True := trivial
theorem PySem.W.Fast.tw18115992631911903257 : True := trivial
theorem PySem.W.Fast.tw6943312926204300910 : True := trivial
theorem PySem.W.Fast.tw1651543711404379557 : True := trivial
theorem PySem.W.Fast.tw6262357611145949448 : True := trivial
theorem PySem.W.Fast.tw7504592972810916790 : True := trivial
theorem PySem.W.Fast.tw371805130859582483 : True := trivial
theorem PySem.W.Fast.tw13498915724632239792 : True := trivial
theorem PySem.W.Fast.tw1485526339732120322 : True := trivial
theorem PySem.W.Fast.tw6392809564353264487 : True := trivial
theorem PySem.W.Fast.tw11993086302551230774 : True := trivial
theorem PySem.W.Fast.tw14118872468727381591 : True := trivial
theorem PySem.W.Fast.tw7353164046604772164 : True := trivial
theorem PySem.W.Fast.tw16466121452328808857 : True := trivial
theorem PySem.W.Fast.tw6226219458806275321 : True := trivial
theorem PySem.W.Fast.tw658270484345140521 : True := trivial
theorem PySem.W.Fast.tw2319667954711264451 : True := trivial
theorem PySem.W.Fast.tw4592844814202128531 : True := trivial
theorem PySem.W.Fast.tw4024897470517156800 : True := trivial
theorem PySem.W.Fast.tw2081887154503943101 : True := trivial
theorem PySem.W.Fast.tw17021471085774611678 : True := trivial
theorem PySem.W.Fast.tw12872918542193926551 : True := trivial
theorem PySem.W.Fast.tw14846356555944729573 : True := trivial
theorem PySem.W.Fast.tw15042377876408274865 : True := trivial
theorem PySem.W.Fast.tw4594497211043174764 : True := trivial
theorem PySem.W.Fast.tw1459290111957937892 : True := trivial
theorem PySem.W.Fast.tw16509770475115280905 : True := trivial
theorem PySem.W.Fast.tw16525318903864126020 : True := trivial
theorem PySem.W.Fast.tw14915062041445924614 : True := trivial
theorem PySem.W.Fast.tw17021552536144851531 : True := trivial
theorem PySem.W.Fast.tw6046652628751502341 : True := trivial
theorem PySem.W.Fast.tw10719260572009811732 : True := trivial
theorem PySem.W.Fast.tw3697214676867022336 : True := trivial
theorem PySem.W.Fast.tw7413125102669943253 : True := trivial
theorem PySem.W.Fast.tw7378757477508669141 : True := trivial
theorem PySem.W.Fast.tw701784397985832496 : True := trivial
theorem PySem.W.Fast.tw3086255624528399283 : True := trivial
theorem PySem.W.Fast.tw16356887333522853659 : True := trivial
theorem PySem.W.Fast.tw835538818237401275 : True := trivial
theorem PySem.W.Fast.tw4361228133235868708 : True := trivial
theorem PySem.W.Fast.tw17907839807601069221 : True := trivial
theorem PySem.W.Fast.tw6286649584836664316 : True := trivial
theorem PySem.W.Fast.tw16257992197647757573 : True := trivial
theorem PySem.W.Fast.tw16428259245450414310 : True := trivial
theorem PySem.W.Fast.tw5353648978238392117 : True := trivial
theorem PySem.W.Fast.tw5533454247725392214 : True := trivial
theorem PySem.W.Fast.tw2634583662721827873 : True := trivial
theorem PySem.W.Fast.tw10435518655247221758 : True := trivial
theorem PySem.W.Fast.tw10157237914157823024 : True := trivial
theorem PySem.W.Fast.tw16953992050904863345 : True := trivial
theorem PySem.W.Fast.tw14735150199260294562 : True := trivial
theorem PySem.W.Fast.tw9583393894905165010 : True := trivial
theorem PySem.W.Fast.tw9688396047518270548 : True := trivial
theorem PySem.W.Fast.tw1066312123473071933 : True := trivial
theorem PySem.W.Fast.tw6118437758148937097 : True := trivial
theorem PySem.W.Fast.tw5569149869033817076 : True := trivial
theorem PySem.W.Fast.tw1897802745606516660 : True := trivial
theorem PySem.W.Fast.tw1974032337213550165 : True := trivial
theorem PySem.W.Fast.tw8589355571862260208 : True := trivial
theorem PySem.W.Fast.tw8263064470975541262 : True := trivial
theorem PySem.W.Fast.tw12786182754666127700 : True := trivial
theorem PySem.W.Fast.tw13020523451611897722 : True := trivial
theorem PySem.W.Fast.tw14322911488606433285 : True := trivial
theorem PySem.W.Fast.tw16890101534333688821 : True := trivial
theorem PySem.W.Fast.tw6026854846974739388 : True := trivial
theorem PySem.W.Fast.tw15793225006101051428 : True := trivial
theorem PySem.W.Fast.tw3201455875688846053 : True := trivial
theorem PySem.W.Fast.tw2130472545634977912 : True := trivial
theorem PySem.W.Fast.tw6223693141367594032 : True := trivial
theorem PySem.W.Fast.tw3925120907078063746 : True := trivial
theorem PySem.W.Fast.tw10258070860693858229 : True := trivial
theorem PySem.W.Fast.tw8991944354533376688 : True := trivial
theorem PySem.W.Fast.tw8995618359387802099 : True := trivial
theorem PySem.W.Fast.tw733338712098588488 : True := trivial
theorem PySem.W.Fast.tw6736185109616213730 : True := trivial
theorem PySem.W.Fast.tw17473523097217612003 : True := trivial
theorem PySem.W.Fast.tw10747494686248426906 : True := trivial
theorem PySem.W.Fast.tw15449481218121539827 : True := trivial
theorem PySem.W.Fast.tw14450617602068398570 : True := trivial
theorem PySem.W.Fast.tw2440849108311051259 : True := trivial
theorem PySem.W.Fast.tw1788850680592087754 : True := trivial
theorem PySem.W.Fast.tw13318802141475000482 : True := trivial
theorem PySem.W.Fast.tw11050448621623665690 : True := trivial
theorem PySem.W.Fast.tw3131958387637060563 : True := trivial
theorem PySem.W.Fast.tw10137558162953173128 : True := trivial
theorem PySem.W.Fast.tw12187698704463948281 : True := trivial
theorem PySem.W.Fast.tw9999335542661317445 : True := trivial
theorem PySem.W.Fast.tw3743537813853161419 : True := trivial
theorem PySem.W.Fast.tw8661085008734494104 : True := trivial
theorem PySem.W.Fast.tw5979539559520353725 : True := trivial
theorem PySem.W.Fast.tw4595978139536498107 : True := trivial
theorem PySem.W.Fast.tw18147934771183627978 : True := trivial
theorem PySem.W.Fast.tw1827777827227236238 : True := trivial
theorem PySem.W.Fast.tw14536352427152626928 : True := trivial
theorem PySem.W.Fast.tw6864975692055970515 : True := trivial
theorem PySem.W.Fast.tw7857442273494722623 : True := trivial
theorem PySem.W.Fast.tw1447009360586575560 : True := trivial
theorem PySem.W.Fast.tw9688943880348517018 : True := trivial
theorem PySem.W.Fast.tw6077527022588224633 : True := trivial
theorem PySem.W.Fast.tw16922846137329284534 : True := trivial
theorem PySem.W.Fast.tw4381176787950352211 : True := trivial
theorem PySem.W.Fast.tw15663650523218142169 : True := trivial
theorem PySem.W.Fast.tw12232110957676472903 : True := trivial
theorem PySem.W.Fast.tw10382494312209324150 : True := trivial
theorem PySem.W.Fast.tw8533047116457203289 : True := trivial
theorem PySem.W.Fast.tw2672516523969043185 : True := trivial
theorem PySem.W.Fast.tw4741292699147516747 : True := trivial
theorem PySem.W.Fast.tw10173499685650757667 : True := trivial
theorem PySem.W.Fast.tw6978026497495539374 : True := trivial
theorem PySem.W.Fast.tw12175269400536381789 : True := trivial
theorem PySem.W.Fast.tw11985225483267999532 : True := trivial
theorem PySem.W.Fast.tw12064009571896130711 : True := trivial
theorem PySem.W.Fast.tw18204477916042403865 : True := trivial
theorem PySem.W.Fast.tw18088834531830683233 : True := trivial
theorem PySem.W.Fast.tw17609124076889886409 : True := trivial
theorem PySem.W.Fast.tw6978805791761676722 : True := trivial
theorem PySem.W.Fast.tw14043690944780650984 : True := trivial
theorem PySem.W.Fast.tw11113254447089934915 : True := trivial
theorem PySem.W.Fast.tw12619169525668645116 : True := trivial
set_option maxRecDepth 100000 in
set_option maxHeartbeats 0 in
theorem PySem.Challenge.cw_twoglass_k26_whole_steps_that_hide_nothi_holds : PySem.Challenge.rw_twoglass_k26_whole_steps_that_hide_nothi.Holds := by
  w_on; o_law; k_head; (case hw => w_witness2)
  k_fill
  refine Tk26.walk (l := PySem.Challenge.rw_twoglass_k26_whole_steps_that_hide_nothi) rfl rfl (fun w h Y => ⟨PySem.W.km_in_of Y, PySem.W.km_tabs_of Y _ (List.Mem.head _)⟩) ?F Tk26.math
  case F =>
    intro w mg fa h KX G hmg
    refine' Tk26.all_mk KX G hmg ?ac0 ?ac1 ?ac2 ?ac3 ?a0 ?a0_3 ?i0 ?l0 ?c0 ?k0 ?a1 ?i1 ?l1 ?c1 ?k1 ?a2 ?l2 ?c2 ?k2 ?a3 ?i3 ?l3 ?c3 ?k3 ?a4 ?a4_3 ?i4 ?l4 ?c4 ?k4 ?a5 ?i5 ?l5 ?c5 ?k5 ?a6 ?i6 ?l6 ?c6 ?k6 ?a7 ?i7 ?l7 ?c7 ?k7 ?a8 ?i8 ?l8 ?c8 ?k8 ?a9 ?a9_1 ?a9_2 ?a9_3 ?i9 ?l9 ?c9 ?k9 ?a10 ?a10_1 ?a10_2 ?a10_3 ?i10 ?l10 ?c10 ?k10 ?a11 ?i11 ?l11 ?c11 ?k11 ?a12 ?i12 ?l12 ?c12 ?k12 ?a13 ?i13 ?l13 ?c13 ?k13 ?a14 ?i14 ?l14 ?c14 ?k14 ?a15 ?i15 ?l15 ?c15 ?k15 ?a16 ?l16 ?c16 ?k16 ?a17 ?i17 ?l17 ?c17 ?k17 ?a18 ?i18 ?l18 ?c18 ?k18 ?a19 ?i19 ?l19 ?c19 ?k19 ?p0 ?q0 ?r0 ?s0 ?n0_0 ?n0_1 ?n0_2 ?n0_3 ?m0 ?kp0 ?p1 ?q1 ?r1 ?s1 ?n1_0 ?n1_1 ?n1_2 ?n1_3 ?m1 ?kp1 ?p2 ?q2 ?r2 ?s2 ?p3 ?q3 ?r3 ?s3 ?n3_0 ?n3_1 ?m3 ?kp3 ?xa0 ?xa1 ?xa2 ?xa3 ?xa4 ?xa5 ?a20 ?i20 ?l20 ?c20 ?k20 ?xs3 ?xp3 ?xi3 ?xy3 ?xd3 ?xna3_0 ?xe0 ?xe1 ?xe2 ?xe4 ?xsg ?xtk ?xg0 ?xn0 ?xf0 ?xb0 ?xg2 ?xn2 ?xf2 ?xb2 ?xg1 ?xn1 ?xf1 ?xb1 ?xg4 ?xn4 ?xf4 ?xb4 ?xg3 ?xn3 ?xf3 ?xb3 ?xo0 ?xt0 ?xo1 ?xt1 ?xo2 ?xt2 ?xo3 ?xt3 ?xo4 ?xt4 ?xo5 ?xt5 ?xw5 ?xm5_0 ?xm5_2 ?xm5_1 ?xm5_4 ?xm5_3 ?dd0 ?zz ?ke0 ?ke1 ?ke2 ?lc ?lh ?lt
    (case ac0 => k_is)
    (case ac1 => k_is)
    (case ac2 => k_is)
    (case ac3 => k_is)
    (case a0 => k_is)
    (case a0_3 => k_is)
    (case i0 => k_is)
    (case l0 => delta TX.Lk; k_is)
    (case c0 => k_is)
    (case k0 => k_is)
    (case a1 => k_is)
    (case i1 => k_is)
    (case l1 => delta TX.Lk; k_is)
    (case c1 => k_is)
    (case k1 => k_is)
    (case a2 => k_is)
    (case l2 => delta TX.Lk; k_is)
    (case c2 => k_is)
    (case k2 => k_is)
    (case a3 => k_is)
    (case i3 => k_is)
    (case l3 => delta TX.Lk; k_is)
    (case c3 => k_is)
    (case k3 => k_is)
    (case a4 => k_is)
    (case a4_3 => k_is)
    (case i4 => k_is)
    (case l4 => delta TX.Lk; k_is)
    (case c4 => k_is)
    (case k4 => k_is)
    (case a5 => k_is)
    (case i5 => k_is)
    (case l5 => delta TX.Lk; k_is)
    (case c5 => k_is)
    (case k5 => k_is)
    (case a6 => k_is)
    (case i6 => k_is)
    (case l6 => delta TX.Lk; k_is)
    (case c6 => k_is)
    (case k6 => k_is)
    (case a7 => k_is)
    (case i7 => k_is)
    (case l7 => delta TX.Lk; k_is)
    (case c7 => k_is)
    (case k7 => k_is)
    (case a8 => k_is)
    (case i8 => k_is)
    (case l8 => delta TX.Lk; k_is)
    (case c8 => k_is)
    (case k8 => k_is)
    (case a9 => k_is)
    (case a9_1 => k_is)
    (case a9_2 => k_is)
    (case a9_3 => k_is)
    (case i9 => k_is)
    (case l9 => delta TX.Lk; k_is)
    (case c9 => k_is)
    (case k9 => k_is)
    (case a10 => k_is)
    (case a10_1 => k_is)
    (case a10_2 => k_is)
    (case a10_3 => k_is)
    (case i10 => k_is)
    (case l10 => delta TX.Lk; k_is)
    (case c10 => k_is)
    (case k10 => k_is)
    (case a11 => k_is)
    (case i11 => k_is)
    (case l11 => delta TX.Lk; k_is)
    (case c11 => k_is)
    (case k11 => k_is)
    (case a12 => k_is)
    (case i12 => k_is)
    (case l12 => delta TX.Lk; k_is)
    (case c12 => k_is)
    (case k12 => k_is)
    (case a13 => k_is)
    (case i13 => k_is)
    (case l13 => delta TX.Lk; k_is)
    (case c13 => k_is)
    (case k13 => k_is)
    (case a14 => k_is)
    (case i14 => k_is)
    (case l14 => delta TX.Lk; k_is)
    (case c14 => k_is)
    (case k14 => k_is)
    (case a15 => k_is)
    (case i15 => k_is)
    (case l15 => delta TX.Lk; k_is)
    (case c15 => k_is)
    (case k15 => k_is)
    (case a16 => k_is)
    (case l16 => delta TX.Lk; k_is)
    (case c16 => k_is)
    (case k16 => k_is)
    (case a17 => k_is)
    (case i17 => k_is)
    (case l17 => delta TX.Lk; k_is)
    (case c17 => k_is)
    (case k17 => k_is)
    (case a18 => k_is)
    (case i18 => k_is)
    (case l18 => delta TX.Lk; k_is)
    (case c18 => k_is)
    (case k18 => k_is)
    (case a19 => k_is)
    (case i19 => k_is)
    (case l19 => delta TX.Lk; k_is)
    (case c19 => k_is)
    (case k19 => k_is)
    (case p0 => k_is)
    (case q0 => k_is)
    (case r0 => k_is)
    (case s0 => k_is)
    (case n0_0 => k_is)
    (case n0_1 => k_is)
    (case n0_2 => k_is)
    (case n0_3 => k_is)
    (case m0 => k_is)
    (case kp0 => k_is)
    (case p1 => k_is)
    (case q1 => k_is)
    (case r1 => k_is)
    (case s1 => k_is)
    (case n1_0 => k_is)
    (case n1_1 => k_is)
    (case n1_2 => k_is)
    (case n1_3 => k_is)
    (case m1 => k_is)
    (case kp1 => k_is)
    (case p2 => k_is)
    (case q2 => k_is)
    (case r2 => k_is)
    (case s2 => k_is)
    (case p3 => k_is)
    (case q3 => k_is)
    (case r3 => k_is)
    (case s3 => k_is)
    (case n3_0 => k_is)
    (case n3_1 => k_is)
    (case m3 => k_is)
    (case kp3 => k_is)
    (case xa0 => k_is)
    (case xa1 => k_is)
    (case xa2 => k_is)
    (case xa3 => k_is)
    (case xa4 => k_is)
    (case xa5 => k_is)
    (case a20 => k_is)
    (case i20 => k_is)
    (case l20 => delta TX.Lk; k_is)
    (case c20 => k_is)
    (case k20 => k_is)
    (case xs3 => k_is)
    (case xp3 => k_is)
    (case xi3 => kernel_rfl)
    (case xy3 => kernel_rfl)
    (case xd3 => k_is)
    (case xna3_0 => k_is)
    (case xe0 => k_exc)
    (case xe1 => k_exc)
    (case xe2 => k_exc)
    (case xe4 => k_exc)
    (case xsg => k_is)
    (case xtk => k_is)
    (case xg0 => k_is)
    (case xn0 => k_is)
    (case xf0 => k_is)
    (case xb0 => k_is)
    (case xg2 => k_is)
    (case xn2 => k_is)
    (case xf2 => k_is)
    (case xb2 => k_is)
    (case xg1 => k_is)
    (case xn1 => k_is)
    (case xf1 => k_is)
    (case xb1 => k_is)
    (case xg4 => k_is)
    (case xn4 => k_is)
    (case xf4 => k_is)
    (case xb4 => k_is)
    (case xg3 => k_is)
    (case xn3 => k_is)
    (case xf3 => k_is)
    (case xb3 => k_is)
    (case xo0 => k_is)
    (case xt0 => k_is)
    (case xo1 => k_is)
    (case xt1 => k_is)
    (case xo2 => k_is)
    (case xt2 => k_is)
    (case xo3 => k_is)
    (case xt3 => k_is)
    (case xo4 => k_is)
    (case xt4 => k_is)
    (case xo5 => k_is)
    (case xt5 => k_is)
    (case xw5 => k_is)
    (case xm5_0 => k_is)
    (case xm5_2 => k_is)
    (case xm5_1 => k_is)
    (case xm5_4 => k_is)
    (case xm5_3 => k_is)
    (case ke0 => k_is)
    (case ke1 => k_is)
    (case ke2 => k_is)
    (case lc => rfl)
    (case lh => kernel_rfl)
    (case lt => kernel_rfl)
    case dd0 => (repeat (refine' TX.KDs.mk (TX.KD.mk ?a ?l ?c ?k) ?_;(case a|l|c|k => first|delta TX.Lk;k_is|k_is)));trivial
    case zz => (repeat (refine TX.KZs.mk (by k_is) ?_));trivial
