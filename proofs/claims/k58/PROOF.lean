import PyProof.Rows.All
import Wide.All
import OpenK.AllK
import Wide.FinOn
import Lean
import PyProof.EqAt
import PyProof.EqKinds
import PyProof.TupleCall
import PyProof.NeKinds
import PyProof.ZipIter
import PyProof.Draws
import PyProof.FactsAll.zip
import KE.KSortTup
import KE.KDictSum
import PyProof.TupleOfSeq
import PyProof.StrWalks
import PyProof.Rows.SetFrom
import KE.KRevIter
import PyProof.Rows.Range3
import KE.KTryMore
import KE.KIsNot
import PyProof.ExcArgsOwn
import PyProof.ExcAttrAll.ValueError
import PyProof.ExcBaseAll.ValueError
import PyProof.NsDelKeeps
import PyProof.Rows.CallKwBuiltin
import PyProof.WalkInts
import PyProof.Rows.Catch
import KE.KLam
import KE.KNestM
import PyProof.FactsAll.list_3
import KE.KDictList
import PyProof.Rows.CountFlat
import KE.KDictOf
import PyProof.AttrMissHeap
import PyProof.DictFindH
import PySem.Challenge.RW_twoglass_k58_whole_gathers_written
set_option Elab.async false
set_option linter.all false
set_option maxRecDepth 100000
local macro_rules|`(tactic|omega)=>`(tactic|first|lia|omega (config:={}))
open List renaming filterMap_cons→OT,mem_cons_self→OU,mem_cons_of_mem→OV,mem_append_left→OW,getElem?_set_self→OX,getElem?_set_ne→OY,mem_append_right→O2,size_toArray→O6,length_cons→O8,map_cons→O9,length_map→Pa,append_nil→Pj,of_mem_zip→Pl,length_take→Pm,getElem?_append_right→Pn,getElem?_replicate→Pp,getElem?_append_left→Pq,getElem?_map→Pr,take_sublist→Pt,mem_of_getElem?→Pu,length_append→Pw,length_drop→Py,length_singleton→PC,map_nil→PF,find?_cons→PH,any_cons→PJ,length_nil→PN,nodup_nil→PR,lookup_cons→PV,forIn_cons→PX,cons_append→P0,take_zero→P4,take_nil→P5,take_succ_cons→P6,drop_zero→P7,drop_nil→P8,drop_succ_cons→P9,all_cons→Qa,range_succ_eq_map→Qb,all_map→Qc,getElem?_eq_getElem→Qd,getElem_of_mem→Qh,nil_append→Qi,map_congr_left→Qj,map_append→Qk,length_range→Ql,take_length→Qm,getElem?_range→Qo,drop_eq_getElem_cons→Qp,append_assoc→Qr,drop_length→Qs,zipIdx_cons→Qu,mem_cons→Qv,not_mem_nil→Qw,getElem?_cons_zero→Qx,getElem?_cons_succ→Qy,contains_cons→QD,zip_cons_cons→QF,nodup_append→QG,replicate_zero→QI,zip_nil_right→QJ,replicate_succ→QK,foldl_cons→QL,not_lt_nil→QM,nil_lt_cons→QN,cons_lt_cons_iff→QO,pairwise_singleton→QQ,filter_cons_of_pos→QR,filter_cons_of_neg→QS,getElem_mem→QT,pairwise_map→QU,getD_eq_getElem?_getD→QV,map_map→QW,any_map→QX,toList_toArray→QY,getElem?_eq_none→Ra,take_of_length_le→Rb,mem_singleton→Rc,foldl_nil→Ri,find?_cons_of_pos→Rj,find?_cons_of_neg→Rl,drop_eq_nil_of_le→Rn,set_cons_zero→Ro,set_cons_succ→Rp,foldl_append→Rv,filter_append→Rx,any_eq_true→Ry,mem_nil_iff→Rz,take_succ_eq_append_getElem→RA,take_left'→RB,length_filter_le→RC,take_take→RD,mem_of_mem_take→RE,length_zipIdx→RG,filter_congr→RK,drop_left'→RL,take_length_add_append→RM,map_id'→RN,flatMap_cons→RO,flatMap_append→RP,dropLast_concat→RQ,take_append_of_le_length→RT,filter_sublist→RU,take_append_drop→RV
open Int renaming natCast_nonneg→O3,fdiv_eq_ediv_of_nonneg→O5,toNat_natCast→Px,emod_nonneg→Rt,emod_lt_of_pos→Ru,toNat_of_nonneg→RH
open Nat renaming lt_of_lt_of_le→OL,lt_irrefl→OM,ne_of_lt→OO,le_trans→OQ,le_of_lt→OS,ne_of_gt→OZ,le_refl→O1,le_of_eq→Pb,zero_le→Ph,le_succ→Pk,lt_trans→PQ,lt_succ_of_lt→PZ,min_self→Qe,sub_zero→Qn,lt_of_le_of_lt→Qq,le_add_right→Qz,add_lt_add_left→QA,lt_add_of_pos_right→QB,zero_add→QC,sub_self→QH,lt_trichotomy→QP,lt_or_ge→QZ,le_total→Rf,min_eq_left→Rg,min_eq_right→Rh
open Bool renaming false_and→O0,false_ne_true→O7,and_eq_true→Pz,and_false→PD,true_or→PK,false_or→PL,false_eq_true→PY,and_true→Qf,or_eq_true→Qg,or_eq_false_iff→QE,not_eq_true'→Rm,not_true→Rq,not_false→Rr,eq_iff_iff→RF,true_and→RJ
open Option renaming getD_none→PB,isSome_map→PP,getD_some→Qt
open PySem renaming Value→S9,NameKind→Tc,Addr→Td,Expr→Te,Stmt→Tf,Shared→Tg,World→Th,Program→Ti,Paired→Tj,Heap→Tl,sizeLine→Tn,mainGlobals→Tp,builtinsNs→Tq,bootBuiltins→Tr,Around→Ts,Scope→Tt,wpAny→Tu,starEach→Tv,wpAny_mono→Tx,wpAny_Name→Tz,wpAny_truthy_bool→TB,wpAny_execs_nil→TC,wpAny_pure→TF,wpAny_bind→TH,wpAny_pyIter_list→TJ,PassesOwn→TK,foldedSetIterable→TL,wpAny_passesOwn→TN,binaryOp→TQ,compareOp→TR,CmpOp→TU,behindInMarks→TV,sizeLine_eq→TY,codeAny→TZ,callWith→T1,keywordEach→T2,recursionLimit→T3,cLine→T5,FuncData→T6,BindsTo→T7,codeAny_mono→T8,wpAny_Call_Name_kw→T9,Arguments→Ua,concat_meets→Ub,noFill_tuple_add→Uc,seq_tuple_add→Ud,IsPart→Ue,wpAny_field→Ug,wpAny_holding→Uh,wpAny_callSpecial?_slot→Ui,wpAny_call_entry→Uj,wpAny_typeOf→Uk,wpAny_newObj_type→Ul,evalPart_none→Um,attributeBase→Uq,Keyword→Ur,tupleKind_room_in1→Us,wpAny_standAt→Ut,wpAny_comprehension_free→Uu,wpAny_rule→Uv,wpAny_getItem_str_slice→Uw,post_val_or_str→Ux,wpAny_seqItems→Uy,wpAny_setField→Uz,wpAny_handled→UA,IsZip→UB,IsPair→UC,wpAny_setField_rec→UD,wpAny_onRaise→UE,wpAny_updateSeq_pair→UG,wpAny_letGo→UH,wpAny_newTuple→UI,wpAny_attempt→UJ,wpAny_isInstance→UK,isSubtype_stop→UL,wpAny_newList→UR,wpAny_collect_seq→UT,wpAny_notOrdered_dict→UV,wpAny_dictEntries→UW,DictEntry→UX,wpAny_dictEpoch→UY,IsItemIter→UZ,IsItemIterOut→U0,wpAny_typeNameOfWhole_itemiter→U1,wpAny_typeNameOf_itemiter→U2,wpAny_fieldsOf→U3,wpAny_isOneOf_itemiter→U4,wpAny_typeNameOfWhole_keyiter→U5,wpAny_typeNameOf_keyiter→U6
open PySem.W renaming instObj→RW,methodObj→RX,Frag→RY,lookIn→RZ,plainGet→R3,findIn→R4,isFn→R5,plainGet_of→R6,plainOver→R7,takerIn→R8,hasDictIn→R9,makesIn→Sa,emptyDict→Sb,keepIn→Sd,callWith_K→Se,cellsFrom_some→Sf,fnOf→Sg,codeIn→Si,nsIn→Sj,kitOne→Sl,kia_one→Sn,BoolBack→Sq,tabObj→Sr,OpenLaw→Ss,kdl_call→Su,mg_of→Sv,codeHdIn→Sw,kas_ask→UN,kla_obj→UU
open PySem.Heap renaming lt_size→Sx,get?_none_of_le→Sy,SameBut→Sz,get?_push_of_some→SA,get?_push_size→SD,size_push→SE,get?_update_self→SF,ExtBut→SG,get?_push_ne→SH,size_update→SJ,get?_update_ne→SK
open PyProof.Rows renaming callWith_type1→SL,slot_tuple_getitem→SM,envOfC→SN,IsTup→SR,Call_→SU,boot_list→SV,boot_int→SW,boot_tuple→SY,IsTup→To,Subscript_→Uo,SortKind→UM,listUpdate_at→UO,get?_update_seq→UP,seqEpoch_at→UQ
open PySem.F renaming slot_tuple_add→SZ,entry_tuple_add→S4,args_tuple_add_2→S5,slot_dict_get→S6,entry_dict_get→S7,args_dict_get_3→S8
set_option maxHeartbeats 1000000
local macro_rules | `(‹0›)=>`(by omega)
namespace L2
open PySem PySem.Spec PyProof.Rows
noncomputable abbrev gA:=List (Option Nat)
noncomputable abbrev cj:=Str->Option S9
noncomputable abbrev qu:=List (Str×Tc)
noncomputable abbrev bc:=List (Td×Obj)
noncomputable abbrev mO:=List (Str×Td)
noncomputable abbrev bz:=List Te
noncomputable abbrev eE:=List Tf
noncomputable abbrev aU:=List S9
noncomputable abbrev bM:=List Bool
noncomputable abbrev ax:=List Td
noncomputable abbrev dR:=Option Int
noncomputable abbrev eD:=Array S9
noncomputable abbrev bq:=S9->Tg->Prop
noncomputable abbrev cQ:=Tg->Prop
noncomputable abbrev ay:=List Str
noncomputable abbrev Key:=Sum Int Str
noncomputable abbrev cP:=List Key
noncomputable def ox:Key->S9->Bool
 |.inl k,v=>Value.isInt k v
 |.inr x,v=>Value.isStrOf x v
noncomputable def Nh(w:Th):Key->Int
 |.inl k=>hashInt k
 |.inr x=>hashStr w x
theorem cD:∀{k:Key}{v:S9},ox k v=true->(∃i t,k=Sum.inl i/\v=Value.int i t)\/(∃x t,k=Sum.inr x/\v=Value.str x t)
 |.inl i,v,h=>by
  obtain⟨t,e⟩:=Value.isInt_shape (k:=i) (v:=v) h;exact .inl ⟨i,t,rfl,e⟩
 |.inr x,v,h=>by
  obtain⟨t,e⟩:=Value.isStrOf_shape (x:=x) (v:=v) h;exact .inr ⟨x,t,rfl,e⟩
theorem Ad(i:Int)(t:Tok):ox (.inl i) (.int i t)=true:=by simp[ox,Value.isInt]
theorem yU(x:Str)(t:Tok):ox (.inr x) (.str x t)=true:=by simp[ox,Value.isStrOf]
theorem Jh(a b:Int):decide ((Sum.inl a:Key)=Sum.inl b)=(a==b):=by
 by_cases e:a=b
 ·subst e;simp
 ·have h:¬(Sum.inl a:Key)=Sum.inl b:=λq=>e (Sum.inl.inj q);rw[decide_eq_false h];exact(beq_eq_false_iff_ne.mpr e).symm
theorem Hu(a b:Str):decide ((Sum.inr a:Key)=Sum.inr b)=decide (a=b):=by
 by_cases e:a=b
 ·subst e;simp
 ·have h:¬(Sum.inr a:Key)=Sum.inr b:=λq=>e (Sum.inr.inj q);rw[decide_eq_false h,decide_eq_false e]
theorem Jg(a:Int)(b:Str):decide ((Sum.inl a:Key)=Sum.inr b)=false:=decide_eq_false (λq=>nomatch q)
theorem Il(a:Str)(b:Int):decide ((Sum.inr a:Key)=Sum.inl b)=false:=decide_eq_false (λq=>nomatch q)
noncomputable def bP(prog:Ti)(w:Th):PySem.KeyKind prog w Key where
 is:=ox
 hash:=Nh w
 inj:=λv a b ha hb=>by
  rcases cD ha with⟨i,t,rfl,rfl⟩|⟨x,t,rfl,rfl⟩
  ·rcases cD hb with⟨j,u,rfl,e⟩|⟨y,u,rfl,e⟩
   ·injection e with e1 _;rw[e1]
   ·exact nomatch e
  ·rcases cD hb with⟨j,u,rfl,e⟩|⟨y,u,rfl,e⟩
   ·exact nomatch e
   ·injection e with e1 _;rw[e1]
 byValue:=λk v h=>by
  rcases cD h with⟨i,t,rfl,rfl⟩|⟨x,t,rfl,rfl⟩<;>rfl
 pyHash:=λhv h=>by
  rcases cD hv with⟨i,t,rfl,rfl⟩|⟨x,t,rfl,rfl⟩
  ·exact wpAny_pyHash_int h
  ·exact wpAny_pyHash_str h
 eqBool:=λhu hv h=>by
  rcases cD hu with⟨i,t,rfl,rfl⟩|⟨x,t,rfl,rfl⟩
  ·rcases cD hv with⟨j,u,rfl,rfl⟩|⟨y,u,rfl,rfl⟩
   ·rw[Jh]at h;exact wpAny_eqBool_int h
   ·rw[Jg]at h;exact SeqAt.EqAt.int_str i t y u _ _ _ _ h
  ·rcases cD hv with⟨j,u,rfl,rfl⟩|⟨y,u,rfl,rfl⟩
   ·rw[Il]at h;exact SeqAt.EqAt.str_int x t j u _ _ _ _ h
   ·rw[Hu]at h;exact wpAny_eqBool_str h
 «strs»:=λk x t v h=>by
  rcases cD h with⟨i,u,rfl,e⟩|⟨y,u,rfl,e⟩
  ·exact nomatch e
  ·injection e with e1 _;subst e1;cases v<;>rfl
theorem wW(prog:Ti)(w:Th)(k:Key)(v:S9):(bP prog w).is k v=ox k v:=rfl
theorem vf(prog:Ti)(w:Th)(i:Int)(t:Tok):(bP prog w).is (.inl i) (.int i t)=true:=Ad i t
theorem vJ(prog:Ti)(w:Th)(x:Str)(t:Tok):(bP prog w).is (.inr x) (.str x t)=true:=yU x t
inductive V where
 |non|bl (b:Bool)|int (i:Int)|str (x:Str)|byt (b:Array UInt8)|flt (b:UInt64)|ref (a:Td)|ty (n:String)
 deriving DecidableEq
noncomputable abbrev aK:=List V
noncomputable def RelV:V->S9->Prop
 |.non,u=>u=Value.none
 |.bl b,u=>u=Value.bool b
 |.int i,u=>∃t,u=Value.int i t
 |.str x,u=>∃t,u=Value.str x t
 |.byt b,u=>∃t,u=Value.bytes b t
 |.flt b,u=>∃t,u=Value.float b t
 |.ref a,u=>u=Value.ref a
 |.ty n,u=>u=Value.type n
noncomputable abbrev Vals:aK->aU->Prop:=Tj RelV
theorem Vals.length{xs:aK}{us:aU}(r:Vals xs us):xs.length=us.length:=Paired.length r
theorem Vals.get:∀{xs:aK}{us:aU}{i:Nat}{x:V},Vals xs us->xs[i]?=some x->∃u,us[i]?=some u/\RelV x u
 |_,_,_,_,.nil,e=>by simp at e
 |_,_,0,_,.cons r _,e=>by simp at e;subst e;exact⟨_,rfl,r⟩
 |_,_,i+1,x,.cons _ t,e=>by
  obtain⟨u,h1,h2⟩:=Vals.get (i:=i) (x:=x) t (by simpa using e);exact⟨u,by simpa using h1,h2⟩
theorem Vals.append:∀{xs ys:aK}{us ws:aU},Vals xs us->Vals ys ws->Vals (xs++ys) (us++ws)
 |_,_,_,_,.nil,s=>s
 |_,_,_,_,.cons r t,s=>.cons r (Vals.append t s)
theorem Vals.take:∀{xs:aK}{us:aU}(n:Nat),Vals xs us->Vals (xs.take n) (us.take n)
 |_,_,0,_=>.nil
 |_,_,_+1,.nil=>.nil
 |_,_,n+1,.cons r t=>.cons r (Vals.take n t)
theorem Vals.drop:∀{xs:aK}{us:aU}(n:Nat),Vals xs us->Vals (xs.drop n) (us.drop n)
 |_,_,0,r=>r
 |_,_,_+1,.nil=>.nil
 |_,_,n+1,.cons _ t=>Vals.drop n t
noncomputable def oU:Option V->Option S9->Prop
 |some v,some u=>RelV v u
 |none,none=>True
 |_,_=>False
noncomputable def KV{κ:Type}:List (κ×V)->List (κ×S9)->Prop:=Tj λ(p:κ×V)(q:κ×S9)=>p.1=q.1/\RelV p.2 q.2
noncomputable def kV:Key->V
 |.inl i=>.int i
 |.inr x=>.str x
inductive HO where
  |lst (xs:aK)
  |tup (xs:aK)
  |dK (kvs:List (Key×V))|dT (kvs:List (List Key×V))
  |set (S:Int->Bool) (n:Nat)
  |ins (C dx:Td) (fs:List (Str×V))
  |own (x:Td)
  |xd (fs:List (Str×V))
  |met (f x:Td)
  |rng (lo hi:Int)
  |frz (o:Obj) (u:HO)
  |tbl (ps:eD)
  |ext (φ:(Td->Prop)->Tl->Prop)
noncomputable abbrev Hp:=Td->Option HO
noncomputable def upd(H:Hp)(a:Td)(o:HO):Hp:=λb=>if b=a then some o else H b
theorem av{H:Hp}{a:Td}{o:HO}:upd H a o a=some o:=by unfold upd;rw[if_pos rfl]
theorem ao{H:Hp}{a b:Td}{o:HO}(h:b≠a):upd H a o b=H b:=by unfold upd;rw[if_neg h]
theorem A9{H:Hp}{a b:Td}{o u:HO}(h:H a=some o)(h':H b=some u)(d:o≠u):a≠b:=by
 intro e;subst e;rw[h]at h';exact d (Option.some.inj h')
theorem aD{H:Hp}{a b:Td}{o:HO}(h:H a=some o)(h':H b=none):a≠b:=by
 intro e;subst e;rw[h]at h';cases h'
section
variable(P:Ti)(w:Th)
noncomputable def b7(H:Hp)(h:Tl)(a:Td):HO->Prop
 |.lst xs=>xs.length<=Tn/\∃(its:aU)(n:Nat),Vals xs its/\h.get? a=some {cls:=.type "list",data:=.seq its.toArray n}
 |.tup xs=>xs.length<=Tn/\∃its:aU,Vals xs its/\To h a its.toArray
 |.dK kvs=>kvs.length<=Tn/\(a==sysModules)=false/\∃vs,KV kvs vs/\h.DictOf (bP P w) a vs
 |.dT kvs=>kvs.length<=Tn/\(a==sysModules)=false/\∃xs:List (List Key×Td×S9),
   Tj (λ(p:List Key×V)(q:List Key×Td×S9)=>p.1=q.1/\H q.2.1=some (.tup (p.1.map kV))/\RelV p.2 q.2.2) kvs xs/\
   ∃o es ep,h.get? a=some o/\o.ExactDict/\o.data=.dict es ep/\es.toList=xs.map (entryOfKey (tupleKind (bP P w)))/\(xs.map (·.1)).Nodup
 |.set S n=>h.SetOf (intKind P w) a S n
 |.ins C dx fs=>H dx=some (.own a)/\fs.length<=1000/\dx≠a/\h.get? a=some (RW C dx)/\
   ∃mA,h.Ns1 dx mA/\(∀f,oU (fs.lookup f) (mA f))/\PySem.Within mA (fs.map (·.1))
 |.own _=>∃o,h.get? a=some o
 |.xd fs=>∃mA,h.Ns1 a mA/\∀f,oU (fs.lookup f) (mA f)
 |.rng lo hi=>∃t u v,h.get? a=some {cls:=.type "range",data:=.fields #[.int lo t,.int hi u,.int 1 v]}
 |.frz o u=>h.get? a=some o/\b7 H h a u
 |.tbl ps=>h.get? a=some {cls:=.none,data:=.fields ps}
 |.met f x=>h.get? a=some (RX (.ref f) (.ref x))
 |.ext φ=>φ (λb=>H b=some (.own a)) h/\(∃o,h.get? a=some o)/\∀(S1 S2:Td->Prop)(h1 h2:Tl),φ S1 h1->(∀b,S1 b->S2 b)->(∀b o,(b=a\/S1 b)->h1.get? b=some o->h2.get? b=some o)->φ S2 h2
noncomputable def mQ(H:Hp)(h:Tl):Prop:=∀a o,H a=some o->b7 P w H h a o
end
section
variable{P:Ti}{w:Th}{H H':Hp}{h h':Tl}{a:Td}{o:HO}
theorem b7.lt(x:b7 P w H h a o):a<h.objs.size:=by
 cases o with
 |lst xs=>obtain⟨_,_,_,_,e⟩:=x;exact Sx e
 |tup xs=>obtain⟨_,_,_,p⟩:=x;exact p.lt
 |dK kvs=>obtain⟨_,_,_,_,o,_,_,e,_⟩:=x;exact Sx e
 |dT kvs=>obtain⟨_,_,_,_,o,_,_,e,_⟩:=x;exact Sx e
 |set S n=>obtain⟨o,_,_,_,e,_⟩:=x;exact Sx e
 |ins C dx fs=>obtain⟨_,_,_,e,_⟩:=x;exact Sx e
 |own y=>obtain⟨_,e⟩:=x;exact Sx e
 |xd fs=>obtain⟨_,⟨_,_,_,e,_⟩,_⟩:=x;exact Sx e
 |rng lo hi=>obtain⟨_,_,_,e⟩:=x;exact Sx e
 |frz ob u=>obtain⟨e,_⟩:=x;exact Sx e
 |tbl ps=>exact Sx (show h.get? a=some _ from x)
 |met f y=>exact Sx (show h.get? a=some _ from x)
 |ext φ=>obtain⟨_,⟨_,e⟩,_⟩:=x;exact Sx e
theorem Paired.mapP{α β:Type}{F G:α->β->Prop}:∀{l₁:List α}{l₂:List β},Tj F l₁ l₂->(∀a b,F a b->G a b)->Tj G l₁ l₂
 |_,_,.nil,_=>.nil
 |_,_,.cons r t,f=>.cons (f _ _ r) (Paired.mapP t f)
theorem b7.stay(x:b7 P w H h a o)(k:∀b u,(b=a\/H b=some (.own a))->h.get? b=some u->h'.get? b=some u)
  (ho:∀b,H b=some (.own a)->H' b=some (.own a)) (ht:∀b xs,H b=some (.tup xs)->H' b=some (.tup xs)):b7 P w H' h' a o:=by
 induction o with
 |lst xs=>obtain⟨z,its,n,r,e⟩:=x;exact⟨z,its,n,r,k _ _ (.inl rfl) e⟩
 |tup xs=>obtain⟨z,its,r,ob,e,c⟩:=x;exact⟨z,its,r,ob,k _ _ (.inl rfl) e,c⟩
 |dK kvs=>obtain⟨z,y,vs,r,ob,es,ep,e,c⟩:=x;exact⟨z,y,vs,r,ob,es,ep,k _ _ (.inl rfl) e,c⟩
 |dT kvs=>
  obtain⟨z,y,xs,r,ob,es,ep,e,c⟩:=x;exact⟨z,y,xs,Paired.mapP r λp q z=>⟨z.1,ht _ _ z.2.1,z.2.2⟩,ob,es,ep,k _ _ (.inl rfl) e,c⟩
 |set S n=>obtain⟨ob,es,ep,t,e,c⟩:=x;exact⟨ob,es,ep,t,k _ _ (.inl rfl) e,c⟩
 |ins C dx fs=>
  obtain⟨d,z,ne,e,mA,⟨od,es,ep,e2,c⟩,r⟩:=x;exact⟨ho _ d,z,ne,k _ _ (.inl rfl) e,mA,⟨od,es,ep,k _ _ (.inr d) e2,c⟩,r⟩
 |own y=>obtain⟨ob,e⟩:=x;exact⟨ob,k _ _ (.inl rfl) e⟩
 |xd fs=>obtain⟨mA,⟨od,es,ep,e,c⟩,r⟩:=x;exact⟨mA,⟨od,es,ep,k _ _ (.inl rfl) e,c⟩,r⟩
 |rng lo hi=>obtain⟨t,u,v,e⟩:=x;exact⟨t,u,v,k _ _ (.inl rfl) e⟩
 |frz ob u ih=>obtain⟨e,q⟩:=x;exact⟨k _ _ (.inl rfl) e,ih q⟩
 |tbl ps=>
  have e:h.get? a=some {cls:=.none,data:=.fields ps}:=x;show h'.get? a=some {cls:=.none,data:=.fields ps};exact k a _ (.inl rfl) e
 |met f y=>
  have e:h.get? a=some (RX (.ref f) (.ref y)):=x;show h'.get? a=some (RX (.ref f) (.ref y));exact k a _ (.inl rfl) e
 |ext φ=>obtain⟨p,⟨o,e⟩,st⟩:=x;exact⟨st _ _ _ _ p ho k,⟨o,k _ _ (.inl rfl) e⟩,st⟩
theorem mQ.lt(x:mQ P w H h)(e:H a=some o):a<h.objs.size:=(x a o e).lt
theorem mQ.fresh(x:mQ P w H h)(e:h.objs.size<=a):H a=none:=by
 cases q:H a with
 |none=>rfl
 |some u=>exact absurd (OL (x.lt q) e) (OM _)
theorem mQ.kept(x:mQ P w H h)(k:∀b u,h.get? b=some u->h'.get? b=some u):mQ P w H h':=λa o e=>
 (x a o e).stay (λb u _ q=>k b u q) (λ_ q=>q) λ_ _ q=>q
theorem mQ.laid(x:mQ P w H h)(k:∀b u,h.get? b=some u->h'.get? b=some u)(hp:h.objs.size<=a)(new:b7 P w (upd H a o) h' a o):mQ P w (upd H a o) h':=λb u e=>by
 have hn:=x.fresh hp;by_cases hb:b=a
 ·subst hb;rw[av]at e;cases e;exact new
 ·rw[ao hb]at e;exact(x b u e).stay (λc v _ q=>k c v q) (λc q=>by rw[ao (aD q hn)];exact q) λc xs q=>by rw[ao (aD q hn)];exact q
end
noncomputable def Rd(H:Hp)(a:Td)(u:HO):Prop:=H a=some u\/∃o,H a=some (.frz o u)
theorem Rd.ok{P:Ti}{w:Th}{H:Hp}{h:Tl}{a:Td}{u:HO}(r:Rd H a u)(x:mQ P w H h):b7 P w H h a u:=by
 rcases r with r|⟨o,r⟩
 ·exact x a u r
 ·obtain⟨_,q⟩:=x a _ r;exact q
noncomputable def JS:Option HO->Prop
 |some (.lst _)=>True
 |some (.dK _)=>True
 |some (.dT _)=>True
 |some (.set _ _)=>True
 |some (.ins _ _ _)=>True
 |some (.ext _)=>True
 |_=>False
section
variable{P:Ti}{w:Th}{H:Hp}{h h':Tl}{x e:Td}{o':HO}
theorem mQ.write(ok:mQ P w H h)(mu:JS (H x))(he:e=x\/H e=some (.own x))(k:∀b u,b≠e->h.get? b=some u->h'.get? b=some u)(heo:∃u,h'.get? e=some u)
  (new:b7 P w (upd H x o') h' x o'):mQ P w (upd H x o') h':=λb u q=>by
 have nown:∀c y,H c=some (.own y)->c≠x:=λc y r z=>by subst z;rw[r]at mu;exact mu
 have ntup:∀c xs,H c=some (.tup xs)->c≠x:=λc xs r z=>by subst z;rw[r]at mu;exact mu
 by_cases hb:b=x
 ·subst hb;rw[av]at q;cases q;exact new
 ·rw[ao hb]at q;by_cases hbe:b=e
  ·have q':H b=some (.own x):=by
    rcases he with z|z
    ·exact absurd (hbe.trans z) hb
    ·rw[hbe];exact z
   rw[q]at q';cases q';obtain⟨v,hv⟩:=heo;exact⟨v,by rw[hbe];exact hv⟩
  ·refine(ok b u q).stay (λc v hc r=>k c v ?_ r) (λc r=>by rw[ao (nown c b r)];exact r) λc xs r=>by rw[ao (ntup c xs r)];exact r
   rcases hc with rfl|hc
   ·exact hbe
   ·rintro rfl;rcases he with z|z
    ·exact nown c b hc z
    ·rw[hc]at z;cases z;exact hb rfl
end
structure Un(fs ex:ax)(H H':Hp)(h h':Tl):Prop where
 keep:∀b o,h.get? b=some o->H b=none->b∉fs->b∉ex->h'.get? b=some o
 slot:∀b o,h.get? b=some o->H b=none->b∈fs->b∉ex->∃sl,h'.get? b=some {o with slots:=sl}
 free:∀b o,h.get? b=some o->H b=none->b∉ex->H' b=none
 there:∀b o,h.get? b=some o->b∉ex->∃o',h'.get? b=some o'
 tups:∀b xs,H b=some (.tup xs)->H' b=some (.tup xs)
 frzs:∀b o u,H b=some (.frz o u)->H' b=some (.frz o u)
 tbls:∀b ps,H b=some (.tbl ps)->∃more,H' b=some (.tbl (ps++more))
section
variable{fs fs' ex ex':ax}{H H1 H2:Hp}{h h1 h2 h':Tl}{a x e:Td}{o:HO}
theorem Un.any(u:Un fs ex H H1 h h1){b:Td}{ob:Obj}(q:h.get? b=some ob)(n:H b=none)(hx:b∉ex):∃sl,h1.get? b=some {ob with slots:=sl}:=by
 by_cases hb:b∈fs
 ·exact u.slot b ob q n hb hx
 ·exact⟨ob.slots,u.keep b ob q n hb hx⟩
theorem Un.kept(k:∀b u,h.get? b=some u->h'.get? b=some u):Un fs ex H H h h':=
 ⟨λb ob q _ _ _=>k b ob q,λb ob q _ _ _=>⟨ob.slots,k b ob q⟩,λ_ _ _ n _=>n,λb ob q _=>⟨ob,k b ob q⟩,λ_ _ q=>q,λ_ _ _ q=>q,λ_ ps q=>⟨#[],by rw[q];simp⟩⟩
theorem Un.refl:Un fs ex H H h h:=Un.kept λ_ _ q=>q
theorem Un.laid(k:∀b u,h.get? b=some u->h'.get? b=some u)(hp:h.objs.size<=a)(hn:H a=none):Un fs ex H (upd H a o) h h' where
 keep:=λb u q _ _ _=>k b u q
 slot:=λb u q _ _ _=>⟨u.slots,k b u q⟩
 free:=λb u q n _=>by rw[ao (OO (OL (Sx q) hp))];exact n
 there:=λb u q _=>⟨u,k b u q⟩
 tups:=λb xs q=>by rw[ao (aD q hn)];exact q
 frzs:=λb u xs q=>by rw[ao (aD q hn)];exact q
 tbls:=λb ps q=>⟨#[],by rw[ao (aD q hn),q];simp⟩
theorem Un.write(mu:JS (H x))(he:e=x\/H e=some (.own x))(k:∀b u,b≠e->h.get? b=some u->h'.get? b=some u)(heo:∃u,h'.get? e=some u):Un fs ex H (upd H x o) h h':=by
 have hx:∀b,H b=none->b≠x:=λb n z=>by subst z;rw[n]at mu;exact mu
 have hb:∀b,H b=none->b≠e:=λb n z=>by
  subst z;rcases he with r|r
  ·exact hx b n r
  ·rw[n]at r;cases r
 have hm:∀b u,H b=some u->¬JS (some u)->b≠x:=λb u q nm z=>by subst z;rw[q]at mu;exact nm mu
 refine⟨λb u q n _ _=>k b u (hb b n) q,λb u q n _ _=>⟨u.slots,k b u (hb b n) q⟩,λb u q n _=>by rw[ao (hx b n)];exact n,λb u q _=>?_,
  λb xs q=>by rw[ao (hm b _ q λz=>z)];exact q,λb u xs q=>by rw[ao (hm b _ q λz=>z)];exact q,λb ps q=>⟨#[],by rw[ao (hm b _ q λz=>z),q];simp⟩⟩
 by_cases hbe:b=e
 ·subst hbe;exact heo
 ·exact⟨u,k b u hbe q⟩
end
noncomputable def La(h:Tl)(H:Hp):ax:=(List.range h.objs.size).filter λa=>(H a).isSome
noncomputable def tZ(h:Tl)(H:Hp):Tl:=PySem.W.hideAll h (La h H)
theorem AH(h:Tl)(H:Hp):(tZ h H).objs.size=h.objs.size:=PySem.W.hideAll_size _ _
theorem pR{h:Tl}{H:Hp}{b:Td}{o:Obj}(e:h.get? b=some o)(n:H b=none):(tZ h H).get? b=some o:=
 PySem.W.hideAll_get _ e λhm=>by
  have q:(H b).isSome=true:=(List.mem_filter.mp hm).2;rw[n]at q;simp at q
theorem EJ{h:Tl}{H:Hp}{b:Td}{o:Obj}(e:(tZ h H).get? b=some o):h.get? b=some o/\H b=none:=by
 have e':h.get? b=some o:=PySem.W.of_hideAll (La h H) e;refine⟨e',?_⟩;cases q:H b with
 |none=>rfl
 |some x=>
  have hm:b∈La h H:=List.mem_filter.mpr ⟨List.mem_range.mpr (Sx e'),by simp[q]⟩;have z:(tZ h H).get? b=none:=PySem.W.hideAll_none (La h H) hm;rw[z]at e;cases e
noncomputable def Gh(g h:Tl)(L:Td):bc:=(List.range h.objs.size).filterMap λa=>if a=L\/(g.get? a).isSome=true then none else(h.get? a).map λo=>(a,o)
noncomputable def rest(g h:Tl)(L d:Td):bc:=(Gh g h L).filter λp=>decide (p.1≠d)
structure Mod(K:RY)(mg:cj)(base:Tl):Prop where
 kin:K.In base
 glob:base.Ns Tp mg
 blt:∃mb,base.Ns Tq mb/\∀x:Str,x≠"__name__"->mb x=Tr x
 nolimit:base.NoLimit
structure Cx where
 prog:Ti
 w:Th
 K:RY
 mg:cj
 base:Tl
 A:Ts
 N:ay
 s₀:Tg
 H₀:Hp
 env:Env
 outer:List Env
 stack:List Env
 ex:ax
 fn:Str->Bool
 calm:Bool
 pn:bc
 xe:bq
noncomputable def frs(l:List Env):ax:=l.filterMap (·.frame)
noncomputable abbrev Cx.fs(X:Cx):ax:=frs X.outer
noncomputable def HS(sc:Tt)(x:Str):Prop:=sc.names.lookup x=some .local\/sc.names.lookup x=some .cell\/sc.names.lookup x=some .free
noncomputable def Loc(sc:Tt)(x:Str):Prop:=sc.names.lookup x=some .local\/sc.names.lookup x=some .cell
noncomputable def Look(env:Env)(h:Tl)(m:cj)(x:Str)(u:S9):Prop:=
 (env.kindOf x=some .local/\m x=some u)\/((env.kindOf x=some .cell\/env.kindOf x=some .free)/\∃c,env.cells.lookup x=some c/\h.IsCell c (some u))
structure Cx.Ok(X:Cx):Prop where
 mod:Mod X.K X.mg X.base
 kind:X.env.scope.kind=.function
 glob:X.env.globals=Tp
 blt:X.env.builtins=Tq
 above:X.s₀.heap.objs.size<=X.env.locals
 inj:∀x y c,X.env.cells.lookup x=some c->X.env.cells.lookup y=some c->x=y
 has:∀x,(X.env.kindOf x=some .cell\/X.env.kindOf x=some .free)->∃c,X.env.cells.lookup x=some c
 cab:∀x c,X.fn x=true->X.env.cells.lookup x=some c->X.s₀.heap.objs.size<=c
 hd:X.calm=true->X.A.handled=none
 frames:X.A.frames=some X.stack
 stk:X.stack=X.outer\/(X.stack=X.env::X.outer/\X.env.frame=some X.env.locals)
 exf:∀b∈X.ex,b≠X.env.locals/\∀x c,X.env.cells.lookup x=some c->c≠b
 bs:∀b o,X.base.get? b=some o->X.s₀.heap.get? b=some o/\X.H₀ b=none
 bsz:X.base.objs.size<=X.s₀.heap.objs.size
 noex:∀b o,X.base.get? b=some o->b∉X.ex
 exfs:∀b∈X.ex,b∉X.fs
 funs:X.s₀.heap.FunFrames X.base X.outer
 frf:∀b∈X.fs,X.H₀ b=none
structure Inv(X:Cx)(pins:bc)(σ:List (Option V))(H:Hp)(s:Tg):Prop where
 ok:X.Ok
 os:s.os=X.s₀.os
 bare:AllBare s.gens
 base:Un X.fs X.ex X.H₀ H X.s₀.heap s.heap
 loc:∃m,s.heap.Ns X.env.locals m/\∀(i:Nat)(x:Str)(v:V),X.N[i]?=some x->σ[i]?=some (some v)->HS X.env.scope x->∃u,RelV v u/\Look X.env s.heap m x u
 cell:∀x c,X.env.cells.lookup x=some c->∃v,s.heap.IsCell c v
 free:H X.env.locals=none
 freeC:∀x c,X.env.cells.lookup x=some c->H c=none
 pin:∀p∈X.pn++pins,s.heap.get? p.1=some p.2/\H p.1=none/\p.1≠X.env.locals/\p.1∉X.fs/\∀v,p.2.data≠.cell v
 hok:mQ X.prog X.w H s.heap
 len:σ.length=X.N.length
section
variable{X:Cx}{pins:bc}{σ:List (Option V)}{H H':Hp}{s:Tg}{h':Tl}
theorem Cx.Ok.nofr(ok:X.Ok){b:Td}{o:Obj}(e:X.base.get? b=some o):b∉X.fs:=λhb=>by
 have:=(ok.funs.mem hb).1
 rw[e]at this;cases this
theorem Inv.bs(I:Inv X pins σ H s):∀b o,X.base.get? b=some o->s.heap.get? b=some o/\H b=none:=λb o e=>
 ⟨I.base.keep b o (I.ok.bs b o e).1 (I.ok.bs b o e).2 (I.ok.nofr e) (I.ok.noex b o e),I.base.free b o (I.ok.bs b o e).1 (I.ok.bs b o e).2 (I.ok.noex b o e)⟩
theorem Inv.bk(I:Inv X pins σ H s):∀b o,X.base.get? b=some o->s.heap.get? b=some o:=λb o e=>(I.bs b o e).1
theorem Inv.mod(I:Inv X pins σ H s):Mod X.K X.mg X.base:=I.ok.mod
theorem Inv.kIn(I:Inv X pins σ H s):X.K.In s.heap:=I.ok.mod.kin.keeps I.bk
theorem Inv.nolimit(I:Inv X pins σ H s):s.heap.NoLimit:=I.ok.mod.nolimit.keeps I.bk
theorem Inv.lt(I:Inv X pins σ H s):X.env.locals<s.heap.objs.size:=let ⟨_,hn,_⟩:=I.loc;hn.lt
theorem Inv.sz(I:Inv X pins σ H s):X.s₀.heap.objs.size<=s.heap.objs.size:=OQ I.ok.above (OS I.lt)
theorem Inv.nofs(I:Inv X pins σ H s){a:Td}(h:s.heap.objs.size<=a):a∉X.fs:=λhb=>by
 obtain⟨_,o,ho,_⟩:=I.ok.funs.mem hb;exact absurd (OL (Sx ho) (OQ I.sz h)) (OM _)
theorem Inv.cne(I:Inv X pins σ H s):∀x c,X.env.cells.lookup x=some c->c≠X.env.locals:=λx c e z=>by
 obtain⟨v,o,ho,hd⟩:=I.cell x c e;obtain⟨m,⟨o',es,ep,ho',hd',_⟩,_⟩:=I.loc;rw[z,ho']at ho;cases ho;rw[hd']at hd;cases hd
theorem Inv.funs(I:Inv X pins σ H s):s.heap.FunFrames X.base X.outer:=by
 have all:∀(l:List Env),(∀b∈frs l,b∈X.fs)->X.s₀.heap.FunFrames X.base l->s.heap.FunFrames X.base l:=by
  intro l
  induction l with
  |nil=>intro _ _;trivial
  |cons env r ih=>
   intro hs hl;obtain⟨hk,⟨L,o,hf,hn,ho,hd⟩,hr⟩:=hl;have hL:L∈X.fs:=hs L (by unfold frs;rw[OT,hf];exact OU);obtain⟨sl,e⟩:=I.base.slot L o ho (I.ok.frf L hL) hL λz=>I.ok.exfs L z hL;exact⟨hk,⟨L,_,hf,hn,e,hd⟩,ih (λb hb=>hs b (by unfold frs;rw[OT,hf];exact OV _ hb)) hr⟩
 exact all X.outer (λ_ hb=>hb) I.ok.funs
theorem Inv.stack(I:Inv X pins σ H s):s.heap.FunFrames X.base X.stack:=by
 rcases I.ok.stk with e|⟨e,hf⟩
 ·rw[e];exact I.funs
 ·rw[e];obtain⟨m,hn,_⟩:=I.loc;refine .cons (by rw[I.ok.kind];decide) hf hn ?_ I.funs;exact Sy (OQ I.ok.bsz I.ok.above)
theorem Inv.stkSub(I:Inv X pins σ H s):∀b∈frs X.stack,b∈X.env.locals::X.fs:=λb hb=>by
 rcases I.ok.stk with e|⟨e,hf⟩
 ·rw[e]at hb;exact OV _ hb
 ·rw[e]at hb;unfold frs at hb;rw[OT,hf]at hb;exact hb
theorem Inv.stkFree(I:Inv X pins σ H s):∀b∈frs X.stack,H b=none:=λb hb=>by
 rcases List.mem_cons.mp (I.stkSub b hb)with e|hb
 ·rw[e];exact I.free
 ·obtain⟨_,o,ho,_⟩:=I.ok.funs.mem hb;exact I.base.free b o ho (I.ok.frf b hb) λz=>I.ok.exfs b z hb
theorem Inv.step{g':Array GenState}{t':Nat}{d':Drawn}{ch:ax}(I:Inv X pins σ H s)
  (hch:∀b∈ch,(b∈X.ex\/X.s₀.heap.objs.size<=b)/\b≠X.env.locals/\(∀x c,X.env.cells.lookup x=some c->c≠b)/\∀p∈X.pn++pins,p.1≠b)
  (keep:∀b o,b≠X.env.locals->b∉X.fs->b∉ch->s.heap.get? b=some o->H b=none->h'.get? b=some o)
  (slot:∀b o,b≠X.env.locals->b∈X.fs->b∉ch->s.heap.get? b=some o->H b=none->∃sl,h'.get? b=some {o with slots:=sl}) (free:∀b o,b∉ch->s.heap.get? b=some o->H b=none->H' b=none)
  (there:∀b o,b∉ch->s.heap.get? b=some o->∃o',h'.get? b=some o')
  (tups:∀b xs,H b=some (.tup xs)->H' b=some (.tup xs)) (frzs:∀b o u,H b=some (.frz o u)->H' b=some (.frz o u)) (tbls:∀b ps,H b=some (.tbl ps)->∃more,H' b=some (.tbl (ps++more)))
  (ns:∀m,s.heap.Ns X.env.locals m->h'.Ns X.env.locals m) (hok:mQ X.prog X.w H' h') (hg:AllBare g'):
  Inv X pins σ H' {s with heap:=h',gens:=g',drawn:=d',toks:=t'}:=by
 have neL:∀b o,X.s₀.heap.get? b=some o->b≠X.env.locals:=λb o e=>OO (OL (Sx e) I.ok.above);have neC:∀b o,X.s₀.heap.get? b=some o->b∉X.ex->b∉ch:=λb o e hx hb=>by
  rcases(hch b hb).1 with z|z
  ·exact hx z
  ·exact absurd (OL (Sx e) z) (OM _)
 have cellK:∀x c,X.env.cells.lookup x=some c->∀v,s.heap.IsCell c v->h'.IsCell c v:=λx c e v ⟨o,ho,hd⟩=>by
  have nch:c∉ch:=λz=>(hch c z).2.2.1 x c e rfl;by_cases hc:c∈X.fs
  ·obtain⟨sl,q⟩:=slot c o (I.cne x c e) hc nch ho (I.freeC x c e);exact⟨_,q,hd⟩
  ·exact⟨o,keep c o (I.cne x c e) hc nch ho (I.freeC x c e),hd⟩
 refine⟨I.ok,I.os,hg,⟨λb o e n hb hx=>?_,λb o e n hb hx=>?_,λb o e n hx=>?_,λb o e hx=>?_,λb xs e=>tups b xs (I.base.tups b xs e),λb o xs e=>frzs b o xs (I.base.frzs b o xs e),λb ps e=>?_⟩,?_,λx c e=>?_,?_,λx c e=>?_,λp hp=>?_,hok,I.len⟩
 ·exact keep b o (neL b o e) hb (neC b o e hx) (I.base.keep b o e n hb hx) (I.base.free b o e n hx)
 ·obtain⟨sl,e1⟩:=I.base.slot b o e n hb hx;obtain⟨sl',e2⟩:=slot b _ (neL b o e) hb (neC b o e hx) e1 (I.base.free b o e n hx);exact⟨sl',e2⟩
 ·obtain⟨o',e1⟩:=I.base.there b o e hx;exact free b o' (neC b o e hx) e1 (I.base.free b o e n hx)
 ·obtain⟨o',e1⟩:=I.base.there b o e hx;exact there b o' (neC b o e hx) e1
 ·obtain⟨m1,e1⟩:=I.base.tbls b ps e;obtain⟨m2,e2⟩:=tbls b _ e1;exact⟨m1++m2,by rw[e2,Array.append_assoc]⟩
 ·obtain⟨m,hn,hl⟩:=I.loc;refine⟨m,ns m hn,λi x v e1 e2 e3=>?_⟩;obtain⟨u,r,l⟩:=hl i x v e1 e2 e3;refine⟨u,r,?_⟩;rcases l with l|⟨k,c,e,z⟩
  ·exact .inl l
  ·exact .inr ⟨k,c,e,cellK x c e _ z⟩
 ·obtain⟨v,z⟩:=I.cell x c e;exact⟨v,cellK x c e v z⟩
 ·obtain⟨m,⟨o,_,_,ho,_⟩,_⟩:=I.loc;exact free _ o (λz=>(hch _ z).2.1 rfl) ho I.free
 ·obtain⟨v,o,ho,hd⟩:=I.cell x c e;exact free c o (λz=>(hch c z).2.2.1 x c e rfl) ho (I.freeC x c e)
 ·obtain⟨e,n,ne,nf,d⟩:=I.pin p hp;have nch:p.1∉ch:=λz=>(hch p.1 z).2.2.2 p hp rfl;exact⟨keep p.1 p.2 ne nf nch e n,free p.1 p.2 nch e n,ne,nf,d⟩
theorem Inv.un{t':Nat}(I:Inv X pins σ H s)(u:Un X.fs [] H H' s.heap h')(hok:mQ X.prog X.w H' h'):Inv X pins σ H' {s with heap:=h',toks:=t'}:=by
 obtain⟨m,⟨o,es,ep,ho,r⟩,_⟩:=id I.loc;obtain⟨sl,hL⟩:=u.any ho I.free (by simp);exact I.step (g':=s.gens) (d':=s.drawn) (ch:=[]) (λ_ z=>nomatch z) (λb o _ hb _ e n=>u.keep b o e n hb (by simp)) (λb o _ hb _ e n=>u.slot b o e n hb (by simp)) (λb o _ e n=>u.free b o e n (by simp)) (λb o _ e=>u.there b o e (by simp)) u.tups u.frzs u.tbls (λm' hm=>by
  obtain⟨o',es',ep',ho',r'⟩:=hm;rw[ho]at ho';cases ho';exact⟨_,es',ep',hL,r'⟩) hok I.bare
theorem Inv.call{g':Array GenState}{t':Nat}{d':Drawn}{ch:ax}(I:Inv X pins σ H s)(u:Un (frs X.stack) ch H H' s.heap h')(hok:mQ X.prog X.w H' h')(hg:AllBare g')
  (hch:∀b∈ch,(b∈X.ex\/X.s₀.heap.objs.size<=b)/\b≠X.env.locals/\(∀x c,X.env.cells.lookup x=some c->c≠b)/\∀p∈X.pn++pins,p.1≠b):
  Inv X pins σ H' {s with heap:=h',gens:=g',drawn:=d',toks:=t'}:=by
 obtain⟨m,⟨o,es,ep,ho,r⟩,_⟩:=id I.loc;obtain⟨sl,hL⟩:=u.any ho I.free λz=>(hch _ z).2.1 rfl;exact I.step (ch:=ch) hch (λb o hL hb hc e n=>u.keep b o e n (λz=>(List.mem_cons.mp (I.stkSub b z)).elim hL hb) hc) (λb o _ _ hc e n=>u.any e n hc) (λb o hc e n=>u.free b o e n hc) (λb o hc e=>u.there b o e hc) u.tups u.frzs u.tbls (λm' hm=>by
  obtain⟨o',es',ep',ho',r'⟩:=hm;rw[ho]at ho';cases ho';exact⟨_,es',ep',hL,r'⟩) hok hg
theorem Inv.turned{t':Nat}{it:Td}(I:Inv X pins σ H s)(k:∀b o,b≠it->s.heap.get? b=some o->h'.get? b=some o)(hn:H it=none)(hL:it≠X.env.locals)
  (h1:it∈X.ex\/X.s₀.heap.objs.size<=it) (h2:∀x c,X.env.cells.lookup x=some c->c≠it) (h3:∀p∈X.pn++pins,p.1≠it):Inv X pins σ H {s with heap:=h',toks:=t'}:=by
 have nit:∀b u,H b=some u->b≠it:=λb u e z=>by rw[z,hn]at e;cases e
 refine I.step (g':=s.gens) (d':=s.drawn) (ch:=[it]) (λb hb=>?_) (λb o _ _ hc e _=>k b o (λz=>hc (by simp[z])) e) (λb o _ _ hc e _=>⟨o.slots,k b o (λz=>hc (by simp[z])) e⟩) (λ_ _ _ _ n=>n)
  (λb o hc e=>⟨o,k b o (λz=>hc (by simp[z])) e⟩) (λ_ _ e=>e) (λ_ _ _ e=>e) (λb ps e=>⟨#[],by rw[e];simp⟩) (λm hm=>?_) (λb u e=>?_) I.bare
 ·have e:b=it:=by simpa using hb
  subst e;exact⟨h1,hL,h2,h3⟩
 ·obtain⟨o,es,ep,ho,r⟩:=hm;exact⟨o,es,ep,k _ o (Ne.symm hL) ho,r⟩
 ·refine(I.hok b u e).stay (λc v hc q=>k c v ?_ q) (λ_ q=>q) λ_ _ q=>q;rcases hc with z|z
  ·rw[z];exact nit b u e
  ·exact nit c _ z
theorem Inv.tok(I:Inv X pins σ H s)(t:Nat):Inv X pins σ H {s with toks:=t}:=I.un (h':=s.heap) (t':=t) Un.refl I.hok
theorem Inv.kept{t':Nat}(I:Inv X pins σ H s)(k:∀b u,s.heap.get? b=some u->h'.get? b=some u):Inv X pins σ H {s with heap:=h',toks:=t'}:=I.un (Un.kept k) (I.hok.kept k)
theorem Inv.laid{a:Td}{o:HO}{t':Nat}(I:Inv X pins σ H s)(k:∀b u,s.heap.get? b=some u->h'.get? b=some u)(hp:s.heap.objs.size<=a)(new:b7 X.prog X.w (upd H a o) h' a o):
  Inv X pins σ (upd H a o) {s with heap:=h',toks:=t'}:=I.un (Un.laid k hp (I.hok.fresh hp)) (I.hok.laid k hp new)
theorem Inv.write{x e:Td}{o:HO}{t':Nat}(I:Inv X pins σ H s)(mu:JS (H x))(he:e=x\/H e=some (.own x))(k:∀b u,b≠e->s.heap.get? b=some u->h'.get? b=some u)(heo:∃u,h'.get? e=some u)
  (new:b7 X.prog X.w (upd H x o) h' x o):Inv X pins σ (upd H x o) {s with heap:=h',toks:=t'}:=I.un (Un.write mu he k heo) (I.hok.write mu he k heo new)
theorem Inv.pins_of{pins':bc}(I:Inv X pins σ H s)(h:∀p∈pins',s.heap.get? p.1=some p.2/\H p.1=none/\p.1≠X.env.locals/\p.1∉X.fs/\∀v,p.2.data≠.cell v):Inv X pins' σ H s:=
 ⟨I.ok,I.os,I.bare,I.base,I.loc,I.cell,I.free,I.freeC,λp hp=>(List.mem_append.mp hp).elim (λz=>I.pin p (OW _ z)) (h p),I.hok,I.len⟩
theorem vO{N:ay}(hN:N.Nodup){i j:Nat}{x:Str}(a:N[i]?=some x)(b:N[j]?=some x):i=j:=by
 obtain⟨h1,e1⟩:=List.getElem?_eq_some_iff.mp a;obtain⟨h2,e2⟩:=List.getElem?_eq_some_iff.mp b;exact(List.getElem_inj hN).mp (e1.trans e2.symm)
theorem tI{M:Model}{A:Ts}{E:bq}{i:Nat}{x:Str}{v:V}{u:S9}{Q:Unit->cQ}(I:Inv X pins σ H s)(hN:X.N.Nodup)(hi:X.N[i]?=some x)(hx:Loc X.env.scope x)(r:RelV v u)
  (h:∀s',Inv X pins (σ.set i (some v)) H s'->(∃a,Sz a s.heap s'.heap/\(a=X.env.locals\/X.env.cells.lookup x=some a))->Q () s') (hf:X.fn x=true\/X.env.scope.names.lookup x=some .local:=by first|exact .inl rfl|exact .inr rfl|assumption):Tu M A (storeName X.env x u) Q E s:=by
 obtain⟨m,hn,hl⟩:=id I.loc;have hcls:(X.env.scope.kind==.class||(X.env.scope.kind==.module&&X.env.locals !=X.env.globals))=false:=by rw[I.ok.kind];rfl
 have hiσ:i<σ.length:=by rw[I.len];exact(List.getElem?_eq_some_iff.mp hi).1
 have cne:=I.cne;have tracked:∀{a:Td}{h':Tl},(∃o,s.heap.get? a=some o/\H a=none)->Sz a s.heap h'->mQ X.prog X.w H h':=λ{a h'} ha hs b ob e=>by
  obtain⟨_,_,hfree⟩:=ha;refine(I.hok b ob e).stay (λc w' hc q=>(hs.2 c ?_).trans q) (λ_ q=>q) λ_ _ q=>q;rintro rfl;rcases hc with rfl|hc
  ·rw[hfree]at e;cases e
  ·rw[hfree]at hc;cases hc
 rcases hx with hk|hk
 ·refine wpAny_storeName_local hk hn (λh' hn' hs=>?_) hcls;obtain⟨oL,_,_,hoL,_⟩:=id hn;refine h _ ⟨I.ok,I.os,I.bare,⟨λb o e n hb hx=>?_,λb o e n hb hx=>?_,I.base.free,λb o e hx=>?_,I.base.tups,I.base.frzs,I.base.tbls⟩,⟨_,hn',λj y v' e1 e2 e3=>?_⟩,λy c e=>?_,I.free,I.freeC,λp hp=>?_,tracked ⟨oL,hoL,I.free⟩ hs,by simpa using I.len⟩ ⟨_,hs,.inl rfl⟩
  ·exact(hs.2 b (OO (OL (Sx e) I.ok.above))).trans (I.base.keep b o e n hb hx)
  ·obtain⟨sl,e1⟩:=I.base.slot b o e n hb hx;exact⟨sl,(hs.2 b (OO (OL (Sx e) I.ok.above))).trans e1⟩
  ·obtain⟨o',e1⟩:=I.base.there b o e hx;exact⟨o',(hs.2 b (OO (OL (Sx e) I.ok.above))).trans e1⟩
  ·by_cases hj:j=i
   ·subst hj;rw[hi]at e1;cases e1;rw[OX hiσ]at e2;cases e2;exact⟨u,r,.inl ⟨hk,by simp⟩⟩
   ·rw[OY (Ne.symm hj)]at e2;obtain⟨u',r',q⟩:=hl j y v' e1 e2 e3;refine⟨u',r',?_⟩;rcases q with⟨k,e⟩|⟨k,c,e,z⟩
    ·refine .inl ⟨k,?_⟩
     have:y≠x:=λe=>hj (vO hN e1 (e ▸ hi))
     simp[this,e]
    ·exact .inr ⟨k,c,e,z.sameBut hs (cne y c e)⟩
  ·obtain⟨w',z⟩:=I.cell y c e;exact⟨w',z.sameBut hs (cne y c e)⟩
  ·obtain⟨e,n,ne,nf,d⟩:=I.pin p hp;exact⟨(hs.2 p.1 ne).trans e,n,ne,nf,d⟩
 ·have hfn:X.fn x=true:=by
   rcases hf with z|z
   ·exact z
   ·rw[z]at hk;cases hk
  obtain⟨c,hc⟩:=I.ok.has x (.inl hk);obtain⟨w',z⟩:=I.cell x c hc;refine wpAny_storeName_cell I.ok.kind hk hc z (λh' hc' hs=>?_);obtain⟨oc,hoc,hocd⟩:=id z;refine h {s with heap:=h'} ⟨I.ok,I.os,I.bare,⟨λb o e n hb hx=>?_,λb o e n hb hx=>?_,I.base.free,λb o e hx=>?_,I.base.tups,I.base.frzs,I.base.tbls⟩,⟨m,hn.sameBut hs (Ne.symm (cne x c hc)),λj y v' e1 e2 e3=>?_⟩,λy c' e=>?_,I.free,I.freeC,λp hp=>?_,tracked ⟨oc,hoc,I.freeC x c hc⟩ hs,by simpa using I.len⟩ ⟨c,hs,.inr hc⟩
  ·exact(hs.2 b (OO (OL (Sx e) (I.ok.cab x c hfn hc)))).trans (I.base.keep b o e n hb hx)
  ·obtain⟨sl,e1⟩:=I.base.slot b o e n hb hx;exact⟨sl,(hs.2 b (OO (OL (Sx e) (I.ok.cab x c hfn hc)))).trans e1⟩
  ·obtain⟨o',e1⟩:=I.base.there b o e hx;exact⟨o',(hs.2 b (OO (OL (Sx e) (I.ok.cab x c hfn hc)))).trans e1⟩
  ·by_cases hj:j=i
   ·subst hj;rw[hi]at e1;cases e1;rw[OX hiσ]at e2;cases e2;exact⟨u,r,.inr ⟨.inl hk,c,hc,hc'⟩⟩
   ·rw[OY (Ne.symm hj)]at e2;obtain⟨u',r',q⟩:=hl j y v' e1 e2 e3;refine⟨u',r',?_⟩;rcases q with q|⟨k,c',e,z'⟩
    ·exact .inl q
    ·refine .inr ⟨k,c',e,z'.sameBut hs ?_⟩;rintro rfl;exact hj (vO hN e1 (I.ok.inj _ _ _ e hc ▸ hi))
  ·by_cases hcc:c'=c
   ·subst hcc;exact⟨_,hc'⟩
   ·obtain⟨w2,z2⟩:=I.cell y c' e;exact⟨w2,z2.sameBut hs hcc⟩
  ·obtain⟨e,n,ne,nf,d⟩:=I.pin p hp;refine⟨(hs.2 p.1 ?_).trans e,n,ne,nf,d⟩;intro q;rw[q,hoc]at e;have q':oc=p.2:=Option.some.inj e;exact d w' (by rw[<-q'];exact hocd)
theorem vz{M:Model}{A:Ts}{E:bq}{i:Nat}{x:Str}{v:V}{u:S9}{Q:Unit->cQ}(I:Inv X pins σ H s)(hN:X.N.Nodup)(hi:X.N[i]?=some x)(hx:Loc X.env.scope x)(r:RelV v u)
  (h:∀s',Inv X pins (σ.set i (some v)) H s'->Q () s') (hf:X.fn x=true\/X.env.scope.names.lookup x=some .local:=by first|exact .inl rfl|exact .inr rfl|assumption):Tu M A (storeName X.env x u) Q E s:=
 tI I hN hi hx r (λs' I' _=>h s' I') hf
theorem Inv.call'{s':Tg}{ch:ax}(I:Inv X pins σ H s)(ho:s'.os=s.os)(u:Un (frs X.stack) ch H H' s.heap s'.heap)(hok:mQ X.prog X.w H' s'.heap)(hg:AllBare s'.gens)
  (hch:∀b∈ch,(b∈X.ex\/X.s₀.heap.objs.size<=b)/\b≠X.env.locals/\(∀x c,X.env.cells.lookup x=some c->c≠b)/\∀p∈X.pn++pins,p.1≠b):Inv X pins σ H' s':=by
 obtain⟨h',g',d',t',o'⟩:=s';have e:o'=s.os:=ho;subst e;exact I.call (g':=g') (t':=t') (d':=d') u hok hg hch
end
noncomputable abbrev XK:=S9->Option Td->Hp->Prop
noncomputable abbrev St:=List (Option V)
noncomputable abbrev VK:=V->Hp->Prop
noncomputable abbrev TE:=St->Hp->VK->Prop
noncomputable abbrev TT:=St->Hp->(Bool->Hp->Prop)->Prop
noncomputable abbrev TA:=St->Hp->(aK->Hp->Prop)->Prop
structure Ends where
 nx:St->Hp->Prop
 rt:VK
 bk:St->Hp->Prop:=λ_ _=>False
 ct:St->Hp->Prop:=λ_ _=>False
noncomputable abbrev TS:=Ends->St->Hp->Prop
noncomputable def EP(X:Cx)(pins:bc)(σ:St)(Q:VK)(u:S9)(s':Tg):Prop:=∃v H',Inv X pins σ H' s'/\RelV v u/\Q v H'
noncomputable def TP(X:Cx)(pins:bc)(σ:St)(Q:Bool->Hp->Prop)(b:Bool)(s':Tg):Prop:=∃H',Inv X pins σ H' s'/\Q b H'
noncomputable def AP(X:Cx)(pins:bc)(σ:St)(Q:aK->Hp->Prop)(us:aU)(s':Tg):Prop:=∃vs H',Inv X pins σ H' s'/\Vals vs us/\Q vs H'
noncomputable def SP(X:Cx)(pins:bc)(D:Ends)(f:Flow)(s':Tg):Prop:=
 match f with
 |.next=>∃σ' H',Inv X pins σ' H' s'/\D.nx σ' H'
 |.brk=>∃σ' H',Inv X pins σ' H' s'/\D.bk σ' H'
 |.cont=>∃σ' H',Inv X pins σ' H' s'/\D.ct σ' H'
 |.ret u=>∃v σ' H',Inv X pins σ' H' s'/\RelV v u/\D.rt v H'
noncomputable def PE(X:Cx)(e:Te)(t:TE):Prop:=
 ∀(pins:bc)(s:Tg)(σ:St)(H:Hp)(Q:VK),Inv X pins σ H s->t σ H Q->Tu (model X.prog X.w) X.A (eval e X.env) (EP X pins σ Q) X.xe s
noncomputable def PT(X:Cx)(e:Te)(t:TT):Prop:=
 ∀(pins:bc)(s:Tg)(σ:St)(H:Hp)(Q:Bool->Hp->Prop),Inv X pins σ H s->t σ H Q->Tu (model X.prog X.w) X.A (isTrue e X.env (eval e X.env)) (TP X pins σ Q) X.xe s
noncomputable def PW(X:Cx)(e:Te)(t:TT):Prop:=
 ∀(whole:Sem S9)(pins:bc)(s:Tg)(σ:St)(H:Hp)(Q:Bool->Hp->Prop),Inv X pins σ H s->t σ H Q->Tu (model X.prog X.w) X.A (isTrue e X.env whole) (TP X pins σ Q) X.xe s
theorem PW.pt{X:Cx}{e:Te}{t:TT}(h:PW X e t):PT X e t:=h _
noncomputable def PA(X:Cx)(es:bz)(t:TA):Prop:=
 ∀(pos:Pos)(pins:bc)(s:Tg)(σ:St)(H:Hp)(Q:aK->Hp->Prop),Inv X pins σ H s->t σ H Q->Tu (model X.prog X.w) X.A (spliced (backTo pos (Tv es X.env))) (AP X pins σ Q) X.xe s
noncomputable def PS(X:Cx)(st:Tf)(t:TS):Prop:=
 ∀(pins:bc)(s:Tg)(σ:St)(H:Hp)(D:Ends),Inv X pins σ H s->t D σ H->Tu (model X.prog X.w) X.A (exec st X.env) (SP X pins D) X.xe s
noncomputable def vA(X:Cx)(st:eE)(t:TS):Prop:=
 ∀(pins:bc)(s:Tg)(σ:St)(H:Hp)(D:Ends),Inv X pins σ H s->t D σ H->Tu (model X.prog X.w) X.A (execs st X.env) (SP X pins D) X.xe s
theorem cM{α:Type}{t:Sem α}{Q Q':α->cQ}{M:Model}{A:Ts}{E:bq}{s:Tg}(h:Tu M A t Q E s)(hQ:∀a s,Q a s->Q' a s):Tu M A t Q' E s:=Tx h hQ λ_ _ x=>x
section
variable{X:Cx}
noncomputable def Dr(i:Nat):TE:=λσ H Q=>∃v,σ[i]?=some (some v)/\Q v H
noncomputable def tC(v:V):TE:=λ_ H Q=>Q v H
theorem Hx{i:Nat}{x:Str}{pos:Pos}(hN:X.N[i]?=some x)(hv:HS X.env.scope x)(hd:(x==("__debug__":Str))=false:=by decide)(hcd:(x==("__classdict__":Str))=false:=by decide):PE X (.Name x pos) (Dr i):=by
 intro pins s σ H Q I h;obtain⟨v,e,h⟩:=h;obtain⟨m,hn,hl⟩:=I.loc;obtain⟨u,r,l⟩:=hl i x v hN e hv;have fin:EP X pins σ Q u s:=⟨v,H,I,r,h⟩
 rcases l with⟨hk,hm⟩|⟨hk,c,hc,hcell⟩
 ·exact Tz (wpAny_loadName_local I.ok.kind hk hn hm fin) hd
 ·rcases hk with hk|hk
  ·exact Tz (wpAny_loadName_cell I.ok.kind hk hc hcell fin) hd
  ·exact Tz (wpAny_loadName_free I.ok.kind hk hc hcell fin hcd) hd
theorem Bs{i j pos}:PE X (.Constant (.int i) j pos) (tC (.int i)):=λ_ _ _ H _ I h=>wpAny_Constant_int ⟨.int i,H,I.tok _,⟨_,rfl⟩,h⟩
theorem JV{b j pos}:PE X (.Constant (.bool b) j pos) (tC (.bl b)):=λ_ _ _ H _ I h=>Constant_bool ⟨.bl b,H,I,rfl,h⟩
theorem Hy{j pos}:PE X (.Constant .none j pos) (tC .non):=λ_ _ _ H _ I h=>Constant_none ⟨.non,H,I,rfl,h⟩
theorem Iw{x j pos}:PE X (.Constant (.str x) j pos) (tC (.str x)):=λ_ _ _ H _ I h=>Calls.Constant_str ⟨.str x,H,I.tok _,⟨_,rfl⟩,h⟩
noncomputable def Gl(X:Cx)(x:Str):Prop:=X.env.kindOf x=some .globalImplicit
theorem yr{E:bq}{pins:bc}{s:Tg}{σ:St}{H:Hp}{x:Str}{u:S9}{pos:Pos}{Q:bq}(I:Inv X pins σ H s)(hg:Gl X x)(hm:X.mg x=some u)(h:Q u s)
  (hd:(x==("__debug__":Str))=false:=by decide):Tu (model X.prog X.w) X.A (eval (.Name x pos) X.env) Q E s:=
 Calls.Name_function_global I.ok.kind hg (Calls.loadGlobal_global (by rw[I.ok.glob];exact I.mod.glob.keeps I.bk) hm h) hd
theorem jP{E:bq}{pins:bc}{s:Tg}{σ:St}{H:Hp}{x:Str}{u:S9}{pos:Pos}{Q:bq}(I:Inv X pins σ H s)(hg:Gl X x)(hm:X.mg x=none)(hv:Tr x=some u)(h:Q u s)
  (hn:x≠"__name__":=by decide) (hd:(x==("__debug__":Str))=false:=by decide):Tu (model X.prog X.w) X.A (eval (.Name x pos) X.env) Q E s:=by
 obtain⟨mb,h1,h2⟩:=I.mod.blt;exact Calls.Name_function_global I.ok.kind hg (Calls.loadGlobal_builtin (by rw[I.ok.glob];exact I.mod.glob.keeps I.bk) hm (by rw[I.ok.blt];exact h1.keeps I.bk) ((h2 x hn).trans hv) h) hd
theorem EV{x:Str}{v:V}{u:S9}{pos:Pos}(hg:Gl X x)(hm:X.mg x=none)(hv:Tr x=some u)(r:RelV v u)(hn:x≠"__name__":=by decide)(hd:(x==("__debug__":Str))=false:=by decide):PE X (.Name x pos) (tC v):=
 λ_ _ _ H _ I h=>jP I hg hm hv ⟨v,H,I,r,h⟩ hn hd
variable{a b:Te}{ta tb:TE}{pos:Pos}
noncomputable def tB(t:TE):TT:=λσ H Q=>t σ H λx H1=>∃c,x=.bl c/\Q c H1
variable{tA tB':TT}{rest:bz}
noncomputable def LA(t u:TT):TT:=λσ H Q=>t σ H λc H1=>if c=true then u σ H1 Q else Q false H1
noncomputable def OJ(t u:TT):TT:=λσ H Q=>t σ H λc H1=>if c=true then Q true H1 else u σ H1 Q
noncomputable def LW(t:TT):TT:=λσ H Q=>t σ H λc H1=>Q (!c) H1
theorem EF(ha:PT X a tA):PW X (.BoolOp .And [a] pos) tA:=by
 intro wh pins s σ H Q I h;refine isTrue_and (cM (ha pins s σ H Q I h) λc s1 e=>?_);cases c with
 |true=>exact isTrue_and_nil e
 |false=>exact e
theorem Ho(ha:PT X a tA):PW X (.BoolOp .Or [a] pos) tA:=by
 intro wh pins s σ H Q I h;refine isTrue_or (cM (ha pins s σ H Q I h) λc s1 e=>?_);cases c with
 |false=>exact isTrue_or_nil e
 |true=>exact e
theorem IG(ha:PT X a tA)(hb:PW X (.BoolOp .And (b::rest) pos) tB'):PW X (.BoolOp .And (a::b::rest) pos) (LA tA tB'):=by
 intro wh pins s σ H Q I h;refine isTrue_and (cM (ha pins s σ H _ I h) λc s1 ⟨H1,I1,q1⟩=>?_);cases c with
 |true=>exact hb wh pins s1 σ H1 Q I1 q1
 |false=>exact⟨H1,I1,q1⟩
theorem J5(ha:PT X a tA)(hb:PW X (.BoolOp .Or (b::rest) pos) tB'):PW X (.BoolOp .Or (a::b::rest) pos) (OJ tA tB'):=by
 intro wh pins s σ H Q I h;refine isTrue_or (cM (ha pins s σ H _ I h) λc s1 ⟨H1,I1,q1⟩=>?_);cases c with
 |true=>exact⟨H1,I1,q1⟩
 |false=>exact hb wh pins s1 σ H1 Q I1 q1
theorem Ip(ha:PT X a tA):PT X (.UnaryOp .Not a pos) (LW tA):=by
 intro pins s σ H Q I h;exact isTrue_not (ha pins s σ H (λc H1=>Q (!c) H1) I h)
noncomputable def Jy(ta tb:TE):TE:=λσ H Q=>ta σ H λx H1=>∃c,x=.bl c/\if c=true then tb σ H1 Q else Q (.bl false) H1
noncomputable def LU(ta tb:TE):TE:=λσ H Q=>ta σ H λx H1=>∃c,x=.bl c/\if c=true then Q (.bl true) H1 else tb σ H1 Q
noncomputable def Ka(ta:TE):TE:=λσ H Q=>ta σ H λx H1=>∃c,x=.bl c/\Q (.bl (!c)) H1
theorem Ia{op}{t:TE}(h:PE X a t):PE X (.BoolOp op [a] pos) t:=λpins s σ H Q I hw=>BoolOp_one (h pins s σ H Q I hw)
theorem Hc(ha:PE X a ta)(hb:PE X (.BoolOp .And (b::rest) pos) tb):PE X (.BoolOp .And (a::b::rest) pos) (Jy ta tb):=by
 intro pins s σ H Q I h;refine BoolOp_and (cM (ha pins s σ H _ I h) λv s1 ⟨x,H1,I1,r1,q1⟩=>?_);obtain⟨c,rfl,q1⟩:=q1;cases r1;refine TB ?_;cases c with
 |true=>exact hb pins s1 σ H1 Q I1 q1
 |false=>exact⟨.bl false,H1,I1,rfl,q1⟩
theorem KY(ha:PE X a ta)(hb:PE X (.BoolOp .Or (b::rest) pos) tb):PE X (.BoolOp .Or (a::b::rest) pos) (LU ta tb):=by
 intro pins s σ H Q I h;refine BoolOp_or (cM (ha pins s σ H _ I h) λv s1 ⟨x,H1,I1,r1,q1⟩=>?_);obtain⟨c,rfl,q1⟩:=q1;cases r1;refine TB ?_;cases c with
 |false=>exact hb pins s1 σ H1 Q I1 q1
 |true=>exact⟨.bl true,H1,I1,rfl,q1⟩
theorem IB(ha:PE X a ta):PE X (.UnaryOp .Not a pos) (Ka ta):=by
 intro pins s σ H Q I h;refine UnaryOp_ (cM (ha pins s σ H _ I h) λv s1 ⟨x,H1,I1,r1,q1⟩=>?_);obtain⟨c,rfl,q1⟩:=q1;cases r1;exact not_of (TB ⟨.bl (!c),H1,I1,rfl,q1⟩)
noncomputable def NW(t:TT)(ta tb:TE):TE:=λσ H Q=>t σ H λc H1=>if c=true then ta σ H1 Q else tb σ H1 Q
theorem BD{c:Te}(hc:PT X c tA)(ha:PE X a ta)(hb:PE X b tb):PE X (.IfExp c a b pos) (NW tA ta tb):=by
 intro pins s σ H Q I h;refine wpAny_IfExp (cM (hc pins s σ H _ I h) λd s1 ⟨H1,I1,q1⟩=>?_);cases d with
 |true=>exact ha pins s1 σ H1 Q I1 q1
 |false=>exact hb pins s1 σ H1 Q I1 q1
end
noncomputable def lT(K:RY)(H:Hp)(a:Td)(xs:aK):Prop:=
 Rd H a (.lst xs) \/
  ∃(o:Obj)(its:eD)(n:Nat),K.lookup a=some o/\o.cls=.type "list"/\o.dict=none/\o.data=.seq its n/\its.size<=Tn/\Vals xs its.toList
noncomputable def nX(K:RY)(H:Hp)(a:Td)(xs:aK):Prop:=
 Rd H a (.tup xs) \/
  ∃(o:Obj)(its:eD)(n:Nat),K.lookup a=some o/\o.cls=.type "tuple"/\o.data=.seq its n/\its.size<=Tn/\Vals xs its.toList
noncomputable def Lz:S9->Option V
 |.none=>some .non
 |.bool b=>some (.bl b)
 |.int i _=>some (.int i)
 |.str x _=>some (.str x)
 |.bytes b _=>some (.byt b)
 |.float b _=>some (.flt b)
 |.ref a=>some (.ref a)
 |.type n=>some (.ty n)
 |_=>none
theorem RelV.abs{x:V}{u:S9}(r:RelV x u):Lz u=some x:=by
 cases x with
 |non=>cases r;rfl
 |bl _=>cases r;rfl
 |int _=>obtain⟨t,rfl⟩:=r;rfl
 |str _=>obtain⟨t,rfl⟩:=r;rfl
 |byt _=>obtain⟨t,rfl⟩:=r;rfl
 |flt _=>obtain⟨t,rfl⟩:=r;rfl
 |ref _=>cases r;rfl
 |ty _=>cases r;rfl
theorem RelV.inj{x y:V}{u:S9}(r:RelV x u)(q:RelV y u):x=y:=Option.some.inj (r.abs.symm.trans q.abs)
theorem Vals.inj:∀{xs ys:aK}{us:aU},Vals xs us->Vals ys us->xs=ys
 |_,_,_,.nil,.nil=>rfl
 |_,_,_,.cons r t,.cons r' t'=>by rw[r.inj r',Vals.inj t t']
section
variable{X:Cx}{pins:bc}{σ:St}{H:Hp}{s:Tg}{a:Td}{xs ys:aK}
theorem lT.of{K:RY}(h:H a=some (.lst xs)):lT K H a xs:=.inl (.inl h)
theorem nX.of{K:RY}(h:H a=some (.tup xs)):nX K H a xs:=.inl (.inl h)
theorem Inv.list(I:Inv X pins σ H s)(h:lT X.K H a xs):∃its:aU,Vals xs its/\PlainL s.heap a its.toArray/\xs.length<=Tn:=by
 rcases h with h|⟨o,its,n,hk,hc,hd,hs,hz,r⟩
 ·obtain⟨z,its,n,r,e⟩:=h.ok I.hok;exact⟨its,r,⟨_,n,e,rfl,rfl,rfl⟩,z⟩
 ·refine⟨its.toList,r,⟨o,n,I.kIn a o hk,hc,hd,by simpa using hs⟩,?_⟩;have e:=r.length;simp only[Array.length_toList]at e;omega
theorem Inv.tuple(I:Inv X pins σ H s)(h:nX X.K H a xs):∃its:aU,Vals xs its/\To s.heap a its.toArray/\xs.length<=Tn:=by
 rcases h with h|⟨o,its,n,hk,hc,hs,hz,r⟩
 ·obtain⟨z,its,r,p⟩:=h.ok I.hok;exact⟨its,r,p,z⟩
 ·refine⟨its.toList,r,⟨o,I.kIn a o hk,hc,n,by simpa using hs⟩,?_⟩;have e:=r.length;simp only[Array.length_toList]at e;omega
theorem Inv.list_inj(I:Inv X pins σ H s)(h:lT X.K H a xs)(h':lT X.K H a ys):xs=ys:=by
 obtain⟨its,r,⟨o,n,e,_,_,d⟩,_⟩:=I.list h;obtain⟨its',r',⟨o',n',e',_,_,d'⟩,_⟩:=I.list h';rw[e]at e';cases e';rw[d]at d';injection d' with d1 _
 have:its=its':=by simpa using congrArg Array.toList d1
 subst this;exact r.inj r'
theorem Inv.tuple_inj(I:Inv X pins σ H s)(h:nX X.K H a xs)(h':nX X.K H a ys):xs=ys:=by
 obtain⟨its,r,⟨o,e,_,n,d⟩,_⟩:=I.tuple h;obtain⟨its',r',⟨o',e',_,n',d'⟩,_⟩:=I.tuple h';rw[e]at e';cases e';rw[d]at d';injection d' with d1 _
 have:its=its':=by simpa using congrArg Array.toList d1
 subst this;exact r.inj r'
end
noncomputable abbrev Cx.wish(X:Cx)(E:bq):Cx:={X with xe:=E}
noncomputable abbrev Cx.nox(X:Cx):Cx:=X.wish λ_ _=>False
theorem Cx.Ok.wish{X:Cx}(ok:X.Ok)(E:bq):(X.wish E).Ok:=
 ⟨ok.mod,ok.kind,ok.glob,ok.blt,ok.above,ok.inj,ok.has,ok.cab,ok.hd,ok.frames,ok.stk,ok.exf,ok.bs,ok.bsz,ok.noex,ok.exfs,ok.funs,ok.frf⟩
theorem Cx.Ok.unwish{X:Cx}{E:bq}(ok:(X.wish E).Ok):X.Ok:=
 ⟨ok.mod,ok.kind,ok.glob,ok.blt,ok.above,ok.inj,ok.has,ok.cab,ok.hd,ok.frames,ok.stk,ok.exf,ok.bs,ok.bsz,ok.noex,ok.exfs,ok.funs,ok.frf⟩
section
variable{X:Cx}{pins:bc}{σ:St}{H:Hp}{s:Tg}{E:bq}
theorem Inv.wish(I:Inv X pins σ H s)(E:bq):Inv (X.wish E) pins σ H s:=⟨I.ok.wish E,I.os,I.bare,I.base,I.loc,I.cell,I.free,I.freeC,I.pin,I.hok,I.len⟩
theorem Inv.unwish(I:Inv (X.wish E) pins σ H s):Inv X pins σ H s:=⟨I.ok.unwish,I.os,I.bare,I.base,I.loc,I.cell,I.free,I.freeC,I.pin,I.hok,I.len⟩
theorem SP.unwish{D:Ends}{f:Flow}{s':Tg}(h:SP (X.wish E) pins D f s'):SP X pins D f s':=by
 cases f with
 |next=>obtain⟨σ',H',I,q⟩:=h;exact⟨σ',H',I.unwish,q⟩
 |brk=>obtain⟨σ',H',I,q⟩:=h;exact⟨σ',H',I.unwish,q⟩
 |cont=>obtain⟨σ',H',I,q⟩:=h;exact⟨σ',H',I.unwish,q⟩
 |ret u=>obtain⟨v,σ',H',I,r,q⟩:=h;exact⟨v,σ',H',I.unwish,r,q⟩
theorem vA.nox{st:eE}{t:TS}(h:vA X.nox st t):vA X st t:=λpins s σ H D I hw=>
 Tx (h pins s σ H D (I.wish _) hw) (λ_ _ q=>q.unwish) λ_ _ z=>False.elim z
end
section
variable{X:Cx}{st:Tf}{rest:eE}{t u:TS}{e:Te}{te:TE}{pos:Pos}
noncomputable def CK:TS:=λD σ H=>D.nx σ H
noncomputable def M3(t u:TS):TS:=λD σ H=>t {D with nx:=u D} σ H
theorem Fy:vA X [] CK:=λ_ _ σ H _ I h=>TC ⟨σ,H,I,h⟩
theorem AU(h1:PS X st t)(h2:vA X rest u):vA X (st::rest) (M3 t u):=by
 intro pins s σ H D I h;refine wpAny_execs_cons (cM (h1 pins s σ H {D with nx:=u D} I h) λf s1 q=>?_);cases f with
 |next=>
  obtain⟨σ',H',I',q⟩:=q;exact h2 pins s1 σ' H' D I' q
 |ret v=>exact q
 |brk=>exact q
 |cont=>exact q
theorem yj(h1:PS X st t):vA X [st] t:=by
 intro pins s σ H D I h;refine wpAny_execs_cons (cM (h1 pins s σ H D I h) λf s1 q=>?_);cases f with
 |next=>exact TC q
 |ret v=>exact q
 |brk=>exact q
 |cont=>exact q
theorem EH:PS X (.Pass pos) CK:=λ_ _ σ H _ I h=>wpAny_Pass ⟨σ,H,I,h⟩
theorem Inv.quiet{pins:bc}{σ:St}{H:Hp}{s:Tg}(I:Inv X pins σ H s):interactive X.env=false:=by simp[interactive,I.ok.kind]
theorem IC{x j pos pos'}:PS X (.Expr (.Constant (.str x) j pos) pos') CK:=λ_ s σ H _ I h=>wpAny_Expr (Calls.Constant_str (show SP X _ _ .next {s with toks:=s.toks+1}from⟨σ,H,I.tok _,h⟩)) I.quiet
noncomputable def JQ(te:TE):TS:=λD σ H=>te σ H λ_ H1=>D.nx σ H1
theorem pq(he:PE X e te)(hs:swapsWith e none pos.line X.env=pure false:=by rfl):PS X (.Expr e pos) (JQ te):=by
 intro pins s σ H D I h;exact wpAny_Expr_any (cM (he pins s σ H _ I h) λv s1 ⟨x,H1,I1,r1,q1⟩=>⟨σ,H1,I1,q1⟩) I.quiet hs
noncomputable def L5(te:TE):TS:=λD σ H=>te σ H D.rt
theorem Hw(he:PE X e te):PS X (.Return (some e) pos) (L5 te):=by
 intro pins s σ H D I h;exact wpAny_Return_some (cM (he pins s σ H _ I h) λv s1 ⟨x,H1,I1,r1,q1⟩=>⟨x,σ,H1,I1,r1,q1⟩)
noncomputable def MZ(c:TT)(t u:TS):TS:=λD σ H=>c σ H λb H1=>if b=true then t D σ H1 else u D σ H1
theorem Jz{c:Te}{a b:eE}{tc:TT}(hc:PT X c tc)(ha:vA X a t)(hb:vA X b u):PS X (.If c a b pos) (MZ tc t u):=by
 intro pins s σ H D I h;refine wpAny_If (cM (hc pins s σ H _ I h) λd s1 ⟨H1,I1,q1⟩=>?_);cases d with
 |true=>exact ha pins s1 σ H1 D I1 q1
 |false=>exact hb pins s1 σ H1 D I1 q1
end
noncomputable abbrev TG:=V->St->Hp->(St->Hp->Prop)->Prop
noncomputable abbrev GB:=List V->St->Hp->(St->Hp->Prop)->Prop
noncomputable def PG(X:Cx)(target:Te)(t:TG):Prop:=
 ∀(pins:bc)(s:Tg)(σ:St)(H:Hp)(v:V)(u:S9)(Q:St->Hp->Prop),Inv X pins σ H s->RelV v u->t v σ H Q->
  Tu (model X.prog X.w) X.A (assign target X.env u) (λ_ s'=>∃σ' H',Inv X pins σ' H' s'/\Q σ' H') X.xe s
noncomputable def J1(X:Cx)(ts:bz)(t:GB):Prop:=
 ∀(pins:bc)(s:Tg)(σ:St)(H:Hp)(vs:aK)(us:aU)(Q:St->Hp->Prop),Inv X pins σ H s->Vals vs us->t vs σ H Q->
  Tu (model X.prog X.w) X.A (assignInOrder ((assignEach ts X.env).map (·.2)) us) (λ_ s'=>∃σ' H',Inv X pins σ' H' s'/\Q σ' H') X.xe s
section
variable{X:Cx}{pos:Pos}
noncomputable def tu(i:Nat):TG:=λv σ H Q=>Q (σ.set i (some v)) H
theorem Gc{i:Nat}{x:Str}(hN:X.N.Nodup)(hi:X.N[i]?=some x)(hx:Loc X.env.scope x)(hf:X.fn x=true\/X.env.scope.names.lookup x=some .local:=by first|exact .inl rfl|exact .inr rfl|assumption):PG X (.Name x pos) (tu i):=by
 intro pins s σ H v u Q I r h;exact wpAny_assign_Name (vz I hN hi hx r (λs' I'=>⟨_,H,I',h⟩) hf)
noncomputable def LZ:GB:=λvs σ H Q=>vs=[]/\Q σ H
noncomputable def Kk(t:TG)(u:GB):GB:=λvs σ H Q=>∃v r,vs=v::r/\t v σ H λσ' H'=>u r σ' H' Q
theorem EE:J1 X [] LZ:=by
 intro pins s σ H vs us Q I r h;obtain⟨e,h⟩:=h;subst e;cases r;exact assignInOrder_nil ⟨σ,H,I,h⟩
theorem B2{e:Te}{es:bz}{t:TG}{u:GB}(h1:PG X e t)(h2:J1 X es u)
  (hs:(assignEach (e::es) X.env).map (·.2)=assign e X.env::(assignEach es X.env).map (·.2):=by rfl):J1 X (e::es) (Kk t u):=by
 intro pins s σ H vs us Q I r h;obtain⟨v,vr,e1,h⟩:=h;subst e1;cases r with
 |cons r rr=>
  rw[hs];refine assignInOrder_cons (cM (h1 pins s σ H _ _ _ I r h) λ_ s1 ⟨σ1,H1,I1,q1⟩=>?_);exact h2 pins s1 σ1 H1 _ _ Q I1 rr q1
noncomputable def L1(K:RY)(n:Nat)(t:GB):TG:=λv σ H Q=>∃a xs,v=.ref a/\nX K H a xs/\xs.length=n/\t xs σ H Q
theorem HD{es:bz}{k:Nat}{t:GB}{n:Nat}(hc:X.calm=true)(h:J1 X es t)
  (hn:(assignEach es X.env).length=n:=by rfl) (hst:(assignEach es X.env).findIdx? (·.1)=none:=by rfl):PG X (.Tuple es k pos) (L1 X.K n t):=by
 intro pins s σ H v u Q I r hw;obtain⟨a,xs,e1,hq,hl,hw⟩:=hw;subst e1;cases r;obtain⟨its,rv,ht,hz⟩:=I.tuple hq;refine assign_Tuple_tuple (I.ok.hd hc) ht (by simp[hn,<-hl,rv.length]) hst λh' hx=>?_;have I1:Inv X pins σ H {s with heap:=h'}:=I.kept (t':=s.toks) λb o e=>hx b o (OO (Sx e)) e;exact h pins _ σ H xs _ Q I1 (by simpa using rv) hw
noncomputable def Du(te:TE)(g:TG):TS:=λD σ H=>te σ H λx H1=>g x σ H1 D.nx
theorem IT{tg e:Te}{te:TE}{g:TG}(he:PE X e te)(hg:PG X tg g)(hs:swapsWithSole [tg] e pos.line X.env=pure false:=by rfl)(hw:swappedStores [tg] e X.env=pure none:=by rfl)
  (h1:(assignEach [tg] X.env).map (·.2)=[assign tg X.env]:=by rfl):PS X (.Assign [tg] e pos) (Du te g):=by
 intro pins s σ H D I h;refine wpAny_Assign_stores (cM (he pins s σ H _ I h) λv s1 ⟨x,H1,I1,r1,q1⟩=>?_) hs hw;rw[h1];exact cM (hg pins s1 σ H1 x v _ I1 r1 q1) λ_ s2 q=>q
theorem tM{i:Nat}{x:Str}{e:Te}{te:TE}{pos':Pos}(hN:X.N.Nodup)(hi:X.N[i]?=some x)(hx:Loc X.env.scope x)(he:PE X e te)(hs:swapsWith e (some (.Name x pos')) pos.line X.env=pure false:=by rfl)(hf:X.fn x=true\/X.env.scope.names.lookup x=some .local:=by first|exact .inl rfl|exact .inr rfl|assumption):
  PS X (.Assign [.Name x pos'] e pos) (Du te (tu i)):=by
 intro pins s σ H D I h;refine wpAny_Assign_Name (cM (he pins s σ H _ I h) λv s1 ⟨y,H1,I1,r1,q1⟩=>?_) hs;exact vz I1 hN hi hx r1 (λs2 I2=>⟨_,H1,I2,q1⟩) hf
end
structure It where
 go:Nat->Hp->Prop
 yld:Nat->Hp->V->Hp->Prop
 stop:Nat->Hp->Prop
noncomputable def qV(X:Cx)(pins:bc)(H:Hp)(b:Td):Prop:=
 H b=none/\b≠X.env.locals/\b∉X.fs/\(b∈X.ex\/X.s₀.heap.objs.size<=b)/\(∀x c,X.env.cells.lookup x=some c->c≠b)/\∀p∈X.pn++pins,p.1≠b
theorem Inv.fpOk{X:Cx}{pins:bc}{σ:St}{H H':Hp}{s:Tg}{b:Td}(I:Inv X pins σ H s)(hb:s.heap.objs.size<=b)(hn:H' b=none):qV X pins H' b:=by
 refine⟨hn,OZ (OL I.lt hb),I.nofs hb,.inr (OQ I.sz hb),λx c e z=>?_,λp hp z=>?_⟩
 ·obtain⟨v,q⟩:=I.cell x c e;exact absurd (OL q.lt (by rw[z];exact hb)) (OM _)
 ·exact absurd (OL (Sx (I.pin p hp).1) (by rw[z];exact hb)) (OM _)
structure Turn(P:Ti)(w:Th)(K:RY)(tg:Te)(J:It)(fp:ax)(it:Td)(tn:Nat->Tl->Prop):Prop where
 mem:it∈fp
 obj:∀i h,tn i h->∀b∈fp,∃o,h.get? b=some o/\∀v,o.data≠.cell v
 keep:∀i h h',tn i h->(∀b∈fp,∀o,h.get? b=some o->h'.get? b=some o)->tn i h'
 item:∀(X:Cx),X.prog=P->X.w=w->X.K=K->X.calm=true->∀(i:Nat)(pins:bc)(s:Tg)(σ:St)(H:Hp)(E:bq),Inv X pins σ H s->(∀b∈fp,qV X pins H b)->tn i s.heap->J.go i H->
  Tu (model P w) X.A (pyNext (.ref it)) (λr s1=>∃u,r=some u/\
   Tu (model P w) X.A (letOwnedTupleGo tg (.ref it) u) (λ_ s2=>∃x H',Inv X pins σ H' s2/\RelV x u/\J.yld i H x H'/\tn (i+1) s2.heap/\∀b∈fp,H' b=none) E s1) E s
 done:∀(X:Cx),X.prog=P->X.w=w->X.K=K->X.calm=true->∀(i:Nat)(pins:bc)(s:Tg)(σ:St)(H:Hp)(E:bq),Inv X pins σ H s->(∀b∈fp,qV X pins H b)->tn i s.heap->J.stop i H->
  Tu (model P w) X.A (pyNext (.ref it)) (λr s1=>r=none/\Inv X pins σ H s1) E s
 self:∀(A:Ts)(i:Nat)(s:Tg)(Q:bq)(E:bq),tn i s.heap->Q (.ref it) s->Tu (model P w) A (pyIter (.ref it)) Q E s
noncomputable abbrev TI:=St->Hp->(It->Hp->Prop)->Prop
noncomputable def PIE(X:Cx)(pins:bc)(σ:St)(tg:Te)(R:It->Hp->Prop)(itv:S9)(s2:Tg):Prop:=
 ∃(it:Td)(fp:ax)(tn:Nat->Tl->Prop)(J:It)(H':Hp),itv=.ref it/\Inv X pins σ H' s2/\Turn X.prog X.w X.K tg J fp it tn/\tn 0 s2.heap/\(∀b∈fp,qV X pins H' b)/\R J H'
noncomputable def PI(X:Cx)(tg iter:Te)(wi:TI):Prop:=
 ∀(pins:bc)(s:Tg)(σ:St)(H:Hp)(R:It->Hp->Prop),Inv X pins σ H s->wi σ H R->
  Tu (model X.prog X.w) X.A (eval iter X.env) (λv s1=>Tu (model X.prog X.w) X.A (pyIter v) (PIE X pins σ tg R) X.xe s1) X.xe s
theorem Bw{M:Model}{A:Ts}{E:bq}{s:Tg}{tg:Te}{it:Td}{u:S9}{o:Obj}{n:String}{vs:eD}{Q:Unit->cQ}(ho:s.heap.get? it=some o)(hc:o.cls=.type n)(hd:o.data=.fields vs)
    (hn:["enumerate","zip","dict_itemiterator","dict_reverseitemiterator","odict_iterator","itertools.zip_longest","itertools.pairwise"].contains n=false) (hQ:Q () s):Tu M A (letOwnedTupleGo tg (.ref it) u) Q E s:=by
  unfold letOwnedTupleGo;cases tg<;>first
    |exact TF hQ
    | (cases u <;> first
        |exact TF hQ
        | (refine TH (wpAny_load ho ?_)
           rw[hc,hd];show Tu M A (if(["enumerate","zip","dict_itemiterator","dict_reverseitemiterator","odict_iterator","itertools.zip_longest","itertools.pairwise"].contains n&&vs[0]?==some (rawInt _))=true then _ else _) Q E s;rw[if_neg (by intro h;rw[hn,O0]at h;cases h)];exact TF hQ))
noncomputable def M9(K:RY)(a:Td):It:=
 ⟨λi H=>∃xs x,lT K H a xs/\xs[i]?=some x,λi H x H'=>H'=H/\∀xs,lT K H a xs->xs[i]?=some x,λi H=>∃xs,lT K H a xs/\xs.length<=i⟩
noncomputable def ML(K:RY)(a:Td):It:=
 ⟨λi H=>∃xs x,nX K H a xs/\xs[i]?=some x,λi H x H'=>H'=H/\∀xs,nX K H a xs->xs[i]?=some x,λi H=>∃xs,nX K H a xs/\xs.length<=i⟩
noncomputable def KZ(lo:Int)(n:Nat):It:=⟨λi _=>i<n,λi H x H'=>H'=H/\x=.int (lo+i),λi _=>n<=i⟩
theorem zX{P:Ti}{w:Th}{K:RY}{tg:Te}(a it:Td):Turn P w K tg (M9 K a) [it] it (λi h=>h.IsListIter it a i)where
 mem:=by simp
 obj:=λi h st b hb=>by
  have e:b=it:=by simpa using hb
  subst e;obtain⟨o,e,c,d⟩:=st;exact⟨o,e,λv z=>by rw[d]at z;cases z⟩
 keep:=λi h h' st k=>st.at λo e=>k it (by simp) o e
 item:=by
  intro X hP hw hK hc i pins s σ H E I hf st hg;subst hP hw hK;obtain⟨xs,x,hq,hx⟩:=hg;obtain⟨its,rv,p,hz⟩:=I.list hq;obtain⟨u,hu,ru⟩:=rv.get hx;obtain⟨f0,f1,f2,f3,f4,f5⟩:=hf it (by simp);refine wpAny_pyNext_list_item st p.isList (x:=u) (by simpa using hu) λh' st' sb=>?_;have I1:Inv X pins σ H {s with heap:=h'}:=I.turned (t':=s.toks) (λb o hb e=>(sb.2 b hb).trans e) f0 f1 f3 f4 f5;obtain⟨o,e,c,d⟩:=id st';exact⟨u,rfl,Bw (s:={s with heap:=h'}) e c d (by decide) ⟨x,H,I1,ru,⟨rfl,λys hy=>by rw[I.list_inj hy hq];exact hx⟩,st',λb hb=>(hf b hb).1⟩⟩
 done:=by
  intro X hP hw hK hc i pins s σ H E I hf st hg;subst hP hw hK;obtain⟨xs,hq,hx⟩:=hg;obtain⟨its,rv,p,hz⟩:=I.list hq;obtain⟨f0,f1,f2,f3,f4,f5⟩:=hf it (by simp);have hl:=rv.length;exact wpAny_pyNext_list_end (I.ok.hd hc) st p.isList (by simp;omega) λh' eb=>⟨rfl,I.turned (t':=s.toks) (λb o hb e=>eb b o hb e) f0 f1 f3 f4 f5⟩
 self:=λ_ _ _ _ _ st h=>wpAny_pyIter_listiter st h
theorem xg{P:Ti}{w:Th}{K:RY}{tg:Te}(a it:Td):Turn P w K tg (ML K a) [it] it (λi h=>h.IsTupleIter it a i)where
 mem:=by simp
 obj:=λi h st b hb=>by
  have e:b=it:=by simpa using hb
  subst e;obtain⟨o,e,c,d⟩:=st;exact⟨o,e,λv z=>by rw[d]at z;cases z⟩
 keep:=λi h h' st k=>st.at λo e=>k it (by simp) o e
 item:=by
  intro X hP hw hK hc i pins s σ H E I hf st hg;subst hP hw hK;obtain⟨xs,x,hq,hx⟩:=hg;obtain⟨its,rv,p,hz⟩:=I.tuple hq;obtain⟨u,hu,ru⟩:=rv.get hx;obtain⟨f0,f1,f2,f3,f4,f5⟩:=hf it (by simp);refine wpAny_pyNext_tuple_item st (show s.heap.IsTuple a its.toArray from p) (x:=u) (by simpa using hu) λh' st' sb=>?_;have I1:Inv X pins σ H {s with heap:=h'}:=I.turned (t':=s.toks) (λb o hb e=>(sb.2 b hb).trans e) f0 f1 f3 f4 f5;obtain⟨o,e,c,d⟩:=id st';exact⟨u,rfl,Bw (s:={s with heap:=h'}) e c d (by decide) ⟨x,H,I1,ru,⟨rfl,λys hy=>by rw[I.tuple_inj hy hq];exact hx⟩,st',λb hb=>(hf b hb).1⟩⟩
 done:=by
  intro X hP hw hK hc i pins s σ H E I hf st hg;subst hP hw hK;obtain⟨xs,hq,hx⟩:=hg;obtain⟨its,rv,p,hz⟩:=I.tuple hq;obtain⟨f0,f1,f2,f3,f4,f5⟩:=hf it (by simp);have hl:=rv.length;exact wpAny_pyNext_tuple_end (I.ok.hd hc) st (show s.heap.IsTuple a its.toArray from p) (by simp;omega) λh' eb=>⟨rfl,I.turned (t':=s.toks) (λb o hb e=>eb b o hb e) f0 f1 f3 f4 f5⟩
 self:=λ_ _ _ _ _ st h=>wpAny_pyIter_tupleiter st h
theorem xC{P:Ti}{w:Th}{K:RY}{tg:Te}(it:Td)(lo:Int)(n:Nat):Turn P w K tg (KZ lo n) [it] it (λi h=>IsRangeIter h it (lo+(i:Nat)*1) ((n:Int)-(i:Nat)) 1)where
 mem:=by simp
 obj:=λi h st b hb=>by
  have e:b=it:=by simpa using hb
  subst e;exact⟨_,st,λv z=>by
   have z':Data.fields _=Data.cell v:=z;cases z'⟩
 keep:=λi h h' st k=>k it (by simp) _ st
 item:=by
  intro X hP hw hK hc i pins s σ H E I hf st hg;subst hP hw hK;obtain⟨f0,f1,f2,f3,f4,f5⟩:=hf it (by simp);have W:=Walks.range (prog:=X.prog) (w:=X.w) (I.ok.hd hc) it lo 1 n;refine W.item i s _ _ hg st λv h' tk hv st' kk=>?_;obtain⟨t,rfl⟩:=hv;have I1:Inv X pins σ H {s with heap:=h',toks:=tk}:=I.turned (λb o hb e=>kk b o (by simpa using hb) e) f0 f1 f3 f4 f5;refine⟨_,rfl,Bw (s:={s with heap:=h',toks:=tk}) (n:="range_iterator") st' rfl rfl (by decide) ⟨.int (lo+i),H,I1,⟨t,?_⟩,⟨rfl,rfl⟩,st',λb hb=>(hf b hb).1⟩⟩;rw[Int.mul_one]
 done:=by
  intro X hP hw hK hc i pins s σ H E I hf st hg;subst hP hw hK;obtain⟨f0,f1,f2,f3,f4,f5⟩:=hf it (by simp);exact wpAny_pyNext_range_end (I.ok.hd hc) st (by have:n<=i:=hg;omega) λh' eb=>⟨rfl,I.turned (t':=s.toks) (λb o hb e=>eb b o hb e) f0 f1 f3 f4 f5⟩
 self:=λ_ _ _ _ _ st h=>wpAny_pyIter_rangeiter st h
section
variable{X:Cx}{tg:Te}
noncomputable def J9(K:RY)(tl:TE):TI:=λσ H R=>tl σ H λx H1=>∃a,x=.ref a/\(∃xs,lT K H1 a xs)/\R (M9 K a) H1
noncomputable def M1(K:RY)(tl:TE):TI:=λσ H R=>tl σ H λx H1=>∃a,x=.ref a/\(∃xs,nX K H1 a xs)/\R (ML K a) H1
theorem yF{l:Te}{tl:TE}(hl:PE X l tl):PI X tg l (J9 X.K tl):=by
 intro pins s σ H R I h;refine cM (hl pins s σ H _ I h) λv s1 ⟨x,H1,I1,r1,q1⟩=>?_;obtain⟨a,e,⟨xs,hq⟩,q⟩:=q1;subst e;cases r1;obtain⟨its,rv,p,hz⟩:=I1.list hq;refine TJ p.isList ?_;refine⟨s1.heap.objs.size,[s1.heap.objs.size],_,_,H1,rfl,I1.kept (t':=s1.toks) λb o e=>SA _ e,zX a _,⟨_,SD _ rfl,rfl,rfl⟩,λb hb=>?_,q⟩;have e:b=s1.heap.objs.size:=by simpa using hb
 subst e;exact I1.fpOk (O1 _) (I1.hok.fresh (O1 _))
theorem HL{l:Te}{tl:TE}(hl:PE X l tl):PI X tg l (M1 X.K tl):=by
 intro pins s σ H R I h;refine cM (hl pins s σ H _ I h) λv s1 ⟨x,H1,I1,r1,q1⟩=>?_;obtain⟨a,e,⟨xs,hq⟩,q⟩:=q1;subst e;cases r1;obtain⟨its,rv,p,hz⟩:=I1.tuple hq;refine wpAny_pyIter_tuple (show s1.heap.IsTuple a its.toArray from p) ?_;refine⟨s1.heap.objs.size,[s1.heap.objs.size],_,_,H1,rfl,I1.kept (t':=s1.toks) λb o e=>SA _ e,xg a _,⟨_,SD _ rfl,rfl,rfl⟩,λb hb=>?_,q⟩;have e:b=s1.heap.objs.size:=by simpa using hb
 subst e;exact I1.fpOk (O1 _) (I1.hok.fresh (O1 _))
theorem vE{pins:bc}{σ:St}{H:Hp}{s:Tg}{R:It->Hp->Prop}{E:bq}{lo hi:Int}{t u v:Tok}{tk:Nat}(I:Inv X pins σ H s)(h1:-(2^62)<=lo)(h2:lo<2^62)(h3:-(2^62)<=hi)(h4:hi<2^62)
  (q:R (KZ lo (hi-lo).toNat) H):Tu (model X.prog X.w) X.A (pyIter (.ref s.heap.objs.size)) (PIE X pins σ tg R) E {s with heap:=s.heap.push {cls:=.type "range",data:=.fields #[.int lo t,.int hi u,.int 1 v]},toks:=tk}:=by
 refine wpAny_pyIter_range (IsRange.new ..) (small_one h1 h2 h3 h4) ?_;have I1:Inv X pins σ H {s with heap:=s.heap.push {cls:=.type "range",data:=.fields #[.int lo t,.int hi u,.int 1 v]},toks:=tk}:=I.kept λb o e=>SA _ e;refine⟨(s.heap.push {cls:=.type "range",data:=.fields #[.int lo t,.int hi u,.int 1 v]}).objs.size,[(s.heap.push {cls:=.type "range",data:=.fields #[.int lo t,.int hi u,.int 1 v]}).objs.size],_,_,H,rfl,
  I1.kept (t':=tk) λb o e=>SA _ e,xC _ lo (hi-lo).toNat,?_,λb hb=>?_,q⟩
 ·have e1:lo+((0:Nat):Int)*1=lo:=by simp
  have e2:(((hi-lo).toNat:Nat):Int)-((0:Nat):Int)=Builtin.Range.rangeSize lo hi 1:=by rw[rangeSize_one];split<;>omega
  show IsRangeIter _ _ (lo+((0:Nat):Int)*1) ((((hi-lo).toNat:Nat):Int)-((0:Nat):Int)) 1;rw[e1,e2];exact SD _ rfl
 ·have e:b=(s.heap.push {cls:=.type "range",data:=.fields #[.int lo t,.int hi u,.int 1 v]}).objs.size:=by simpa using hb
  subst e;exact I1.fpOk (O1 _) (I1.hok.fresh (O1 _))
noncomputable def JW(ta:TA):TI:=λσ H R=>ta σ H λvs H1=>∃j:Int,vs=[.int j]/\-(2^62)<=j/\j<2^62/\R (KZ 0 j.toNat) H1
noncomputable def Kb(ta:TA):TI:=λσ H R=>ta σ H λvs H1=>∃i j:Int,vs=[.int i,.int j]/\(-(2^62)<=i/\i<2^62/\-(2^62)<=j/\j<2^62)/\R (KZ i (j-i).toNat) H1
theorem zR{a:Te}{ta:TA}{p pos:Pos}(hg:Gl X "range")(hm:X.mg "range"=none)(ha:PA X [a] ta)(hs:Tv [a] X.env=[(false,eval a X.env)]:=by rfl):PI X tg (.Call (.Name "range" p) [a] [] pos) (JW ta):=by
 intro pins s σ H R I h;refine Call_ (jP I hg hm boot_range (SL (cM (ha pos pins s σ H _ I h) λus s1 ⟨vs,H1,I1,r1,q1⟩=>?_) hs rfl));obtain⟨j,e,q1,q2,q⟩:=q1;subst e;cases r1 with
 |cons r rr=>
  cases rr;obtain⟨t,rfl⟩:=r;exact call_range_1 (vE I1 ‹0› ‹0› q1 q2 (by simpa using q))
theorem Ah{a b:Te}{ta:TA}{p pos:Pos}(hg:Gl X "range")(hm:X.mg "range"=none)(ha:PA X [a,b] ta)(hs:Tv [a,b] X.env=[(false,eval a X.env),(false,eval b X.env)]:=by rfl)(hs2:Tv [b] X.env=[(false,eval b X.env)]:=by rfl):
  PI X tg (.Call (.Name "range" p) [a,b] [] pos) (Kb ta):=by
 intro pins s σ H R I h;refine Call_ (jP I hg hm boot_range (SL (cM (ha pos pins s σ H _ I h) λus s1 ⟨vs,H1,I1,r1,q1⟩=>?_) (by rw[hs,hs2]) (by rw[hs2];rfl)));obtain⟨i,j,e,⟨q1,q2,q3,q4⟩,q⟩:=q1;subst e;cases r1 with
 |cons r rr=>
  cases rr with
  |cons r' rr=>
   cases rr;obtain⟨t,rfl⟩:=r;obtain⟨t',rfl⟩:=r';exact call_range_2 (vE I1 q1 q2 q3 q4 q)
noncomputable def Mm(wi:TI)(g:TG)(tb:TS):TS:=λD σ H=>wi σ H λJ H1=>∃W:Nat->Nat->St->Hp->Prop,(∃m,W 0 m σ H1)/\∀i m σ H,W i m σ H->
 (J.stop i H/\D.nx σ H)\/(J.go i H/\∃N:St->Hp->Prop,(∀σ' H',N σ' H'->∃m',m'<m/\W (i+1) m' σ' H')/\∀x H',J.yld i H x H'->g x σ H' λσ2 H2=>tb {D with nx:=N,ct:=N,bk:=D.nx} σ2 H2)
noncomputable def qw(fp:ax)(h:Tl):bc:=fp.filterMap λb=>(h.get? b).map λo=>(b,o)
theorem jt{fp:ax}{h:Tl}{b:Td}{o:Obj}(hb:b∈fp)(e:h.get? b=some o):(b,o)∈qw fp h:=List.mem_filterMap.mpr ⟨b,hb,by rw[e];rfl⟩
theorem Az{fp:ax}{h:Tl}{p:Td×Obj}(hp:p∈qw fp h):p.1∈fp/\h.get? p.1=some p.2:=by
 obtain⟨b,hb,e⟩:=List.mem_filterMap.mp hp;cases q:h.get? b with
 |none=>rw[q]at e;cases e
 |some o=>
  rw[q]at e;have e':(b,o)=p:=Option.some.inj e;subst e';exact⟨hb,q⟩
theorem Inv.pinned{pins:bc}{σ:St}{H:Hp}{s:Tg}{fp:ax}(I:Inv X pins σ H s)(hf:∀b∈fp,qV X pins H b)(ho:∀b∈fp,∃o,s.heap.get? b=some o/\∀v,o.data≠.cell v):Inv X (pins++qw fp s.heap) σ H s:=
 I.pins_of λp hp=>(List.mem_append.mp hp).elim (λz=>I.pin p (O2 _ z)) λz=>by
  obtain⟨hb,e⟩:=Az z;obtain⟨f0,f1,f2,_⟩:=hf p.1 hb;obtain⟨o,e',d⟩:=ho p.1 hb;rw[e]at e';cases e';exact⟨e,f0,f1,f2,d⟩
theorem Inv.unpinned{pins pl:bc}{σ:St}{H:Hp}{s:Tg}(I:Inv X (pins++pl) σ H s):Inv X pins σ H s:=I.pins_of λp hp=>I.pin p (O2 _ (OW _ hp))
theorem HJ{iter:Te}{body:eE}{wi:TI}{g:TG}{tb:TS}{pos:Pos}(hp:TK (model X.prog X.w) X.A X.env X.xe)(hc:X.calm=true)(hi:PI X tg iter wi)(hg:PG X tg g)(hb:vA X body tb)
  (hs:∀x,TL iter X.env x=pure x:=by intro _;rfl):PS X (.For tg iter body [] pos) (Mm wi g tb):=by
 intro pins s σ H D I h;refine wpAny_For (cM (hi pins s σ H _ I h) λv s1 h1=>cM h1 λitv s2 h2=>?_) hs;obtain⟨it,fp,tn,J,H2,e,I2,T,st2,f2,W,⟨m0,w0⟩,turn⟩:=h2;subst e;have stat:∀{H':Hp},(∀b∈fp,H' b=none)->∀b∈fp,qV X pins H' b:=λhn b hb=>⟨hn b hb,(f2 b hb).2⟩
 refine codeAny_forLoop_any (λn s'=>∃i σ' H',Inv X pins σ' H' s'/\tn i s'.heap/\(∀b∈fp,H' b=none)/\W i n σ' H') ?_ m0 ⟨0,σ,H2,I2,st2,λb hb=>(f2 b hb).1,w0⟩;rintro n s3 ⟨i,σ3,H3,I3,st3,fr3,w3⟩;rcases turn i n σ3 H3 w3 with⟨stop,qn⟩|⟨go,N,hN,step⟩
 ·refine TN hp (cM (T.done X rfl rfl rfl hc i pins s3 σ3 H3 X.xe I3 (stat fr3) st3 stop) λr s4 ⟨hr,I4⟩=>?_);subst hr;exact TC ⟨σ3,H3,I4,qn⟩
 ·refine TN hp (cM (T.item X rfl rfl rfl hc i pins s3 σ3 H3 X.xe I3 (stat fr3) st3 go) λr s4 ⟨u,hr,h4⟩=>?_);subst hr;refine TN hp (cM h4 λ_ s5 ⟨x,H5,I5,r5,y5,st5,fr5⟩=>?_);have I5':=I5.pinned (stat fr5) (T.obj _ _ st5);refine TN hp (cM (hg _ s5 σ3 H5 x u _ I5' r5 (step x H5 y5)) λ_ s6 ⟨σ6,H6,I6,q6⟩=>?_);refine TN hp (cM (hb _ s6 σ6 H6 _ I6 q6) λf s7 q7=>?_);have again:∀{σ7:St}{H7:Hp},Inv X (pins++qw fp s5.heap) σ7 H7 s7->N σ7 H7->∃m,m<n/\∃i σ' H',Inv X pins σ' H' s7/\tn i s7.heap/\(∀b∈fp,H' b=none)/\W i m σ' H':=λ{σ7 H7} I7 n7=>by
   obtain⟨m',hm,w7⟩:=hN σ7 H7 n7;refine⟨m',hm,i+1,σ7,H7,I7.unpinned,T.keep _ _ _ st5 λb hb o e=>(I7.pin (b,o) (O2 _ (O2 _ (jt hb e)))).1,λb hb=>?_,w7⟩;obtain⟨o,e,d⟩:=T.obj _ _ st5 b hb;exact(I7.pin (b,o) (O2 _ (O2 _ (jt hb e)))).2.1
  cases f with
  |next=>obtain⟨σ7,H7,I7,n7⟩:=q7;exact again I7 n7
  |cont=>obtain⟨σ7,H7,I7,n7⟩:=q7;exact again I7 n7
  |brk=>obtain⟨σ7,H7,I7,q7⟩:=q7;exact⟨σ7,H7,I7.unpinned,q7⟩
  |ret v=>obtain⟨x7,σ7,H7,I7,r7,q7⟩:=q7;exact⟨x7,σ7,H7,I7.unpinned,r7,q7⟩
end
noncomputable abbrev R2:=V->V->Hp->VK->Prop
noncomputable def iG(X:Cx)(f:S9->S9->Sem S9)(r:R2):Prop:=
 ∀(pins:bc)(s:Tg)(σ:St)(H:Hp)(x y:V)(v u:S9)(Q:VK),Inv X pins σ H s->RelV x v->RelV y u->r x y H Q->
  Tu (model X.prog X.w) X.A (f v u) (EP X pins σ Q) X.xe s
noncomputable def Mu(X:Cx)(f:S9->Sem S9)(r:V->Hp->VK->Prop):Prop:=
 ∀(pins:bc)(s:Tg)(σ:St)(H:Hp)(x:V)(v:S9)(Q:VK),Inv X pins σ H s->RelV x v->r x H Q->
  Tu (model X.prog X.w) X.A (f v) (EP X pins σ Q) X.xe s
noncomputable def dS(X:Cx)(f:S9)(r:aK->Hp->VK->Prop):Prop:=
 ∀(pins:bc)(s:Tg)(σ:St)(H:Hp)(xs:aK)(us:aU)(Q:VK),Inv X pins σ H s->Vals xs us->r xs H Q->
  Tu (model X.prog X.w) X.A (call f us) (EP X pins σ Q) X.xe s
noncomputable def Mp(X:Cx)(r:V->Hp->(Bool->Hp->Prop)->Prop):Prop:=
 ∀(pins:bc)(s:Tg)(σ:St)(H:Hp)(x:V)(v:S9)(Q:Bool->Hp->Prop),Inv X pins σ H s->RelV x v->r x H Q->
  Tu (model X.prog X.w) X.A (truthy v) (TP X pins σ Q) X.xe s
noncomputable def JH(r:R2)(ta tb:TE):TE:=λσ H Q=>ta σ H λx H1=>tb σ H1 λy H2=>r x y H2 Q
noncomputable def Nw(r:V->Hp->VK->Prop)(ta:TE):TE:=λσ H Q=>ta σ H λx H1=>r x H1 Q
noncomputable def rI(C:Int->Int->Prop)(g:Int->Int->V):R2:=λx y H Q=>∃i j,x=.int i/\y=.int j/\C i j/\Q (g i j) H
noncomputable def AQ(g:Int->Int->V):R2:=λx y H Q=>∃i j,x=.int i/\y=.int j/\Q (g i j) H
noncomputable def rU(g:Int->V):V->Hp->VK->Prop:=λx H Q=>∃i,x=.int i/\Q (g i) H
section
variable{X:Cx}{a b c:Te}{ta tb tc:TE}{pos:Pos}
theorem He(ha:PE X a ta)(hb:PE X b tb){pins:bc}{s:Tg}{σ:St}{H:Hp}{R:V->V->Hp->Prop}(I:Inv X pins σ H s)
  (h:ta σ H λx H1=>tb σ H1 λy H2=>R x y H2) {Q:bq} {f:S9->S9->Sem S9}
  (hf:∀v u s2 x y H2,Inv X pins σ H2 s2->RelV x v->RelV y u->R x y H2->Tu (model X.prog X.w) X.A (f v u) Q X.xe s2):
  Tu (model X.prog X.w) X.A (eval a X.env) (λv s₁=>Tu (model X.prog X.w) X.A (eval b X.env) (λu s₂=>Tu (model X.prog X.w) X.A (f v u) Q X.xe s₂) X.xe s₁) X.xe s:=by
 refine cM (ha pins s σ H _ I h) λv s1 ⟨x,H1,I1,r1,q1⟩=>?_;refine cM (hb pins s1 σ H1 _ I1 q1) λu s2 ⟨y,H2,I2,r2,q2⟩=>?_;exact hf v u s2 x y H2 I2 r1 r2 q2
theorem JX{op:Operator}{r:R2}(ho:iG X (TQ op) r)(ha:PE X a ta)(hb:PE X b tb):PE X (.BinOp a op b pos) (JH r ta tb):=by
 intro pins s σ H Q I h;exact wpAny_BinOp (He ha hb I h λv u s2 x y H2 I2 rx ry q=>ho pins s2 σ H2 x y v u Q I2 rx ry q)
theorem JA{op:UnaryOp}{r:V->Hp->VK->Prop}(ho:Mu X (unaryOp op) r)(ha:PE X a ta):PE X (.UnaryOp op a pos) (Nw r ta):=by
 intro pins s σ H Q I h;exact UnaryOp_ (cM (ha pins s σ H _ I h) λv s1 ⟨x,H1,I1,r1,q1⟩=>ho pins s1 σ H1 x v Q I1 r1 q1)
theorem KN{f:S9->S9->Sem S9}{C:Int->Int->Prop}{g:Int->Int->Int}
  (rule:∀(i j:Int)(t u:Tok)(s:Tg)(Q:bq)(E:bq),C i j->Q (.int (g i j) s.toks) {s with toks:=s.toks+1}->Tu (model X.prog X.w) X.A (f (.int i t) (.int j u)) Q E s):
  iG X f (rI C λi j=>.int (g i j)):=by
 intro pins s σ H x y v u Q I rx ry h;obtain⟨i,j,rfl,rfl,hc,q⟩:=h;obtain⟨t,rfl⟩:=rx;obtain⟨t',rfl⟩:=ry;exact rule i j t t' s _ _ hc ⟨.int (g i j),H,I.tok _,⟨_,rfl⟩,q⟩
theorem Ij{f:S9->S9->Sem S9}{g:Int->Int->Int}
  (rule:∀(i j:Int)(t u:Tok)(s:Tg)(Q:bq)(E:bq),Q (.int (g i j) s.toks) {s with toks:=s.toks+1}->Tu (model X.prog X.w) X.A (f (.int i t) (.int j u)) Q E s):
  iG X f (AQ λi j=>.int (g i j)):=by
 intro pins s σ H x y v u Q I rx ry h;obtain⟨i,j,rfl,rfl,q⟩:=h;obtain⟨t,rfl⟩:=rx;obtain⟨t',rfl⟩:=ry;exact rule i j t t' s _ _ ⟨.int (g i j),H,I.tok _,⟨_,rfl⟩,q⟩
theorem Hz{f:S9->S9->Sem S9}{g:Int->Int->Bool}
  (rule:∀(i j:Int)(t u:Tok)(s:Tg)(Q:bq)(E:bq),Q (.bool (g i j)) s->Tu (model X.prog X.w) X.A (f (.int i t) (.int j u)) Q E s):
  iG X f (AQ λi j=>.bl (g i j)):=by
 intro pins s σ H x y v u Q I rx ry h;obtain⟨i,j,rfl,rfl,q⟩:=h;obtain⟨t,rfl⟩:=rx;obtain⟨t',rfl⟩:=ry;exact rule i j t t' s _ _ ⟨.bl (g i j),H,I,rfl,q⟩
noncomputable def Kh(i j:Int):Prop:=0<=j/\j<=1000000/\i.natAbs<2^64
noncomputable def G4(i j:Int):Prop:=(-(2^64)<i/\i<2^64)\/(-(2^64)<j/\j<2^64)
theorem G4.ok{i j:Int}(h:G4 i j):IntMulOk i j:=by
 rcases h with⟨h1,h2⟩|⟨h1,h2⟩
 ·exact .of_left (intBits_le_64 h1 h2)
 ·exact .of_right (intBits_le_64 h1 h2)
theorem xo(k:Nat):(0:Int)<=2^k:=by
 rw[two_pow_cast];exact O3 _
theorem Jb:iG X (TQ .Add) (AQ λi j=>.int (i+j)):=Ij λ_ _ _ _ _ _ _ q=>add_int q
theorem IE:iG X (TQ .Sub) (AQ λi j=>.int (i-j)):=Ij λ_ _ _ _ _ _ _ q=>sub_int q
theorem C0:iG X (TQ .Mult) (rI G4 λi j=>.int (i*j)):=KN λ_ _ _ _ _ _ _ hc q=>mul_int q hc.ok
theorem IJ:iG X (TQ .Mod) (rI (λ_ j=>0<j) λi j=>.int (i%j)):=KN λi j _ _ _ _ _ hc q=>by
 have h1:(0:Int)<j:=hc;exact mod_int' ‹0› (by rw[Int.fmod_eq_emod_of_nonneg i ‹0›];exact q)
theorem Ie:iG X (TQ .Pow) (rI Kh λi j=>.int (i^j.toNat)):=KN λ_ _ _ _ _ _ _ hc q=>pow_int_small hc.1 hc.2.1 hc.2.2 q
theorem HU:iG X (TQ .RShift) (rI (λ_ j=>0<=j) λi j=>.int (i/2^j.toNat)):=KN λi j _ _ _ _ _ hc q=>
 rshift_int hc (by rw[O5 i (xo _)];exact q)
theorem HB:iG X (TQ .BitAnd) (AQ λi j=>.int (Builtin.bitAnd i j)):=Ij λ_ _ _ _ _ _ _ q=>and_int q
theorem N2{f:S9->Sem S9}{g:Int->Int}
  (rule:∀(i:Int)(t:Tok)(s:Tg)(Q:bq)(E:bq),Q (.int (g i) s.toks) {s with toks:=s.toks+1}->Tu (model X.prog X.w) X.A (f (.int i t)) Q E s):
  Mu X f (rU λi=>.int (g i)):=by
 intro pins s σ H x v Q I rx h;obtain⟨i,rfl,q⟩:=h;obtain⟨t,rfl⟩:=rx;exact rule i t s _ _ ⟨.int (g i),H,I.tok _,⟨_,rfl⟩,q⟩
theorem IM:Mu X (unaryOp .USub) (rU λi=>.int (-i)):=N2 λ_ _ _ _ _ q=>neg_int q
end
section
variable{X:Cx}{a b c:Te}{ta tb tc:TE}{pos:Pos}
theorem AX{pins:bc}{σ:St}{H:Hp}{s:Tg}{Q:VK}{k k':Bool}(I:Inv X pins σ H s)(q:Q (.bl k) H)(e:k=k'):EP X pins σ Q (.bool k') s:=by
 subst e;exact⟨.bl k,H,I,rfl,q⟩
theorem Kj:iG X (TR .Lt) (AQ λi j=>.bl (decide (i<j))):=Hz λ_ _ _ _ _ _ _ q=>lt_int q
theorem rN:iG X (TR .LtE) (AQ λi j=>.bl (decide (i<=j))):=Hz λ_ _ _ _ _ _ _ q=>le_int q
theorem GZ:iG X (TR .Gt) (AQ λi j=>.bl (decide (j<i))):=Hz λ_ _ _ _ _ _ _ q=>gt_int q
theorem AA:iG X (TR .Lt) (λx y H Q=>∃i j,x=.str i/\y=.str j/\Q (.bl (decide (i.cps.toList<j.cps.toList))) H):=by
 intro pins s σ H x y v u Q I rx ry h;obtain⟨i,j,rfl,rfl,q⟩:=h;obtain⟨t,rfl⟩:=rx;obtain⟨t',rfl⟩:=ry;exact lt_str (AX I q rfl)
theorem iu(b:Te){op:TU}(h:op≠.In:=by decide)(h2:op≠.NotIn:=by decide):TV op b=false:=by
 have e1:(op==CmpOp.In)=false:=by cases op<;>first|rfl|exact absurd rfl h
 have e2:(op==CmpOp.NotIn)=false:=by cases op<;>first|rfl|exact absurd rfl h2
 cases b<;>simp[TV,e1,e2]
theorem D5{op:TU}{r:R2}(ho:iG X (TR op) r)(ha:PE X a ta)(hb:PE X b tb)(hm:TV op b=false):PE X (.Compare a [op] [b] pos) (JH r ta tb):=by
 intro pins s σ H Q I h;exact wpAny_Compare1 (He ha hb I h λv u s2 x y H2 I2 rx ry q=>ho pins s2 σ H2 x y v u Q I2 rx ry q) hm
noncomputable def Cw(t:TE):TT:=λσ H Q=>t σ H λx H'=>∃k,x=.bl k/\Q k H'
theorem FR{op:TU}{r:R2}(ho:iG X (TR op) r)(ha:PE X a ta)(hb:PE X b tb)(hm:TV op b=false):PT X (.Compare a [op] [b] pos) (Cw (JH r ta tb)):=by
 intro pins s σ H Q I h;refine wpAny_isTrue_Compare1 (cM (ha pins s σ H _ I h) λv s1 ⟨x,H1,I1,r1,q1⟩=>cM (hb pins s1 σ H1 _ I1 q1) λu s2 ⟨y,H2,I2,r2,q2⟩=>
  cM (ho pins s2 σ H2 x y v u _ I2 r1 r2 q2) λc s3 ⟨z,H3,I3,r3,k,e,q3⟩=>?_) hm
 subst e;cases r3;exact TB ⟨H3,I3,q3⟩
noncomputable def xK(r r':R2)(ta tb tc:TE):TE:=λσ H Q=>ta σ H λx H1=>tb σ H1 λy H2=>r x y H2 λz H3=>∃k,z=.bl k/\
 (if k=true then tc σ H3 λw' H4=>r' y w' H4 Q else Q (.bl false) H3)
theorem Bf{op op':TU}{r r':R2}(ho:iG X (TR op) r)(ho':iG X (TR op') r')(ha:PE X a ta)(hb:PE X b tb)(hc:PE X c tc)
  (hm:lastMarks [op,op'] [b,c]=false:=by with_unfolding_all rfl):PE X (.Compare a [op,op'] [b,c] pos) (xK r r' ta tb tc):=by
 intro pins s σ H Q I h;refine Compare_chain (cM (ha pins s σ H _ I h) λv s1 ⟨x,H1,I1,r1,q1⟩=>chain_link (cM (hb pins s1 σ H1 _ I1 q1) λu s2 ⟨y,H2,I2,r2,q2⟩=>
  cM (ho pins s2 σ H2 x y v u _ I2 r1 r2 q2) λd s3 ⟨z,H3,I3,r3,k,e,q3⟩=>?_)) hm
 subst e;cases r3;refine TB ?_;cases k with
 |false=>exact ite_ff ⟨.bl false,H3,I3,rfl,q3⟩
 |true=>exact ite_tt (chain_last (cM (hc pins s3 σ H3 _ I3 q3) λw' s4 ⟨z',H4,I4,r4,q4⟩=>ho' pins s4 σ H4 y z' u w' Q I4 r2 r4 q4))
theorem Bv{op op':TU}{r r':R2}(ho:iG X (TR op) r)(ho':iG X (TR op') r')(ha:PE X a ta)(hb:PE X b tb)(hc:PE X c tc)
  (hm:lastMarks [op,op'] [b,c]=false:=by with_unfolding_all rfl):PT X (.Compare a [op,op'] [b,c] pos) (Cw (xK r r' ta tb tc)):=by
 intro pins s σ H Q I h;refine isTrue_chain (cM (ha pins s σ H _ I h) λv s1 ⟨x,H1,I1,r1,q1⟩=>test_link (cM (hb pins s1 σ H1 _ I1 q1) λu s2 ⟨y,H2,I2,r2,q2⟩=>
  cM (ho pins s2 σ H2 x y v u _ I2 r1 r2 q2) λd s3 ⟨z,H3,I3,r3,k,e,q3⟩=>?_)) hm
 subst e;cases r3;refine TB ?_;cases k with
 |false=>
  obtain⟨k',e',q'⟩:=q3;cases e';exact ite_ff ⟨H3,I3,q'⟩
 |true=>
  refine ite_tt (test_last (cM (hc pins s3 σ H3 _ I3 q3) λw' s4 ⟨z',H4,I4,r4,q4⟩=>cM (ho' pins s4 σ H4 y z' u w' _ I4 r2 r4 q4) λd' s5 ⟨z2,H5,I5,r5,k2,e2,q5⟩=>?_));subst e2;cases r5;exact TB ⟨H5,I5,q5⟩
noncomputable def KO(K:RY)(x:V)(H:Hp)(k:Bool):Prop:=
 match x with
 |.non=>k=false
 |.bl b=>k=b
 |.int i=>k=(i !=0)
 |.str y=>y.length<=Tn/\k=((y.length:Int) !=0)
 |.byt y=>y.size<=Tn/\k=((y.size:Int) !=0)
 |.ref p=>(∃xs,lT K H p xs/\k=!xs.isEmpty)\/(∃xs,nX K H p xs/\k=!xs.isEmpty)\/∃kvs,H p=some (.dK kvs)/\k=!kvs.isEmpty
 |_=>False
theorem wu{κ:Type}{kvs:List (κ×V)}{vs:List (κ×S9)}(r:KV kvs vs):(!vs.isEmpty)=!kvs.isEmpty:=by
 cases r<;>rfl
theorem qg{xs:aK}{its:aU}(r:Vals xs its):(!its.toArray.isEmpty)=!xs.isEmpty:=by
 cases r<;>simp
theorem nK:(Tn:Nat)<2^63:=by rw[TY];decide
theorem Jv:Mp X (λx H Q=>∃k,KO X.K x H k/\Q k H):=by
 intro pins s σ H x v Q I rx h;obtain⟨k,e,q⟩:=h;have hl:=nK;have hs:Tn=16777216:=TY;cases x with
 |non=>
  cases rx;have e':k=false:=e;subst e';exact truthy_none ⟨H,I,q⟩
 |bl b=>
  cases rx;have e':k=b:=e;subst e';exact TB ⟨H,I,q⟩
 |int i=>
  obtain⟨t,rfl⟩:=rx;have e':k=(i !=0):=e;subst e';exact PySem.P.truthy_int ⟨H,I,q⟩
 |str y=>
  obtain⟨t,rfl⟩:=rx;obtain⟨hy,e'⟩:y.length<=Tn/\k=((y.length:Int) !=0):=e;subst e';exact PySem.P.truthy_str ‹0› ⟨H,I.tok _,q⟩
 |byt y=>
  obtain⟨t,rfl⟩:=rx;obtain⟨hy,e'⟩:y.size<=Tn/\k=((y.size:Int) !=0):=e;subst e';exact PySem.W.truthy_bytes ‹0› ⟨H,I.tok _,q⟩
 |ref p=>
  cases rx;have e':(∃xs,lT X.K H p xs/\k=!xs.isEmpty)\/(∃xs,nX X.K H p xs/\k=!xs.isEmpty)\/∃kvs,H p=some (.dK kvs)/\k=!kvs.isEmpty:=e;rcases e' with⟨xs,hx,e'⟩|⟨xs,hx,e'⟩|⟨kvs,hx,e'⟩
  ·subst e';obtain⟨its,r,pl,hz⟩:=I.list hx;have hlen:=r.length;exact wpAny_truthy_list pl.isList (by simp only[O6];omega) ⟨H,I.tok _,by rw[qg r];exact q⟩
  ·subst e';obtain⟨its,r,pl,hz⟩:=I.tuple hx;have hlen:=r.length;exact truthy_tuple pl (by simp only[O6];omega) ⟨H,I.tok _,by rw[qg r];exact q⟩
  ·subst e';obtain⟨hz,hS,vs,r,m⟩:kvs.length<=Tn/\(p==sysModules)=false/\∃vs,KV kvs vs/\s.heap.DictOf (bP X.prog X.w) p vs:=I.hok p _ hx;have hlen:kvs.length=vs.length:=Paired.length r;exact wpAny_truthy_dict hS m ‹0› ⟨H,I.tok _,by rw[wu r];exact q⟩
 |_=>exact(show False from e).elim
theorem Dh(ha:PE X a ta)(he:∀whole,isTrue a X.env whole=(do let v<-whole;standAt a.pos;holding [v] (truthy v))):
  PT X a (λσ H Q=>ta σ H λx H'=>∃k,KO X.K x H' k/\Q k H'):=by
 intro pins s σ H Q I h;exact isTrue_plain (cM (ha pins s σ H _ I h) λv s1 ⟨x,H1,I1,r1,q1⟩=>Jv pins s1 σ H1 x v Q I1 r1 q1) (he _)
theorem wq:iG X (TQ .Add) (λx y H Q=>∃i j,x=.str i/\y=.str j/\i.length+j.length<=Tn/\Q (.str (i++j)) H):=by
 intro pins s σ H x y v u Q I rx ry h;obtain⟨i,j,rfl,rfl,hz,q⟩:=h;obtain⟨t,rfl⟩:=rx;obtain⟨t',rfl⟩:=ry;exact add_str (λt' tk=>⟨.str (i++j),H,I.tok _,⟨_,rfl⟩,q⟩) hz
theorem vals1{x:V}{us:aU}(r:Vals [x] us):∃u,us=[u]/\RelV x u:=by
 cases r with
 |cons r1 r2=>cases r2;exact⟨_,rfl,r1⟩
theorem vals2{x y:V}{us:aU}(r:Vals [x,y] us):∃u w',us=[u,w']/\RelV x u/\RelV y w':=by
 cases r with
 |cons r1 r2=>
  cases r2 with
  |cons r3 r4=>cases r4;exact⟨_,_,rfl,r1,r3⟩
theorem AF(hc:X.calm=true):dS X (.builtin "max") (λxs H Q=>∃i j,xs=[.int i,.int j]/\Q (.int (if j>i then j else i)) H):=by
 intro pins s σ H xs us Q I r h;obtain⟨i,j,rfl,q⟩:=h;obtain⟨u,w',rfl,⟨t,rfl⟩,⟨t',rfl⟩⟩:=vals2 r;refine max_two_ints (I.ok.hd hc) λh' tk k=>⟨_,H,I.kept k,?_,q⟩
 by_cases hj:j>i
 ·rw[if_pos hj,if_pos hj];exact⟨_,rfl⟩
 ·rw[if_neg hj,if_neg hj];exact⟨_,rfl⟩
theorem zv(hc:X.calm=true):dS X (.builtin "min") (λxs H Q=>∃i j,xs=[.int i,.int j]/\Q (.int (if j<i then j else i)) H):=by
 intro pins s σ H xs us Q I r h;obtain⟨i,j,rfl,q⟩:=h;obtain⟨u,w',rfl,⟨t,rfl⟩,⟨t',rfl⟩⟩:=vals2 r;refine min_two_ints (I.ok.hd hc) λh' tk k=>⟨_,H,I.kept k,?_,q⟩
 by_cases hj:j<i
 ·rw[if_pos hj,if_pos hj];exact⟨_,rfl⟩
 ·rw[if_neg hj,if_neg hj];exact⟨_,rfl⟩
theorem sf:dS X (.type "int") (λxs H Q=>(∃i,xs=[.int i]/\Q (.int i) H)\/∃k,xs=[.bl k]/\Q (.int (if k then 1 else 0)) H):=by
 intro pins s σ H xs us Q I r h;rcases h with⟨i,rfl,q⟩|⟨k,rfl,q⟩
 ·obtain⟨u,rfl,t,rfl⟩:=vals1 r;exact call_int_int ⟨.int i,H,I,⟨_,rfl⟩,q⟩
 ·obtain⟨u,rfl,r1⟩:=vals1 r;cases r1;exact call_int_bool ⟨.int (if k then 1 else 0),H,I.tok _,⟨_,rfl⟩,q⟩
end
structure B5(h:Tl)(x dx C:Td)(mA:cj):Prop where
 obj:h.get? x=some (RW C dx)
 ns:h.Ns1 dx mA
 ne:dx≠x
theorem zu{h:Tl}{dx:Td}{mA:cj}(n:h.Ns1 dx mA):∃od,h.get? dx=some od/\∀name,RZ name od=some (mA name):=by
 obtain⟨o,es,ep,ho,hd,hk,_,hm⟩:=n;refine⟨o,ho,λname=>?_⟩;have e:=hm name;unfold nsFind findBy at e;rw[<-Array.find?_toList]at e;unfold RZ;rw[hd];dsimp only;split
 ·rename_i y q;rw[q]at e;exact congrArg some e
 ·rename_i q;rw[q]at e;have a:es.toList.any (·.refKey)=false:=by
   rw[List.any_eq_false];intro y hy;obtain⟨z,t,hkey⟩:=hk y (Array.mem_toList_iff.mp hy);simp[DictEntry.refKey,hkey]
  have a':¬es.toList.any (·.refKey)=true:=by rw[a];exact O7
  rw[if_neg a'];exact congrArg some e
theorem B5.look{h:Tl}{x dx C:Td}{mA:cj}(I:B5 h x dx C mA):∃od,PySem.W.InstAt h x (RW C dx) C (some od)/\∀name,RZ name od=some (mA name):=
 let ⟨od,ho,hl⟩:=zu I.ns
 ⟨od,⟨I.obj,rfl,rfl,ho⟩,hl⟩
section
variable{prog:Ti}{w:Th}{A:Ts}{E:bq}{s:Tg}{K:RY}{x dx C f:Td}{mA:cj}{name:Str}{v:S9}
theorem Dx{pl:Sem Bool}{Q:S9×List S9->cQ}(X:K.In s.heap)(I:B5 s.heap x dx C mA)(hg:R3 K C name=true)
  (hf:R4 K (.ref C) name=some (some (.ref f))) (ht:R5 K (.ref f)=true) (hv:mA name=none) (h:Q (.ref f,[.ref x]) s):
  Tu (model prog w) A (getMethod (.ref x) name pl) Q E s:=by
 obtain⟨od,J,hl⟩:=I.look;exact PySem.W.method_fn X J (R6 hg).1 (R6 hg).2 hf (beq_iff_eq.mp ht) (by show(RZ name od).map (·.isSome)=some false;rw[hl,hv];rfl) h
theorem Em{ns:ay}{Q:Unit->cQ}(X:K.In s.heap)(I:B5 s.heap x dx C mA)
  (hs:R4 K (.ref C) "__setattr__"=some (some (.builtin "object.__setattr__"))) (hp:R7 K C=true) (ht:R8 K C name=some none) (hh:R9 K C=true)
  (hw:PySem.Within mA ns) (hsz:ns.length<=Tn)
  (h:∀h',B5 h' x dx C (λy=>if y=name then some v else mA y)->Sz dx s.heap h'->Q () {s with heap:=h',toks:=s.toks+2}):
  Tu (model prog w) A (setAttr (.ref x) name v) Q E s:=by
 obtain⟨od,J,hl⟩:=I.look;refine PySem.W.set_plain X J hs (PySem.W.osa_open (s:={s with toks:=s.toks+1}) (r:=none) X J hp ht λb=>?_);obtain⟨cd,hc,hd'⟩:=PySem.W.any_some hh;have hx:s.heap.get? x=some ⟨.ref C,some dx,.plain,#[]⟩:=I.obj;refine TH (TF (TH (TH (wpAny_loadPart hx (TH (PySem.W.Looks.here (s:={s with toks:=s.toks+1}) (PySem.W.looks_clsIn X hc) ?_))))));rw[hd'];refine TF (a:=some dx) (TH (TF (TH ?_)));refine wpAny_nsSet1 (s:={s with toks:=s.toks+1}) I.ns λh' hn2 hs2=>?_;obtain⟨oD,esD,epD,hoD,hdD,hcD⟩:=hn2.count (PySem.Within.cons name v hw);refine TH (wpAny_lookBehind hoD (by rw[hdD];exact pastItsLine_dict (OQ hcD (by rw[O8];omega))) ?_);exact TF (h _ ⟨(hs2.2 _ (Ne.symm I.ne)).trans I.obj,hn2,I.ne⟩ hs2)
theorem CU{R:Result->cQ}{vs:aU}{kw:List (Str×S9)}(X:K.In s.heap)(hm:Sa K C=true)
  (hi:R4 K (.ref C) "__init__"=some (some (.ref f))) (hf:PySem.W.typeIn K (.ref f)=some (.type "function"))
  (h:TZ (model prog w) (A.under (.builtin "type.__call__" ⟨.ref C::vs,kw⟩)) (.call (.ref f) ⟨.ref (s.heap.objs.size+1)::vs,kw⟩) (PySem.W.InitBack (s.heap.objs.size+1) R)
   {s with heap:=(s.heap.push Sb).push (RW C s.heap.objs.size)}):
  TZ (model prog w) A (.call (.ref C) ⟨vs,kw⟩) R s:=by
 obtain⟨hh,g,d,t,os⟩:=s;exact PySem.W.make_core (PySem.W.makes_of X hm) (PySem.W.looks_findIn X hi) (λself=>PySem.W.bind_fn X self hf) (.inl rfl) h
end
noncomputable def jM(f:Str)(v:V):List (Str×V)->List (Str×V)
 |[]=>[(f,v)]
 |(g,x)::r=>if g=f then(g,v)::r else(g,x)::jM f v r
theorem oB(f g:Str)(v:V):∀fs:List (Str×V),(jM f v fs).lookup g=if g=f then some v else fs.lookup g
 |[]=>by
  show List.lookup g [(f,v)]=_;by_cases h:g=f
  ·have hb:(g==f)=true:=beq_iff_eq.mpr h;simp only[List.lookup,hb,if_pos h]
  ·have hb:(g==f)=false:=beq_eq_false_iff_ne.mpr h;simp only[List.lookup,hb,if_neg h]
 |(k,x)::r=>by
  have ih:=oB f g v r;rw[show jM f v ((k,x)::r)=(if k=f then(k,v)::r else(k,x)::jM f v r)from rfl];by_cases hk:k=f
  ·rw[if_pos hk];by_cases h:g=k
   ·have hb:(g==k)=true:=beq_iff_eq.mpr h;simp only[List.lookup,hb,if_pos (h.trans hk)]
   ·have hb:(g==k)=false:=beq_eq_false_iff_ne.mpr h;simp only[List.lookup,hb,if_neg (λe:g=f=>h (e.trans hk.symm))]
  ·rw[if_neg hk];by_cases h:g=k
   ·have hb:(g==k)=true:=beq_iff_eq.mpr h;simp only[List.lookup,hb,if_neg (λe:g=f=>hk (h.symm.trans e))]
   ·have hb:(g==k)=false:=beq_eq_false_iff_ne.mpr h;simp only[List.lookup,hb];exact ih
theorem nE(f:Str)(v:V):∀fs:List (Str×V),f∈(jM f v fs).map (·.1)/\∀g,g∈fs.map (·.1)->g∈(jM f v fs).map (·.1)
 |[]=>⟨by simp[jM],λg h=>by simp at h⟩
 |(k,x)::r=>by
  obtain⟨i1,i2⟩:=nE f v r;rw[show jM f v ((k,x)::r)=(if k=f then(k,v)::r else(k,x)::jM f v r)from rfl];by_cases hk:k=f
  ·rw[if_pos hk];subst hk;exact⟨by simp,λg h=>by simpa using h⟩
  ·rw[if_neg hk];refine⟨?_,λg h=>?_⟩
   ·rw[O9];exact OV _ i1
   ·rw[O9]at h ⊢;rcases List.mem_cons.mp h with e|e
    ·exact List.mem_cons.mpr (.inl e)
    ·exact OV _ (i2 g e)
theorem oA(f:Str)(v:V):∀fs:List (Str×V),(jM f v fs).length<=fs.length+1
 |[]=>by simp[jM]
 |(k,x)::r=>by
  have ih:=oA f v r;rw[show jM f v ((k,x)::r)=(if k=f then(k,v)::r else(k,x)::jM f v r)from rfl];by_cases hk:k=f
  ·rw[if_pos hk,O8,O8];omega
  ·rw[if_neg hk,O8,O8];omega
theorem oU.some_of{v:V}{o:Option S9}(r:oU (some v) o):∃u,o=some u/\RelV v u:=by
 cases o with
 |none=>exact(show False from r).elim
 |some u=>exact⟨u,rfl,r⟩
theorem oU.none_of{o:Option S9}(r:oU none o):o=none:=by
 cases o with
 |none=>rfl
 |some u=>exact(show False from r).elim
section
variable{P:Ti}{w:Th}{H H':Hp}{h h':Tl}{a C dx:Td}{fs fs':List (Str×V)}
theorem yJ(hok:mQ P w H h)(e:H a=some (.ins C dx fs)):∃mA,B5 h a dx C mA/\(∀f,oU (fs.lookup f) (mA f))/\PySem.Within mA (fs.map (·.1))/\fs.length<=1000/\H dx=some (.own a):=by
 obtain⟨d,z,ne,ob,mA,n,r,q⟩:=(show b7 P w H h a (.ins C dx fs)from hok a _ e)
 exact⟨mA,⟨ob,n,ne⟩,r,q,z,d⟩
end
structure zh(K:RY)(C:Td):Prop where
 pg:R3 K C Str.empty=true
 hd:R9 K C=true
 po:R7 K C=true
 sa:R4 K (.ref C) "__setattr__"=some (some (.builtin "object.__setattr__"))
theorem zh.get{K:RY}{C:Td}(c:zh K C)(f:Str):R3 K C f=true:=c.pg
noncomputable def nz(K:RY)(C:Td)(f:Str):Prop:=R4 K (.ref C) f=some none
theorem nz.taker{K:RY}{C:Td}{f:Str}(n:nz K C f):R8 K C f=some none:=by
 unfold R8;rw[show R4 K (.ref C) f=some none from n];rfl
structure Meth(K:RY)(C:Td)(m:Str)(f:Td):Prop where
 at_:R4 K (.ref C) m=some (some (.ref f))
 fn:R5 K (.ref f)=true
 kp:Sd K (.ref f)=true
section
variable{X:Cx}{pins:bc}{σ:St}{H:Hp}{s:Tg}{a C dx:Td}{fs:List (Str×V)}{f:Str}{v:V}{A:Ts}{E:bq}
theorem xJ{m:Str}{g:Td}{pl:Sem Bool}{Q:S9×List S9->cQ}(I:Inv X pins σ H s)(e:H a=some (.ins C dx fs))(c:zh X.K C)(k:Meth X.K C m g)(l:fs.lookup m=none)
  (h:Q (.ref g,[.ref a]) s):Tu (model X.prog X.w) A (getMethod (.ref a) m pl) Q E s:=by
 obtain⟨mA,O,r,_,_,_⟩:=yJ I.hok e;have hn:mA m=none:=oU.none_of (by rw[<-l];exact r m);exact Dx I.kIn O (c.get m) k.at_ k.fn hn h
theorem xI{y:V}{u:S9}{Q:Unit->cQ}(I:Inv X pins σ H s)(e:H a=some (.ins C dx fs))(c:zh X.K C)(n:nz X.K C f)(hl:fs.length<1000)(ry:RelV y u)
  (h:∀s',Inv X pins σ (upd H a (.ins C dx (jM f y fs))) s'->Q () s'):Tu (model X.prog X.w) A (setAttr (.ref a) f u) Q E s:=by
 obtain⟨mA,O,r,wi,_,ho⟩:=yJ I.hok e;have hz:(fs.map (·.1)).length<=Tn:=by rw[Pa,TY];omega
 refine Em I.kIn O c.sa c.po n.taker c.hd wi hz λh' O' sb=>h _ ?_;have hd:∃o,h'.get? dx=some o:=let ⟨o,_,_,e',_⟩:=O'.ns;⟨o,e'⟩
 refine I.write (x:=a) (e:=dx) (by rw[e];exact True.intro) (.inr ho) (λb q hb z=>(sb.2 b hb).trans z) hd ?_;refine⟨by rw[ao O.ne];exact ho,?_,O.ne,O'.obj,_,O'.ns,λg=>?_,λg hg=>?_⟩
 ·have:=oA f y fs;omega
 ·show oU ((jM f y fs).lookup g) (if g=f then some u else mA g);rw[oB];by_cases q:g=f
  ·rw[if_pos q,if_pos q];exact ry
  ·rw[if_neg q,if_neg q];exact r g
 ·by_cases q:g=f
  ·rw[q];exact(nE f y fs).1
  ·refine(nE f y fs).2 g (wi g λz=>hg ?_);show(if g=f then some u else mA g)=none;rw[if_neg q];exact z
theorem Inv.made(I:Inv X pins σ H s):Inv X pins σ (upd (upd H s.heap.objs.size (.own (s.heap.objs.size+1))) (s.heap.objs.size+1) (.ins C s.heap.objs.size []))
  {s with heap:=(s.heap.push Sb).push (RW C s.heap.objs.size)}:=by
 have e1:(s.heap.push Sb).get? s.heap.objs.size=some Sb:=SD s.heap rfl;have e2:((s.heap.push Sb).push (RW C s.heap.objs.size)).get? (s.heap.objs.size+1)=some (RW C s.heap.objs.size):=by
  have:=SD (s.heap.push Sb) (o:=RW C s.heap.objs.size) rfl
  rwa [SE]at this
 have e3:(s.heap.push Sb).Ns s.heap.objs.size (λ_=>none):=⟨Sb,#[],_,e1,rfl,(λe he=>absurd he (by simp)),λ_=>rfl⟩
 have I1:=I.laid (a:=s.heap.objs.size) (o:=.own (s.heap.objs.size+1)) (h':=s.heap.push Sb) (t':=s.toks) (λb u q=>SA _ q) (O1 _) ⟨_,e1⟩;refine I1.laid (a:=s.heap.objs.size+1) (o:=.ins C s.heap.objs.size []) (t':=s.toks) (λb u q=>SA _ q) (Pb (SE _ _)) ?_;have ne:s.heap.objs.size≠s.heap.objs.size+1:=OO (Nat.lt_succ_self _);refine⟨by rw[ao ne,av],Ph _,ne,e2,λ_=>none,(Heap.Ns1.of_empty e3).at λo q=>SA _ q,λ_=>True.intro,λy hy=>absurd rfl hy⟩
end
noncomputable def Mx(K:RY)(ta tv:TE)(f:Str):TS:=λD σ H=>tv σ H λy H1=>ta σ H1 λx H2=>∃a C dx fs,x=.ref a/\H2 a=some (.ins C dx fs)/\zh K C/\nz K C f/\fs.length<1000/\
 D.nx σ (upd H2 a (.ins C dx (jM f y fs)))
section
variable{X:Cx}{o e value:Te}{f:Str}{pos pos' tpos:Pos}{ta tv:TE}
theorem Hk(ha:PE X o ta)(hv:PE X value tv)(hs:swapsWith value (some (.Attribute o f pos')) pos.line X.env=pure false):PS X (.Assign [.Attribute o f pos'] value pos) (Mx X.K ta tv f):=by
 intro pins s σ H D I h;refine plainObj_wpAny_Assign_Attribute (cM (hv pins s σ H _ I h) λu s1 ⟨y,H1,I1,ry,q⟩=>cM (ha pins s1 σ H1 _ I1 q) λov s2 h2=>?_) hs;obtain⟨x,H2,I2,rx,a,C,dx,fs,ex,ea,c,n,l,q2⟩:=h2;subst ex;obtain rfl:ov=Value.ref a:=rx;exact xI I2 ea c n l ry λs3 I3=>⟨σ,_,I3,q2⟩
theorem vv{pl:Sem Bool}{m:Str}{apos:Pos}{args:bz}{pins:bc}{s:Tg}{σ:St}{H:Hp}{Q:bq}{te:TE}(he:PE X e te)(I:Inv X pins σ H s)
  (h:te σ H fun x H1=>∃ a C dx fs g,x=.ref a/\H1 a=some (.ins C dx fs)/\zh X.K C/\Meth X.K C m g/\fs.lookup m=none /\
   ∀s1,Inv X pins σ H1 s1->Tu (model X.prog X.w) X.A (T1 pos (.ref g) [.ref a] (backTo pos (Tv args X.env)) (backToKw pos (T2 [] X.env))) Q X.xe s1)
  (ht:eval (.Call (.Attribute e m apos) args [] pos) X.env=(do
   let ov<-eval e X.env
   standAt apos.atName
   let (f,first)<-holding [ov] (getMethod ov m pl)
   T1 pos f first (backTo pos (Tv args X.env)) (backToKw pos (T2 [] X.env)))):
  Tu (model X.prog X.w) X.A (eval (.Call (.Attribute e m apos) args [] pos) X.env) Q X.xe s:=by
 refine PySem.W.methodCall_KW (pl:=pl) (cM (he pins s σ H _ I h) λu s1 ⟨x,H1,I1,rx,a,C,dx,fs,g,ex,ea,c,k,l,q⟩=>?_) ht;subst ex;obtain rfl:u=Value.ref a:=rx;exact xJ I1 ea c k l (q s1 I1)
end
structure eY(k:Nat)(A:Ts):Prop where
 hd:A.handled=none
 dp:A.depth+3*k+5<T3
 un:A.units+16*k+200<T5
theorem eY.mono{j k:Nat}{A:Ts}(r:eY k A)(h:j<=k):eY j A:=⟨r.hd,by have:=r.dp;omega,by have:=r.un;omega⟩
theorem eY.deeper{k:Nat}{A:Ts}(r:eY (k+1) A)(env:Env):eY k (A.deeper env):=
 ⟨r.hd,by have:=r.dp;show A.depth+1+3*k+5<_;omega,by have:=r.un;show A.units+3+16*k+200<_;omega⟩
theorem xE{A:Ts}{C:Td}{us:aU}{kw:List (Str×S9)}:(A.under (.builtin "type.__call__" ⟨.ref C::us,kw⟩)).depth=A.depth+1:=by
 first|rfl|simp[Around.under,Code.weight,Code.isCreation,Code.isGuard,Code.isCaller,Code.frames,Code.isFrame,guardIds]
theorem v9{A:Ts}{C:Td}{us:aU}{kw:List (Str×S9)}:(A.under (.builtin "type.__call__" ⟨.ref C::us,kw⟩)).units=A.units+1:=by
 first|rfl|simp[Around.under,Code.cUnits,Code.frames,Code.isFrame]
theorem eY.make{k:Nat}{A:Ts}(r:eY (k+1) A)(C:Td)(us:aU)(kw:List (Str×S9)):eY k (A.under (.builtin "type.__call__" ⟨.ref C::us,kw⟩)):=
 ⟨r.hd,by have:=r.dp;rw[xE];omega,by have:=r.un;rw[v9];omega⟩
theorem eY.depth{k:Nat}{A:Ts}(r:eY k A):A.depth<T3:=by have:=r.dp;omega
theorem eY.units{k:Nat}{A:Ts}(r:eY k A):A.units+64<T5:=by have:=r.un;omega
noncomputable def L8:TA:=λ_ H Q=>Q [] H
noncomputable def JR(ta:TE)(tr:TA):TA:=λσ H Q=>ta σ H λx H1=>tr σ H1 λxs H2=>Q (x::xs) H2
section
variable{X:Cx}{e:Te}{es:bz}{te:TE}{t:TA}{pos:Pos}
theorem jk:PA X [] L8:=λ_ _ _ _ H Q I h=>Calls.spliced_nil ⟨[],H,I,.nil,h⟩
theorem gC(ha:PE X e te)(hr:PA X es t)(hs:Tv (e::es) X.env=(false,eval e X.env)::Tv es X.env:=by rfl):PA X (e::es) (JR te t):=by
 intro pos pins s σ H Q I h;rw[hs];show Tu _ _ (spliced ((false,eval e X.env)::backTo pos (Tv es X.env))) _ _ s;refine Calls.spliced_cons (cM (ha pins s σ H _ I h) λu s1 ⟨x,H1,I1,r1,q1⟩=>?_);exact cM (hr pos pins s1 σ H1 _ I1 q1) λus s2 ⟨xs,H2,I2,r2,q2⟩=>⟨x::xs,H2,I2,.cons r1 r2,q2⟩
noncomputable def Mf(t:TA):TE:=λσ H Q=>t σ H λxs H1=>xs.length<=Tn/\∀p,H1 p=none->Q (.ref p) (upd H1 p (.tup xs))
noncomputable def MP(t:TA):TE:=λσ H Q=>t σ H λxs H1=>xs.length<=Tn/\∀p,H1 p=none->Q (.ref p) (upd H1 p (.lst xs))
theorem HA{x1}(h:PA X es t):PE X (.Tuple es x1 pos) (Mf t):=by
 intro pins s σ H Q I hq;refine wpAny_Tuple_spliced (cM (h pos pins s σ H _ I hq) λus s1 ⟨xs,H1,I1,r,z,q⟩=>⟨by rw[<-r.length];exact z,?_⟩);have hf:H1 s1.heap.objs.size=none:=I1.hok.fresh (O1 _);refine⟨.ref s1.heap.objs.size,upd H1 s1.heap.objs.size (.tup xs),I1.laid (t':=s1.toks) (λb u e=>SA _ e) (O1 _) ?_,rfl,q _ hf⟩;exact⟨z,us,r,⟨_,SD _ rfl,rfl,_,rfl⟩⟩
theorem oa(h:PA X es t):PE X (.List es pos) (MP t):=by
 intro pins s σ H Q I hq;refine wpAny_List_spliced (cM (h pos pins s σ H _ I hq) λus s1 ⟨xs,H1,I1,r,z,q⟩=>⟨by rw[<-r.length];exact z,?_⟩);have hf:H1 s1.heap.objs.size=none:=I1.hok.fresh (O1 _);refine⟨.ref s1.heap.objs.size,upd H1 s1.heap.objs.size (.lst xs),I1.laid (t':=s1.toks) (λb u e=>SA _ e) (O1 _) ?_,rfl,q _ hf⟩;exact⟨z,us,0,r,SD _ rfl⟩
end
noncomputable abbrev Sp:=List V->Hp->VK->XK->Prop
noncomputable abbrev xQ:=List Env->Hp->Tg->XK->bq
structure Ac(P:Ti)(w:Th)(K:RY)(mg:cj)(base:Tl)(A:Ts)(outer:List Env)(s:Tg)(H:Hp):Prop where
 frames:A.frames=some outer
 mod:Mod K mg base
 bs:∀b o,base.get? b=some o->s.heap.get? b=some o/\H b=none
 bsz:base.objs.size<=s.heap.objs.size
 funs:s.heap.FunFrames base outer
 frf:∀b∈frs outer,H b=none
 hok:mQ P w H s.heap
 bare:AllBare s.gens
noncomputable def CE(outer:List Env)(P:Ti)(w:Th)(H:Hp)(s:Tg)(Q:VK)(u:S9)(s':Tg):Prop:=
 ∃v H',s'.os=s.os/\AllBare s'.gens/\Un (frs outer) [] H H' s.heap s'.heap/\mQ P w H' s'.heap/\RelV v u/\Q v H'
noncomputable def CR(CX:xQ)(outer:List Env)(P:Ti)(w:Th)(H:Hp)(s:Tg)(Q:VK)(E:XK)(r:Result)(s':Tg):Prop:=
 match r with
 |.ok (.ret u)=>CE outer P w H s Q u s'
 |.ok _=>False
 |.error e=>CX outer H s E e s'
structure gS(P:Ti)(w:Th)(K:RY)(mg:cj)(base:Tl)(CX:xQ)(k:Nat)(f:Td)(fd:T6)(ps:ay)(sp:Sp):Prop where
 len:∀vs H Q E,sp vs H Q E->vs.length=ps.length
 run:∀(A:Ts)(outer:List Env)(s:Tg)(H:Hp)(args:Args)(us:aU)(vs:aK)(Q:VK)(E:XK),eY k A->Ac P w K mg base A outer s H->T7 s fd args (ps.zip us)->Vals vs us->sp vs H Q E->
  TZ (model P w) A (.call (.ref f) args) (CR CX outer P w H s Q E) s
theorem gS.mono{P:Ti}{w:Th}{K:RY}{mg:cj}{base:Tl}{CX:xQ}{j k:Nat}{f:Td}{fd:T6}{ps:ay}{sp:Sp}(F:gS P w K mg base CX j f fd ps sp)(h:j<=k):
  gS P w K mg base CX k f fd ps sp:=⟨F.len,λA outer s H args us vs Q E hr=>F.run A outer s H args us vs Q E (hr.mono h)⟩
theorem Ac.make{P:Ti}{w:Th}{K:RY}{mg:cj}{base:Tl}{A:Ts}{outer:List Env}{s:Tg}{H:Hp}(e:Ac P w K mg base A outer s H)(C:Td)(us:aU)(kw:List (Str×S9)):
  Ac P w K mg base (A.under (.builtin "type.__call__" ⟨.ref C::us,kw⟩)) outer s H:=⟨by first|exact e.frames|(simpa [Around.under,Code.envs,Code.isFrame,pushEnvs]using e.frames),e.mod,e.bs,e.bsz,e.funs,e.frf,e.hok,e.bare⟩
section
variable{X:Cx}{pins:bc}{σ:St}{H:Hp}{s s':Tg}
theorem Inv.env0(I:Inv X pins σ H s):Ac X.prog X.w X.K X.mg X.base X.A X.stack s H:=
 ⟨I.ok.frames,I.ok.mod,I.bs,OQ I.ok.bsz I.sz,I.stack,I.stkFree,I.hok,I.bare⟩
theorem Inv.after{Q:VK}{u:S9}(I:Inv X pins σ H s)(h:CE X.stack X.prog X.w H s Q u s'):EP X pins σ Q u s':=by
 obtain⟨v,H',os,bare,un,hok,r,q⟩:=h;obtain⟨hh,g,d,t,os'⟩:=s';obtain rfl:os'=s.os:=os;exact⟨v,H',I.call (h':=hh) (g':=g) (d':=d) (t':=t) (ch:=[]) un hok bare (λb z=>absurd z (by simp)),r,q⟩
end
noncomputable def Kw(C:Td)(sp:Sp)(dvs:aK)(E:XK)(t:TA):TE:=λσ H Q=>t σ H λvs H1=>∀x dx,H1 x=none->H1 dx=none->dx≠x->
 sp (.ref x::(vs++dvs)) (upd (upd H1 dx (.own x)) x (.ins C dx [])) (λv H2=>v=.non/\Q (.ref x) H2) E
noncomputable def Binds(K:RY)(fd:T6)(ps:ay)(ds:aU):Prop:=
 ∀(s:Tg)(us:aU),K.In s.heap->(us++ds).length=ps.length->T7 s fd ⟨us,[]⟩ (ps.zip (us++ds))
theorem Binds.all{K:RY}{fd:T6}{ps:ay}(h:∀us:aU,us.length=ps.length->bindArgs fd ⟨us,[]⟩=pure (ps.zip us)):Binds K fd ps []:=λs us _ hl=>by
 rw[Pj]at hl ⊢;exact .of_eq (h us hl)
noncomputable def wN(CX:xQ)(X:Cx)(E:XK):Prop:=∀(pins:bc)(σ:St)(H:Hp)(s:Tg)(e:S9)(s':Tg),Inv X pins σ H s->CX X.stack H s E e s'->X.xe e s'
section
variable{X:Cx}{CX:xQ}{k:Nat}{f C:Td}{fd:T6}{ps:ay}{sp:Sp}{dvs:aK}{ds:aU}{E:XK}{x m:Str}{p pos apos:Pos}{e o:Te}{es:bz}{ta:TE}{t:TA}
structure Mk(K:RY)(C f:Td):Prop where
 makes:Sa K C=true
 init:R4 K (.ref C) "__init__"=some (some (.ref f))
 fn:R5 K (.ref f)=true
 kp:Sd K (.ref C)=true
theorem BI{pins:bc}{σ:St}{H:Hp}{s:Tg}{Q:VK}{us:aU}{vs:aK}(M:Mk X.K C f)(F:gS X.prog X.w X.K X.mg X.base CX k f fd ps sp)(hr:eY (k+1) X.A)(hb:Binds X.K fd ps ds)(hd:Vals dvs ds)
  (hx:wN CX X E) (I:Inv X pins σ H s) (r:Vals vs us)
  (h:∀x dx,H x=none->H dx=none->dx≠x->sp (.ref x::(vs++dvs)) (upd (upd H dx (.own x)) x (.ins C dx [])) (λv H2=>v=.non/\Q (.ref x) H2) E):
  Tu (model X.prog X.w) X.A (call (.ref C) us) (EP X pins σ Q) X.xe s:=by
 have hq:=h (s.heap.objs.size+1) s.heap.objs.size (I.hok.fresh (Pk _)) (I.hok.fresh (O1 _)) (OO (Nat.lt_succ_self _));have I2:=Inv.made (C:=C) I;have r2:Vals (V.ref (s.heap.objs.size+1)::(vs++dvs)) (Value.ref (s.heap.objs.size+1)::(us++ds)):=.cons rfl (r.append hd);have hl:(Value.ref (s.heap.objs.size+1)::us++ds).length=ps.length:=by
  have e:=r2.length;rw[F.len _ _ _ _ hq]at e;exact e.symm
 refine wpAny_call (CU (f:=f) I.kIn M.makes M.init (beq_iff_eq.mp M.fn) (T8 (F.run _ X.stack _ _ ⟨Value.ref (s.heap.objs.size+1)::us,[]⟩ (Value.ref (s.heap.objs.size+1)::(us++ds)) _ _ E (hr.make C us [])
  (I2.env0.make C us []) (hb _ (Value.ref (s.heap.objs.size+1)::us) I2.kIn hl) r2 hq) λr s' hq'=>?_))
 cases r with
 |error e=>exact hx pins σ _ _ e s' I2 hq'
 |ok fl=>
  cases fl with
  |ret u=>
   obtain⟨v,H',I3,rv,ev,q3⟩:=I2.after hq';subst ev;exact⟨rv,⟨V.ref (s.heap.objs.size+1),H',I3,rfl,q3⟩⟩
  |next=>exact False.elim hq'
  |brk=>exact False.elim hq'
  |cont=>exact False.elim hq'
theorem Fj(M:Mk X.K C f)(F:gS X.prog X.w X.K X.mg X.base CX k f fd ps sp)(hr:eY (k+1) X.A)(hg:Gl X x)(hm:X.mg x=some (.ref C))(hb:Binds X.K fd ps ds)(hd:Vals dvs ds)(hx:wN CX X E)
  (ha:PA X (e::es) t) (hdb:(x==("__debug__":Str))=false:=by decide) (he:Tv (e::es) X.env=(false,eval e X.env)::Tv es X.env:=by rfl) (hpl:(backTo pos (Tv es X.env)).any (·.1)=false:=by rfl):
  PE X (.Call (.Name x p) (e::es) [] pos) (Kw C sp dvs E t):=by
 intro pins s σ H Q I h;refine T9 (yr I hg hm ?_ hdb);refine Se (h₀:=X.base) I.ok.mod.kin M.kp (cM (ha pos pins s σ H _ I h) λus s1 ⟨vs,H1,I1,r,q⟩=>⟨I1.kIn,?_⟩) he hpl;exact BI M F hr hb hd hx I1 r q
end
structure dJ(N P:ay)(sc:Tt):Prop where
 kind:sc.kind=.function
 co:sc.isCoroutine=false
 gen:sc.isGenerator=false
 nd:N.Nodup
 pre:N.take P.length=P
 par:∀x∈P,sc.names.lookup x=some .local\/sc.names.lookup x=some .cell
 nofree:∀y∈sc.names,y.2≠.free
theorem rY{kindOf:Str->Option Tc}{x:Str}:∀{binds:List (Str×S9)}{m:cj},(∀v,(x,v)∉binds)->bindL kindOf binds m x=m x
 |[],_,_=>rfl
 |(n,v)::r,m,h=>by
  unfold bindL;rw[rY λw hw=>h w (OV _ hw)];split
  ·have:x≠n:=(by rintro rfl;exact h v OU);simp[this]
  ·rfl
theorem sY{kindOf:Str->Option Tc}{x:Str}:∀{binds:List (Str×S9)}{m:cj},(∀v,(x,v)∉binds)->bindC kindOf binds m x=m x
 |[],_,_=>rfl
 |(n,v)::r,m,h=>by
  unfold bindC;rw[sY λw hw=>h w (OV _ hw)];split
  ·rfl
  ·have:x≠n:=(by rintro rfl;exact h v OU);simp[this]
theorem rC{kindOf:Str->Option Tc}{x:Str}{v:S9}:∀{P:ay}{vs:aU}{i:Nat}{m:cj},P.Nodup->P[i]?=some x->vs[i]?=some v->kindOf x=some .local->
  bindL kindOf (P.zip vs) m x=some v
 |[],_,_,_,_,h,_,_=>by simp at h
 |_::_,[],_,_,_,_,h,_=>by simp at h
 |p::P,w::vs,0,m,nd,h1,h2,hk=>by
  simp at h1 h2;subst h1;subst h2;show bindL kindOf ((p,w)::P.zip vs) m p=_;unfold bindL;rw[rY λv hv=>(List.nodup_cons.mp nd).1 (Pl hv).1,if_pos hk];simp
 |p::P,w::vs,i+1,m,nd,h1,h2,hk=>by
  show bindL kindOf ((p,w)::P.zip vs) m x=_;unfold bindL;exact rC (i:=i) (List.nodup_cons.mp nd).2 (by simpa using h1) (by simpa using h2) hk
theorem sM{kindOf:Str->Option Tc}{x:Str}{v:S9}:∀{P:ay}{vs:aU}{i:Nat}{m:cj},P.Nodup->P[i]?=some x->vs[i]?=some v->kindOf x≠some .local->
  bindC kindOf (P.zip vs) m x=some v
 |[],_,_,_,_,h,_,_=>by simp at h
 |_::_,[],_,_,_,_,h,_=>by simp at h
 |p::P,w::vs,0,m,nd,h1,h2,hk=>by
  simp at h1 h2;subst h1;subst h2;show bindC kindOf ((p,w)::P.zip vs) m p=_;unfold bindC;rw[sY λv hv=>(List.nodup_cons.mp nd).1 (Pl hv).1,if_neg hk];simp
 |p::P,w::vs,i+1,m,nd,h1,h2,hk=>by
  show bindC kindOf ((p,w)::P.zip vs) m x=_;unfold bindC;exact sM (i:=i) (List.nodup_cons.mp nd).2 (by simpa using h1) (by simpa using h2) hk
noncomputable def start(N:ay)(vs:aK):St:=vs.map some++List.replicate (N.length-vs.length) none
noncomputable def g9(CX:xQ)(P:Ti)(w:Th)(K:RY)(mg:cj)(base:Tl)(N:ay)(qual:Str)(scope:Tt)(f:Td)(cd:S9)(A:Ts)(outer:List Env)(s:Tg)(H:Hp)(E:XK):Cx where
 prog:=P
 w:=w
 K:=K
 mg:=mg
 base:=base
 A:=A.deeper (envOfC qual scope s.heap.objs.size f cd)
 N:=N
 s₀:=s
 H₀:=H
 env:=envOfC qual scope s.heap.objs.size f cd
 outer:=outer
 stack:=envOfC qual scope s.heap.objs.size f cd::outer
 ex:=[]
 calm:=true
 fn:=λ_=>true
 pn:=[]
 xe:=λe s'=>Tu (model P w) (A.deeper (envOfC qual scope s.heap.objs.size f cd)) (leaving (envOfC qual scope s.heap.objs.size f cd) e) (λ_ s''=>CX outer H s E e s'') (λe' s''=>CX outer H s E e' s'') s'
theorem uS{sc:Tt}{n:Nat}{x:Str}(h:sc.names.lookup x=some .cell):∃c,(cellsFrom n sc.names []).lookup x=some c:=by
 have q:=Sf sc.names n [] (.inl h);exact Option.isSome_iff_exists.mp q
theorem zJ{CX:xQ}{P:Ti}{w:Th}{K:RY}{mg:cj}{base:Tl}{N ps:ay}{qual:Str}{scope:Tt}{f:Td}{cd:S9}{A:Ts}{outer:List Env}{s s1:Tg}{H:Hp}{E:XK}{us:aU}{vs:aK}
  (S:dJ N ps scope) (hd:A.handled=none) (e0:Ac P w K mg base A outer s H) (hl:vs.length=ps.length) (r:Vals vs us)
  (x:InCallC s s.heap.objs.size (bindL (envOfC qual scope s.heap.objs.size f cd).kindOf (ps.zip us) λ_=>none) (cellsFrom (s.heap.objs.size+1) scope.names []) (bindC (envOfC qual scope s.heap.objs.size f cd).kindOf (ps.zip us) λ_=>none) s1):
  Inv (g9 CX P w K mg base N qual scope f cd A outer s H E) [] (start N vs) H s1:=by
 have hpl:ps.length<=N.length:=by have:=congrArg List.length S.pre;rw[Pm]at this;omega
 obtain⟨h1,tk,rfl,hk⟩:=x.done;have noA:∀b:Td,b∉(g9 CX P w K mg base N qual scope f cd A outer s H E).ex:=λb z=>absurd (show b∈([]:ax)from z) (by simp);refine⟨⟨e0.mod,S.kind,rfl,rfl,O1 _,λy z c h1 h2=>?_,λy hy=>?_,λy c _ h=>?_,λ_=>hd,Around.frames_deeper e0.frames,.inr ⟨rfl,rfl⟩,λb z=>absurd z (noA b),e0.bs,e0.bsz,λb _ _=>noA b,λb z=>absurd z (noA b),e0.funs,e0.frf⟩,
  rfl,e0.bare,Un.kept hk,⟨_,x.toInCall.ns,λi y v h1 h2 h3=>?_⟩,λy c h=>⟨_,x.cell y c h⟩,e0.hok.fresh (O1 _),λy c h=>?_,λp hp=>absurd (show p∈([]:bc)from hp) (by simp),e0.hok.kept hk,?_⟩
 ·exact name_of_addr x.apart (PySem.mem_of_lookup h1) (PySem.mem_of_lookup h2)
 ·have hy:scope.names.lookup y=some .cell\/scope.names.lookup y=some .free:=hy;rcases hy with hy|hy
  ·exact uS hy
  ·exact absurd rfl (S.nofree _ (PySem.mem_of_lookup hy))
 ·exact OS (x.above y c (PySem.mem_of_lookup h))
 ·have hi:i<vs.length:=by
   unfold start at h2;by_cases hi:i<vs.length
   ·exact hi
   ·rw[Pn (by simpa using hi)]at h2;rw[Pp]at h2;split at h2<;>cases h2
  have ha:vs[i]?=some v:=by
   unfold start at h2;rw[Pq (by simpa using hi),Pr]at h2;cases e:vs[i]? with
   |none=>rw[e]at h2;cases h2
   |some a=>rw[e]at h2;cases h2;rfl
  obtain⟨u,hu,rv⟩:=r.get ha;have hp:ps[i]?=some y:=by
   rw[<-S.pre,List.getElem?_take_of_lt ‹0›];exact h1
  have ndP:ps.Nodup:=by rw[<-S.pre];exact S.nd.sublist (Pt _ _)
  refine⟨u,rv,?_⟩;rcases S.par y (Pu hp)with k|k
  ·exact .inl ⟨k,rC ndP hp hu k⟩
  ·obtain⟨c,e⟩:=uS (n:=s.heap.objs.size+1) k;refine .inr ⟨.inl k,c,e,?_⟩;have q:=x.cell y c e;rw[sM ndP hp hu (by show scope.names.lookup y≠_;rw[k];decide)]at q;exact q
 ·exact e0.hok.fresh (OS (x.above y c (PySem.mem_of_lookup h)))
 ·unfold start;show _=N.length;rw[Pw,Pa,List.length_replicate];omega
theorem Dy{CX:xQ}{P:Ti}{w:Th}{K:RY}{mg:cj}{base:Tl}{k:Nat}{f:Td}{name qual:Str}{params:Ua}{body:eE}{scope:Tt}{dV kV doc pm cdv ct oc:S9}{an od:Option Td}
  {osl:Array (Option S9)} {N ps:ay} {sp:Sp} (lk:K.lookup f=some ⟨oc,od,.func (Sg name qual params body scope dV kV doc pm an cdv ct),osl⟩) (hcd:Si K cdv qual=true) (S:dJ N ps scope)
  (len:∀vs H Q E,sp vs H Q E->vs.length=ps.length)
  (hbody:∀ (A:Ts) (outer:List Env) (s:Tg) (H:Hp) (vs:aK) (Q:VK) (E:XK),eY k (A.deeper (envOfC qual scope s.heap.objs.size f cdv))->sp vs H Q E ->
   ∃t,vA (g9 CX P w K mg base N qual scope f cdv A outer s H E) body t/\t {nx:=λ_ H'=>Q .non H',rt:=Q} (start N vs) H):
  gS P w K mg base CX (k+1) f (Sg name qual params body scope dV kV doc pm an cdv ct) ps sp:=by
 refine⟨len,λA outer s H args us vs Q E hr e0 hb r hsp=>?_⟩;have hl:=len _ _ _ _ hsp;have KX:K.In s.heap:=e0.mod.kin.keeps λb o e=>(e0.bs b o e).1;have lim:s.heap.NoLimit:=e0.mod.nolimit.keeps λb o e=>(e0.bs b o e).1;have hkind:∀y∈ps.zip us,scope.names.lookup y.1=some .local\/(scope.names.lookup y.1=some .cell/\((cellsFrom (s.heap.objs.size+1) scope.names []).lookup y.1).isSome=true):=λ⟨n,v⟩ hy=>by
  rcases S.par n (Pl hy).1 with q|q
  ·exact .inl q
  ·exact .inr ⟨q,Sf _ _ _ (.inl q)⟩
 refine codeAny_call_function hr.depth (KX _ _ lk) rfl S.co S.gen rfl (PySem.W.codeRec_of KX hcd) (hb _ _ _ _ ?_);refine wpAny_newFunctionEnv_cells S.kind hkind λenv he s1 x=>?_;subst he;refine⟨lim.keeps x.toInCall.keep,codeAny_func ?_⟩;obtain⟨t,ht,hq⟩:=hbody A outer s H vs Q E (hr.deeper _) hsp;have I:Inv (g9 CX P w K mg base N qual scope f cdv A outer s H E) [] (start N vs) H s1:=zJ S hr.hd e0 hl r x;refine Tx (ht [] s1 (start N vs) H _ I hq) (λfl s' hs=>?_) λe s' hs=>hs;have fin:∀{σ':St}{H':Hp}{v:V}{u:S9},Inv (g9 CX P w K mg base N qual scope f cdv A outer s H E) [] σ' H' s'->RelV v u->Q v H'->CE outer P w H s Q u s':=
  λ{σ' H' v u} J rv q=>⟨v,H',J.os,J.bare,J.base,J.hok,rv,q⟩
 cases fl with
 |ret u=>
  obtain⟨v,σ',H',J,rv,q⟩:=hs;exact fin J rv q
 |next=>
  obtain⟨σ',H',J,q⟩:=hs;exact fin (v:=V.non) (u:=Value.none) J rfl q
 |brk=>
  obtain⟨_,_,_,q⟩:=hs;exact False.elim q
 |cont=>
  obtain⟨_,_,_,q⟩:=hs;exact False.elim q
section
variable{X:Cx}{x:Str}{p pos:Pos}{e:Te}{es:bz}{t:TA}{id T:String}{r:aK->Hp->VK->Prop}
noncomputable def MO(r:aK->Hp->VK->Prop)(t:TA):TE:=λσ H Q=>t σ H λvs H1=>r vs H1 Q
theorem vq(hc:dS X (.builtin id) r)(hg:Gl X x)(hm:X.mg x=none)(hv:Tr x=some (.builtin id))(ha:PA X (e::es) t)(hn:x≠"__name__":=by decide)(hdb:(x==("__debug__":Str))=false:=by decide)
  (he:Tv (e::es) X.env=(false,eval e X.env)::Tv es X.env:=by rfl) (hpl:(backTo pos (Tv es X.env)).any (·.1)=false:=by rfl):PE X (.Call (.Name x p) (e::es) [] pos) (MO r t):=by
 intro pins s σ H Q I h;refine T9 (jP I hg hm hv ?_ hn hdb);exact PyProof.Rows.callWith_builtin1 (cM (ha pos pins s σ H _ I h) λus s1 ⟨vs,H1,I1,r1,q1⟩=>hc pins s1 σ H1 vs us Q I1 r1 q1) he hpl
theorem tL(hc:dS X (.type T) r)(hg:Gl X x)(hm:X.mg x=none)(hv:Tr x=some (.type T))(ha:PA X (e::es) t)(hn:x≠"__name__":=by decide)(hdb:(x==("__debug__":Str))=false:=by decide)
  (he:Tv (e::es) X.env=(false,eval e X.env)::Tv es X.env:=by rfl) (hpl:(backTo pos (Tv es X.env)).any (·.1)=false:=by rfl):PE X (.Call (.Name x p) (e::es) [] pos) (MO r t):=by
 intro pins s σ H Q I h;refine T9 (jP I hg hm hv ?_ hn hdb);exact SL (cM (ha pos pins s σ H _ I h) λus s1 ⟨vs,H1,I1,r1,q1⟩=>hc pins s1 σ H1 vs us Q I1 r1 q1) he hpl
end
end L2
namespace HT
open PySem PyProof.Rows
theorem J7(A:Ts)(s:Tg)(a:Int)(t:Tok)(c:Int)(u:Tok)(prog:Ti)(w:Th)(E:S9->Tg->Prop)(Q:S9->Tg->Prop)(h:Q (.bool (decide (a<c))) s):
  Tu (model prog w) A (richCompare .Lt (.int a t) (.int c u)) Q E s:=
 (PyProof.Rows.lt_int h:Tu (model prog w) A (TR .Lt (.int a t) (.int c u)) Q E s)
section
open PySem.SeqAt
open PySem.AutoSeq1 (wpAny_loadPart')
open PySem.MeetsSeq PySem.MeetsSeq2 PySem.MeetsSeq3
end
section
variable{prog:Ti}{w:Th}{A:Ts}{E:S9->Tg->Prop}{s:Tg}
theorem Le{t b:Td}{vs ws:List S9}{Q:S9->Tg->Prop}(ht:To s.heap t vs.toArray)(hb:To s.heap b ws.toArray)(hv:vs≠[])
  (h1:ws=[]->Q (.ref t) s) (h2:ws≠[]->Q (.ref s.heap.objs.size) {s with heap:=s.heap.push {cls:=.type "tuple",data:=.seq (vs++ws).toArray}})
  (hsz:vs.length+ws.length<=Tn):Tu (model prog w) A (TQ .Add (.ref t) (.ref b)) Q E s:=by
 obtain⟨⟨cls,dd,data,sl⟩,ho,hc,n,hd⟩:=id ht;obtain⟨⟨cls2,dd2,data2,sl2⟩,ho2,hc2,n2,hd2⟩:=id hb;simp only at hc hd hc2 hd2;subst hc hd hc2 hd2;have e:vs.toArray++ws.toArray=(vs++ws).toArray:=by simp
 by_cases hw:ws=[]
 ·exact Ub ⟨_,ho,rfl⟩ ⟨_,ho2,rfl⟩ Uc Ud SZ S4 (S5 _ _)
   (tuple_addW1 t b vs.toArray ws.toArray n n2 dd dd2 sl sl2 (by simpa using hv) (by simp[hw])) ⟨ho,ho2,h1 hw⟩
 ·refine Ub ⟨_,ho,rfl⟩ ⟨_,ho2,rfl⟩ Uc Ud SZ S4 (S5 _ _)
   (tuple_addW2 t b vs.toArray ws.toArray n n2 dd dd2 sl sl2 (by simpa using hv) (by simpa using hw) (by rw[O6,O6];exact hsz)) ⟨ho,ho2,?_⟩
  rw[e];exact h2 hw
noncomputable def sIx(n d:Nat):Option Int->Nat
 |none=>d
 |some v=>if v<0 then(v+(n:Int)).toNat else min v.toNat n
theorem KA(n d:Nat):sIx n d none=d:=rfl
theorem Lv(n d k:Nat):sIx n d (some (k:Int))=min k n:=by
 show(if(k:Int)<0 then((k:Int)+(n:Int)).toNat else min (k:Int).toNat n)=min k n;rw[if_neg ‹0›,Px]
theorem Ha(n d:Nat)(hd:d<=n)(o:Option Int):sIx n d o<=n:=by
 cases o with
 |none=>exact hd
 |some v=>
  show(if v<0 then(v+(n:Int)).toNat else min v.toNat n)<=n;by_cases hv:v<0
  ·rw[if_pos hv];omega
  ·rw[if_neg hv];exact Nat.min_le_right _ _
theorem yE(v:Int)(n d:Nat):(if v<0 then max (v+(n:Int)) 0 else min v (n:Int))=((sIx n d (some v):Nat):Int):=by
 show(if v<0 then max (v+(n:Int)) 0 else min v (n:Int))=(((if v<0 then(v+(n:Int)).toNat else min v.toNat n):Nat):Int)
 by_cases hv:v<0
 ·simp only[if_pos hv];omega
 ·simp only[if_neg hv];omega
theorem wf(lo hi:Option Int)(n:Nat):Builtin.Slice.sliceAdjust lo hi 1 (n:Int)=(((sIx n 0 lo:Nat):Int),((sIx n n hi:Nat):Int)):=by
 have h1:¬((1:Int)<0):=by omega
 unfold Builtin.Slice.sliceAdjust;simp only[h1,if_false];refine Prod.ext ?_ ?_
 ·cases lo with
  |none=>rfl
  |some v=>exact yE v n 0
 ·cases hi with
  |none=>rfl
  |some v=>exact yE v n n
theorem xq(i j:Nat):Builtin.Slice.slicePlaces (i:Int) (j:Int) 1=j-i:=by
 unfold Builtin.Slice.slicePlaces;have h1:(1:Int)>0:=by omega
 simp only[h1,if_true,Int.ediv_one];split<;>omega
theorem qc{v:S9}{o:Option Int}{Q:Option Int->Tg->Prop}(p:Ue v o)(h:Q o s):Tu (model prog w) A (Builtin.Slice.slicePartIndex v) Q E s:=by
 cases p with
 |none=>exact slicePart_none h
 |int i t=>exact slicePart_int h
theorem nq{sl:Td}{vl vu:S9}{lo hi:Option Int}{n:Nat}{Q:Int×Int×Nat->Tg->Prop}(hs:s.heap.IsSliceOf sl vl vu .none)(pl:Ue vl lo)(pu:Ue vu hi)
  (h:Q (((sIx n 0 lo:Nat):Int),1,sIx n n hi-sIx n 0 lo) s):Tu (model prog w) A (Builtin.Slice.sliceApplied (.ref sl) (pure (n:Int))) Q E s:=by
 obtain⟨os,hos,hcs,hds⟩:=id hs;unfold Builtin.Slice.sliceApplied Builtin.Slice.sliceFields;refine TH (TH (Ug hos hds (x:=vl) rfl (TH (Ug hos hds (x:=vu) rfl (TH (Ug hos hds (x:=.none) rfl (TF ?_)))))));refine TH (slicePart_none ?_);show Tu _ _ (if((1:Int)==0)=true then _ else _) _ _ s;rw[if_neg (by decide)];refine TH (qc pl (TH (qc pu (TH (TF ?_)))));show Tu _ _ (match Builtin.Slice.sliceAdjust lo hi 1 (n:Int)with|(lo,hi)=>pure (lo,(1:Int),Builtin.Slice.slicePlaces lo hi 1)) _ _ s;rw[wf lo hi n];show Tu _ _ (pure (((sIx n 0 lo:Nat):Int),(1:Int),Builtin.Slice.slicePlaces ((sIx n 0 lo:Nat):Int) ((sIx n n hi:Nat):Int) 1)) _ _ s;rw[xq];exact TF h
theorem DM(xs:Array S9)(i k:Nat):((List.range k).filterMap λ(m:Nat)=>xs[((i:Int)+(m:Int)*1).toNat]?).toArray=((xs.toList.drop i).take k).toArray:=by
 have e:(λ(m:Nat)=>xs[((i:Int)+(m:Int)*1).toNat]?)=λm=>xs[i+m]?:=by
  funext m
  have:((i:Int)+(m:Int)*1).toNat=i+m:=by omega
  rw[this]
 rw[e]
 have:=pick_run xs i k
 rw[List.filterMap_map]at this;have e2:((λx=>xs[x]?)∘λx=>i+x)=λm=>xs[i+m]?:=rfl;rw[e2]at this;rw[this]
theorem yy{t sl:Td}{items:Array S9}{vl vu:S9}{lo hi:Option Int}{Q:S9->Tg->Prop}(ht:To s.heap t items)(hs:s.heap.IsSliceOf sl vl vu .none)(pl:Ue vl lo)(pu:Ue vu hi)
  (hw:¬(sIx items.size 0 lo=0/\sIx items.size items.size hi=items.size))
  (h:Q (.ref s.heap.objs.size) {s with heap:=s.heap.push {cls:=.type "tuple",data:=.seq ((items.toList.drop (sIx items.size 0 lo)).take (sIx items.size items.size hi-sIx items.size 0 lo)).toArray}})
  (hsz:items.size<=Tn):Tu (model prog w) A (getItem (.ref t) (.ref sl)) Q E s:=by
 have htake:sizeOk (.seq ((items.toList.drop (sIx items.size 0 lo)).take (sIx items.size items.size hi-sIx items.size 0 lo)).toArray):=by
  show((items.toList.drop (sIx items.size 0 lo)).take (sIx items.size items.size hi-sIx items.size 0 lo)).toArray.size<=Tn;rw[O6,Pm,Py,Array.length_toList];omega
 have hj:sIx items.size items.size hi<=items.size:=Ha _ _ (O1 _) hi;obtain⟨os,hos,hcs,hds⟩:=id hs;have hTs:s.TypeIs (.ref sl) "slice":=⟨os,hos,hcs⟩
 unfold getItem
 try with_reducible refine Uh ?_
 first|refine TH (TF ?_)|skip
 refine TH (wpAny_sequenceKey ht.typeIs (by decide) ?_);refine TH (Ui (name:=Str.ofString "__getitem__") ht.typeIs SM
  (Uj SM ht.typeIs entry_tuple_getitem ?_ (args_tuple_getitem _ _)))
 show Tu _ _ (Builtin.Tuple.tupleItemsOf (.ref t) >>= _) _ _ s;refine TH (tupleItemsOf_ ht ?_);refine TH (Uk hTs ?_);rw[if_pos (by decide)];refine TH (nq hs pl pu ?_);have hno:¬((((sIx items.size 0 lo:Nat):Int)==0&&(1:Int)==1&&(sIx items.size items.size hi-sIx items.size 0 lo)==items.size)=true):=by
  intro q;rw[Pz,Pz]at q;have q1:((sIx items.size 0 lo:Nat):Int)=0:=eq_of_beq q.1.1;have q2:sIx items.size items.size hi-sIx items.size 0 lo=items.size:=eq_of_beq q.2;exact hw ⟨by omega,by omega⟩
 show Tu _ _ (if(((sIx items.size 0 lo:Nat):Int)==0&&(1:Int)==1&&(sIx items.size items.size hi-sIx items.size 0 lo)==items.size)=true then _ else _) _ _ s;rw[if_neg hno,DM]
 first
  |exact TH (m:=Builtin.Tuple.tupleExact _) (Ul (TF ⟨_,rfl,TF h⟩) htake)
  |exact TH (m:=Builtin.Tuple.tupleExact _) (Ul (TH (TF (TF ⟨_,rfl,TF h⟩))) htake)
  |exact TH (TH (m:=Builtin.Tuple.tupleExact _) (Ul (TF (TF ⟨_,rfl,TF h⟩)) htake))
  |exact TH (TH (m:=Builtin.Tuple.tupleExact _) (Ul (TF ⟨_,rfl,TF h⟩) htake))
end
end HT
namespace L2
open PySem PySem.Spec PyProof.Rows
noncomputable abbrev TO:=St->Hp->(dR->Hp->Prop)->Prop
noncomputable def PO(X:Cx)(e:Option Te)(t:TO):Prop:=
 ∀(pins:bc)(s:Tg)(σ:St)(H:Hp)(Q:dR->Hp->Prop),Inv X pins σ H s->t σ H Q->
  Tu (model X.prog X.w) X.A (evalPart e X.env) (λu s'=>∃o H',Inv X pins σ H' s'/\Ue u o/\Q o H') X.xe s
noncomputable def D9:TO:=λ_ H Q=>Q none H
noncomputable def JL(t:TE):TO:=λσ H Q=>t σ H λx H1=>∃i,x=.int i/\Q (some i) H1
section
variable{X:Cx}{e:Te}{te:TE}{lo hi:Option Te}{tl th:TO}{pos p2:Pos}
theorem EZ:PO X none D9:=by
 intro pins s σ H Q I h;rw[Um];exact TF ⟨none,H,I,.none,h⟩
theorem Gb(h:PE X e te):PO X (some e) (JL te):=by
 intro pins s σ H Q I hw;rw[evalPart_some];refine cM (h pins s σ H _ I hw) λu s1 ⟨x,H1,I1,r1,q1⟩=>?_;obtain⟨i,rfl,q⟩:=q1;obtain⟨t,rfl⟩:=r1;exact⟨some i,H1,I1,.int i t,q⟩
noncomputable def Lj(X:Cx)(r:V->dR->dR->Hp->VK->Prop):Prop:=
 ∀(pins:bc)(s:Tg)(σ:St)(H:Hp)(x:V)(v vl vu:S9)(lo hi:dR)(sl:Td)(Q:VK),Inv X pins σ H s->RelV x v->s.heap.IsSliceOf sl vl vu .none->Ue vl lo->Ue vu hi->r x lo hi H Q->
  ∃T id,typeLookup (.type T) "__getitem__"=pure (some (.builtin id))/\s.TypeIs v T/\Tu (model X.prog X.w) X.A (getItem v (.ref sl)) (EP X pins σ Q) X.xe s
noncomputable def N9(r:V->dR->dR->Hp->VK->Prop)(te:TE)(tl th:TO):TE:=λσ H Q=>te σ H λx H1=>tl σ H1 λl H2=>th σ H2 λu H3=>r x l u H3 Q
theorem BX{r:V->dR->dR->Hp->VK->Prop}(hr:Lj X r)(he:PE X e te)(hl:PO X lo tl)(hu:PO X hi th):PE X (.Subscript e (.Slice lo hi none p2) pos) (N9 r te tl th):=by
 intro pins s σ H Q I h;refine Uo (cM (he pins s σ H _ I h) λv s1 ⟨x,H1,I1,r1,q1⟩=>?_);refine wpAny_Slice (cM (hl pins s1 σ H1 _ I1 q1) λvl s2 ⟨l,H2,I2,pl,q2⟩=>cM (hu pins s2 σ H2 _ I2 q2) λvu s3 ⟨u,H3,I3,pu,q3⟩=>?_);rw[Um];refine TF ?_;have I4:Inv X pins σ H3 {s3 with heap:=s3.heap.push {cls:=.type "slice",data:=.fields #[vl,vu,.none]}}:=I3.kept (t':=s3.toks) λb ob q=>SA _ q;obtain⟨T,id,hT,ht,hg⟩:=hr pins {s3 with heap:=s3.heap.push {cls:=.type "slice",data:=.fields #[vl,vu,.none]}} σ H3 x v vl vu l u s3.heap.objs.size Q I4 r1 (Heap.IsSliceOf.new ..) pl pu q3;show Tu (model X.prog X.w) X.A (subscriptTail e (.Slice lo hi none p2) v (.ref s3.heap.objs.size)) (EP X pins σ Q) X.xe {s3 with heap:=s3.heap.push {cls:=.type "slice",data:=.fields #[vl,vu,.none]}};exact tail_any (ops:=[.ref s3.heap.objs.size,v]) ht hT hg (by with_unfolding_all rfl)
noncomputable def uI(xs:aK)(lo hi:dR):aK:=(xs.drop (HT.sIx xs.length 0 lo)).take (HT.sIx xs.length xs.length hi-HT.sIx xs.length 0 lo)
theorem oG(xs:aK)(lo hi:dR):(uI xs lo hi).length<=xs.length:=by
 unfold uI;rw[Pm,Py];omega
noncomputable def MU(K:RY):V->dR->dR->Hp->VK->Prop:=λx lo hi H Q=>∃a xs,x=.ref a/\nX K H a xs/\
 ¬(HT.sIx xs.length 0 lo=0/\HT.sIx xs.length xs.length hi=xs.length)/\∀p,H p=none->Q (.ref p) (upd H p (.tup (uI xs lo hi)))
theorem IV:Lj X (MU X.K):=by
 intro pins s σ H x v vl vu lo hi sl Q I rx hs pl pu h;obtain⟨a,xs,rfl,hx,hw,q⟩:=h;cases rx;obtain⟨its,r,ht,hz⟩:=I.tuple hx;have hlen:its.toArray.size=xs.length:=by rw[O6];exact r.length.symm
 refine⟨"tuple",_,PyProof.Rows.slot_tuple_getitem.lookup,ht.typeIs,?_⟩;refine HT.yy ht hs pl pu (by rw[hlen];exact hw) ?_ (by rw[hlen];exact hz);rw[hlen];refine⟨.ref s.heap.objs.size,_,I.laid (t':=s.toks) (o:=.tup (uI xs lo hi)) (λb ob q=>SA _ q) (O1 _) ?_,rfl,q _ (I.hok.fresh (O1 _))⟩;exact⟨OQ (oG xs lo hi) hz,_,(r.drop (HT.sIx xs.length 0 lo)).take (HT.sIx xs.length xs.length hi-HT.sIx xs.length 0 lo),IsTup.new _ _⟩
noncomputable def KU(K:RY):R2:=λx y H Q=>∃a b xs ys,x=.ref a/\y=.ref b/\nX K H a xs/\nX K H b ys/\xs≠[]/\xs.length+ys.length<=Tn/\
 (ys=[]->Q (.ref a) H)/\(ys≠[]->∀p,H p=none->Q (.ref p) (upd H p (.tup (xs++ys))))
theorem Vals.nil_iff{xs:aK}{us:aU}(r:Vals xs us):us=[]↔xs=[]:=by
 cases r with
 |nil=>simp
 |cons _ _=>simp
theorem Ga:iG X (TQ .Add) (KU X.K):=by
 intro pins s σ H x y v u Q I rx ry h;obtain⟨a,b,xs,ys,rfl,rfl,ha,hb,hx,hz,q1,q2⟩:=h;cases rx;cases ry;obtain⟨its,r1,p1,_⟩:=I.tuple ha;obtain⟨its2,r2,p2,_⟩:=I.tuple hb;refine HT.Le p1 p2 (λz=>hx (r1.nil_iff.mp z)) (λz=>⟨.ref a,H,I,rfl,q1 (r2.nil_iff.mp z)⟩) (λz=>?_) (by rw[<-r1.length,<-r2.length];exact hz);refine⟨.ref s.heap.objs.size,_,I.laid (t':=s.toks) (o:=.tup (xs++ys)) (λb ob q=>SA _ q) (O1 _) ?_,rfl,q2 (λw=>z (r2.nil_iff.mpr w)) _ (I.hok.fresh (O1 _))⟩;exact⟨by rw[Pw];exact hz,_,r1.append r2,IsTup.new _ _⟩
end
noncomputable def DH(n:Nat)(i:Int):Option Nat:=if 0<=i then(if i<n then some i.toNat else none)else if -(n:Int)<=i then some (i+n).toNat else none
noncomputable def ly{α:Type}(xs:List α)(i:Int):Option α:=(DH xs.length i).bind λj=>xs[j]?
theorem F9{n:Nat}{i:Int}{j:Nat}(h:DH n i=some j):seqIndex? i n=some j/\j<n/\-(n:Int)<=i/\i<n:=by
 unfold DH at h;by_cases h0:0<=i
 ·rw[if_pos h0]at h;by_cases h1:i<n
  ·rw[if_pos h1]at h;have e:i.toNat=j:=Option.some.inj h;exact⟨by rw[seqIndex_of h0 h1,e],by omega,by omega,h1⟩
  ·rw[if_neg h1]at h;cases h
 ·rw[if_neg h0]at h;by_cases h1:-(n:Int)<=i
  ·rw[if_pos h1]at h;have e:(i+n).toNat=j:=Option.some.inj h;exact⟨by rw[seqIndex_neg ‹0› h1,e],by omega,h1,by omega⟩
  ·rw[if_neg h1]at h;cases h
theorem uy{α:Type}{xs:List α}{i:Int}{v:α}(h:ly xs i=some v):∃j,seqIndex? i xs.length=some j/\xs[j]?=some v/\j<xs.length/\-(xs.length:Int)<=i/\i<xs.length:=by
 unfold ly at h;cases e:DH xs.length i with
 |none=>rw[e]at h;cases h
 |some j=>
  rw[e]at h;obtain⟨h1,h2,h3,h4⟩:=F9 e;exact⟨j,h1,h,h2,h3,h4⟩
theorem E6{α:Type}{xs:List α}{j:Nat}{v:α}(h:xs[j]?=some v):ly xs (j:Int)=some v:=by
 have hj:j<xs.length:=(List.getElem?_eq_some_iff.mp h).1;have e:DH xs.length (j:Int)=some j:=by
  unfold DH;rw[if_pos ‹0›,if_pos ‹0›];simp
 unfold ly;rw[e];exact h
theorem Bj{α:Type}(xs:List α)(v:α):ly (xs++[v]) (-1)=some v:=by
 have hl:(xs++[v]).length=xs.length+1:=by simp
 have e:DH (xs++[v]).length (-1)=some xs.length:=by
  unfold DH;rw[hl,if_neg (by decide),if_pos ‹0›];congr 1;omega
 unfold ly;rw[e];show(xs++[v])[xs.length]?=some v;simp
noncomputable def pf(b:Te):Prop:=∀o i,subscripted b false o i=operate [o,i] (getItem o i)
noncomputable def KI(X:Cx)(r:R2):Prop:=
 ∀(value slice:Te)(pins:bc)(s:Tg)(σ:St)(H:Hp)(x y:V)(v u:S9)(Q:VK),Inv X pins σ H s->RelV x v->RelV y u->r x y H Q->
  subscripted slice false v u=operate [v,u] (getItem v u)->Tu (model X.prog X.w) X.A (subscriptTail value slice v u) (EP X pins σ Q) X.xe s
noncomputable def Ou(X:Cx)(id:String)(r:V->aK->Hp->VK->Prop):Prop:=
 ∀(pins:bc)(s:Tg)(σ:St)(H:Hp)(x:V)(xs:aK)(v:S9)(us:aU)(Q:VK),Inv X pins σ H s->RelV x v->Vals xs us->r x xs H Q->
  Tu (model X.prog X.w) X.A (call (.builtin id) (v::us)) (EP X pins σ Q) X.xe s
section
variable{X:Cx}{a b:Te}{ta tb:TE}{pos:Pos}
theorem Gv{r:R2}(hr:KI X r)(ha:PE X a ta)(hb:PE X b tb)(hs:pf b):PE X (.Subscript a b pos) (JH r ta tb):=by
 intro pins s σ H Q I h;exact Uo (He ha hb I h λv u s2 x y H2 I2 rx ry q=>hr a b pins s2 σ H2 x y v u Q I2 rx ry q (hs _ _))
noncomputable def Mb(K:RY):R2:=λx y H Q=>∃p xs i v,x=.ref p/\y=.int i/\lT K H p xs/\ly xs i=some v/\Q v H
noncomputable def Lw(K:RY):R2:=λx y H Q=>∃p xs i v,x=.ref p/\y=.int i/\nX K H p xs/\ly xs i=some v/\Q v H
noncomputable def MJ:R2:=λx y H Q=>∃z i c,x=.str z/\y=.int i/\z.length<=Tn/\ly z.cps.toList i=some c/\Q (.str ⟨#[c]⟩) H
theorem yo:KI X (Mb X.K):=by
 intro value slice pins s σ H x y v u Q I rx ry h hs;obtain⟨p,xs,i,z,rfl,rfl,hq,he,q⟩:=h;cases rx;obtain⟨t,rfl⟩:=ry;obtain⟨its,r,pl,hz⟩:=I.list hq;obtain⟨j,h1,h2,h3,h4,h5⟩:=uy he;obtain⟨w,ew,rw'⟩:=r.get h2;have hl:=r.length;have hn:=nK;have fin:EP X pins σ Q w s:=⟨z,H,I,rw',q⟩
 by_cases h0:0<=i
 ·have hj:i.toNat=j:=by
   rw[seqIndex_of h0 h5]at h1;exact Option.some.inj h1
  exact item_listR pl.isList h0 ‹0› (by rw[hj];simpa using ew) fin hs
 ·have hj:(i+(its.toArray.size:Int)).toNat=j:=by
   rw[seqIndex_neg ‹0› h4]at h1;rw[O6,<-hl];exact Option.some.inj h1
  exact subscriptTail_builtinR (x:=w) pl.isList.typeIs slot_list_getitem.lookup
   (wpAny_getItem_list_neg (Q:=λr s'=>r=w/\EP X pins σ Q r s') pl.isList ‹0› (by rw[O6]<;>omega) ‹0› (by rw[hj];simpa using ew) ⟨rfl,fin⟩) hs
theorem Hh:KI X (Lw X.K):=by
 intro value slice pins s σ H x y v u Q I rx ry h hs;obtain⟨p,xs,i,z,rfl,rfl,hq,he,q⟩:=h;cases rx;obtain⟨t,rfl⟩:=ry;obtain⟨its,r,pl,hz⟩:=I.tuple hq;obtain⟨j,h1,h2,h3,h4,h5⟩:=uy he;obtain⟨w,ew,rw'⟩:=r.get h2;have hl:=r.length;have hn:=nK;have fin:EP X pins σ Q w s:=⟨z,H,I,rw',q⟩
 exact subscriptTail_builtinR (x:=w) pl.typeIs slot_tuple_getitem.lookup
  (getItem_tuple (j:=j) (Q:=λr s'=>r=w/\EP X pins σ Q r s') pl ‹0› ‹0› (by rw[O6,<-hl];exact h1) (by simpa using ew) ⟨rfl,fin⟩) hs
theorem HQ:KI X MJ:=by
 intro value slice pins s σ H x y v u Q I rx ry h hs;obtain⟨z,i,c,rfl,rfl,hz,he,q⟩:=h;obtain⟨t,rfl⟩:=rx;obtain⟨t',rfl⟩:=ry;obtain⟨j,h1,h2,h3,h4,h5⟩:=uy he;have hl:z.cps.toList.length=z.length:=by simp[Str.length]
 rw[hl]at h1 h4 h5;have hn:=nK;exact tail_any (typeIs_str s z t) slot_str_getitem.lookup (getItem_str (c:=c) (by
  have e1:decide (i < -(2^63:Int))=false:=decide_eq_false ‹0›;have e2:decide (i>=2^63)=false:=decide_eq_false ‹0›;rw[e1,e2,Bool.or_false]) (by rw[h1];simpa using h2) ⟨.str ⟨#[c]⟩,H,I.tok _,⟨_,rfl⟩,q⟩) hs
theorem uE(lo hi:dR)(n:Nat):(sliceBounds lo hi none n).1=((HT.sIx n 0 lo:Nat):Int)/\(sliceBounds lo hi none n).2.1=((HT.sIx n n hi:Nat):Int)/\(sliceBounds lo hi none n).2.2=1:=by
 refine⟨?_,?_,rfl⟩
 ·cases lo with
  |none=>simp[sliceBounds,HT.sIx]
  |some i=>
   simp only[sliceBounds,HT.sIx,PB,show(1:Int)>0 by decide,if_true];by_cases h:i<0
   ·simp only[h,if_true]<;>omega
   ·simp only[h,if_false]<;>omega
 ·cases hi with
  |none=>simp[sliceBounds,HT.sIx]
  |some i=>
   simp only[sliceBounds,HT.sIx,PB,show(1:Int)>0 by decide,if_true];by_cases h:i<0
   ·simp only[h,if_true]<;>omega
   ·simp only[h,if_false]<;>omega
theorem qZ(its:aU)(lo hi:dR):slicePick its.toArray lo hi none=((its.drop (HT.sIx its.length 0 lo)).take (HT.sIx its.length its.length hi-HT.sIx its.length 0 lo)).toArray:=by
 obtain⟨h1,h2,h3⟩:=uE lo hi its.toArray.size;unfold slicePick;rw[h1,h2,h3];simp only[sliceRange_one,pick_run,O6]<;>rfl
noncomputable def Nm(K:RY):V->dR->dR->Hp->VK->Prop:=λx lo hi H Q=>∃a xs,x=.ref a/\lT K H a xs/\∀p,H p=none->Q (.ref p) (upd H p (.lst (uI xs lo hi)))
theorem D6:Lj X (Nm X.K):=by
 intro pins s σ H x v vl vu lo hi sl Q I rx hs pl pu h;obtain⟨a,xs,rfl,hx,q⟩:=h;cases rx;obtain⟨its,r,ht,hz⟩:=I.list hx;have hlen:=r.length;refine⟨"list",_,slot_list_getitem.lookup,ht.isList.typeIs,?_⟩;refine wpAny_getItem_list_slice ht.isList hs pl pu .none (by simp) ?_ (by rw[O6]<;>omega);rw[qZ,<-hlen];refine⟨.ref s.heap.objs.size,_,I.laid (t':=s.toks) (o:=.lst (uI xs lo hi)) (λb ob q=>SA _ q) (O1 _) ?_,rfl,q _ (I.hok.fresh (O1 _))⟩;exact⟨OQ (oG xs lo hi) hz,_,0,(r.drop (HT.sIx xs.length 0 lo)).take (HT.sIx xs.length xs.length hi-HT.sIx xs.length 0 lo),SD _ rfl⟩
noncomputable def C5:V->Bool
 |.non=>true
 |.bl _=>true
 |.int _=>true
 |.str _=>true
 |_=>false
noncomputable def LI:V->V->Bool
 |.non,.non=>true
 |.bl a,.bl b=>a==b
 |.bl a,.int b=>(if a then 1 else 0)==b
 |.int a,.bl b=>a==(if b then 1 else 0)
 |.int a,.int b=>a==b
 |.str a,.str b=>a==b
 |_,_=>false
theorem G8{A:Ts}{s:Tg}{y x:V}{u v:S9}(ry:RelV y u)(rx:RelV x v)(fy:C5 y=true)(fx:C5 x=true):SeqAt.EqAt A s u v (LI y x):=by
 cases y with
 |non=>
  cases ry;cases x with
  |non=>cases rx;exact SeqAt.EqAt.same _
  |bl b=>cases rx;exact SeqAt.EqAt.none_bool b
  |int b=>obtain⟨t,rfl⟩:=rx;exact SeqAt.EqAt.none_int b t
  |str b=>obtain⟨t,rfl⟩:=rx;exact SeqAt.EqAt.none_str b t
  |_=>exact absurd (show false=true from fx) O7
 |bl a=>
  cases ry;cases x with
  |non=>cases rx;exact SeqAt.EqAt.bool_none a
  |bl b=>cases rx;exact SeqAt.EqAt.bool_bool a b
  |int b=>obtain⟨t,rfl⟩:=rx;exact SeqAt.EqAt.bool_int a b t
  |str b=>obtain⟨t,rfl⟩:=rx;exact SeqAt.EqAt.bool_str a b t
  |_=>exact absurd (show false=true from fx) O7
 |int a=>
  obtain⟨t',rfl⟩:=ry;cases x with
  |non=>cases rx;exact SeqAt.EqAt.int_none a t'
  |bl b=>cases rx;exact SeqAt.EqAt.int_bool a t' b
  |int b=>obtain⟨t,rfl⟩:=rx;exact SeqAt.EqAt.int_int a t' b t
  |str b=>obtain⟨t,rfl⟩:=rx;exact SeqAt.EqAt.int_str a t' b t
  |_=>exact absurd (show false=true from fx) O7
 |str a=>
  obtain⟨t',rfl⟩:=ry;cases x with
  |non=>cases rx;exact SeqAt.EqAt.str_none a t'
  |bl b=>cases rx;exact SeqAt.EqAt.str_bool a t' b
  |int b=>obtain⟨t,rfl⟩:=rx;exact SeqAt.EqAt.str_int a t' b t
  |str b=>obtain⟨t,rfl⟩:=rx;exact SeqAt.EqAt.str_str a t' b t
  |_=>exact absurd (show false=true from fx) O7
 |_=>exact absurd (show false=true from fy) O7
theorem mw:dS X (.builtin "len") (λxs H Q=>∃p ys,xs=[.ref p]/\(lT X.K H p ys\/nX X.K H p ys)/\Q (.int ys.length) H):=by
 intro pins s σ H xs us Q I r h;obtain⟨p,ys,rfl,hq,q⟩:=h;obtain⟨u,rfl,rx⟩:=vals1 r;cases rx;have hn:=nK;rcases hq with hq|hq
 ·obtain⟨its,r',pl,hz⟩:=I.list hq;have hlen:=r'.length;exact Calls.call_len_list pl.isList (by simp only[O6]<;>omega) ⟨.int ys.length,H,I.tok _,⟨s.toks+1,by rw[O6,hlen]⟩,q⟩
 ·obtain⟨its,r',pl,hz⟩:=I.tuple hq;have hlen:=r'.length;exact len_tuple pl (by simp only[O6]<;>omega) ⟨.int ys.length,H,I.tok _,⟨s.toks+1,by rw[O6,hlen]⟩,q⟩
theorem ur:dS X (.builtin "len") (λxs H Q=>∃z,xs=[.str z]/\z.length<=Tn/\Q (.int z.length) H):=by
 intro pins s σ H xs us Q I r h;obtain⟨z,rfl,hz,q⟩:=h;obtain⟨u,rfl,t,rfl⟩:=vals1 r;have hn:=nK;exact len_str ‹0› ⟨.int z.length,H,I.tok _,⟨_,rfl⟩,q⟩
theorem jr:dS X (.type "list") (λxs H Q=>∃p ys,xs=[.ref p]/\(lT X.K H p ys\/nX X.K H p ys)/\∀l,H l=none->Q (.ref l) (upd H l (.lst ys))):=by
 intro pins s σ H xs us Q I r h;obtain⟨p,ys,rfl,hq,q⟩:=h;obtain⟨u,rfl,rx⟩:=vals1 r;cases rx;have fin:∀(its:aU),Vals ys its->ys.length<=Tn->∀(h':Tl)(c':Nat),(∀b o',s.heap.get? b=some o'->h'.get? b=some o')->
   h'.get? s.heap.objs.size=some {cls:=.type "list",dict:=none,data:=.seq its.toArray c',slots:=#[]}->EP X pins σ Q (.ref s.heap.objs.size) {s with heap:=h'}:=λits r' hz h' c' kp e=>
  ⟨.ref s.heap.objs.size,_,I.laid (t':=s.toks) kp (O1 _) (show b7 X.prog X.w _ h' _ (.lst ys)from⟨hz,its,c',r',e⟩),rfl,q _ (I.hok.fresh (O1 _))⟩
 rcases hq with hq|hq
 ·obtain⟨its,r',pl,hz⟩:=I.list hq;have hlen:=r'.length;obtain⟨o,ho,hc,n,hd⟩:=pl.isList;exact call_list_seq p (.inl rfl) ho hc hd (λh' c' kp e=>fin its r' hz h' c' kp e) (by simp only[O6]<;>omega)
 ·obtain⟨its,r',pl,hz⟩:=I.tuple hq;have hlen:=r'.length;obtain⟨o,ho,hc,n,hd⟩:=pl;exact call_list_seq p (.inr rfl) ho hc hd (λh' c' kp e=>fin its r' hz h' c' kp e) (by simp only[O6]<;>omega)
theorem lE:dS X (.type "tuple") (λxs H Q=>∃p ys,xs=[.ref p]/\((lT X.K H p ys/\∀l,H l=none->Q (.ref l) (upd H l (.tup ys)))\/(nX X.K H p ys/\Q (.ref p) H))):=by
 intro pins s σ H xs us Q I r h;obtain⟨p,ys,rfl,h⟩:=h;obtain⟨u,rfl,rx⟩:=vals1 r;cases rx;rcases h with⟨hq,q⟩|⟨hq,q⟩
 ·obtain⟨its,r',pl,hz⟩:=I.list hq;have hlen:=r'.length;refine call_tuple_list pl.isList (λh' kp=>?_) (by simp only[O6]<;>omega);have I1:Inv X pins σ H {s with heap:=h'}:=I.kept (t':=s.toks) kp;have I2:Inv X pins σ (upd H h'.objs.size (.tup ys)) {s with heap:=h'.push {cls:=.type "tuple",data:=.seq its.toArray}}:=
   I1.laid (t':=s.toks) (λb o e=>SA _ e) (O1 _) (show b7 X.prog X.w _ _ _ (.tup ys)from⟨hz,its,r',IsTup.new _ _⟩)
  exact⟨.ref h'.objs.size,_,I2,rfl,q _ (I1.hok.fresh (O1 _))⟩
 ·obtain⟨its,r',pl,hz⟩:=I.tuple hq;exact call_tuple_same pl ⟨.ref p,H,I,rfl,q⟩
noncomputable def Ly(K:RY)(T:String)(x:V)(H:Hp):Prop:=match x with
 |.str _=>T="str"
 |.int _=>T="int"
 |.ref p=>(T="list"/\∃xs,lT K H p xs)\/(T="tuple"/\∃o,K.lookup p=some o/\o.cls=.type "tuple"/\o.dict=none) \/
   (T="dict"/\((∃kvs,H p=some (.dK kvs))\/∃kvs,H p=some (.dT kvs)))\/(T="set"/\∃S n,H p=some (.set S n))
 |_=>False
theorem Ii{pins:bc}{σ:St}{H:Hp}{s:Tg}{T:String}{x:V}{v:S9}(I:Inv X pins σ H s)(r:RelV x v)(ty:Ly X.K T x H):
  s.TypeIs v T/\∀a,v=.ref a->∃ob,s.heap.get? a=some ob/\ob.dict=none:=by
 cases x with
 |str z=>
  obtain⟨t,rfl⟩:=r;cases(show T="str"from ty);exact⟨typeIs_str s z t,λ_ e=>nomatch e⟩
 |int i=>
  obtain⟨t,rfl⟩:=r;cases(show T="int"from ty);exact⟨typeIs_int s i t,λ_ e=>nomatch e⟩
 |ref p=>
  cases r;rcases ty with⟨rfl,xs,hq⟩|⟨rfl,o,hk,hc,hd⟩|⟨rfl,hk⟩|⟨rfl,S,n,hk⟩
  ·obtain⟨its,_,pl,_⟩:=I.list hq;refine⟨pl.isList.typeIs,λa e=>?_⟩;cases e;obtain⟨o,n,e,c,hd,_⟩:=pl;exact⟨o,e,hd⟩
  ·refine⟨⟨o,I.kIn p o hk,hc⟩,λa e=>?_⟩;cases e;exact⟨o,I.kIn _ o hk,hd⟩
  ·have z:∃o,s.heap.get? p=some o/\o.ExactDict:=by
    rcases hk with⟨kvs,hk⟩|⟨kvs,hk⟩
    ·obtain⟨_,_,_,_,o,_,_,e,ex,_⟩:=I.hok p _ hk;exact⟨o,e,ex⟩
    ·obtain⟨_,_,_,_,o,_,_,e,ex,_⟩:=I.hok p _ hk;exact⟨o,e,ex⟩
   obtain⟨o,e,ex⟩:=z;refine⟨⟨o,e,ex.1⟩,λa e2=>?_⟩;cases e2;exact⟨o,e,ex.2.1⟩
  ·obtain⟨o,_,_,_,e,ex,_⟩:=I.hok p _ hk;refine⟨⟨o,e,ex.1⟩,λa e2=>?_⟩;cases e2;exact⟨o,e,ex.2.1⟩
 |_=>exact False.elim ty
noncomputable def N6(K:RY)(T:String)(r:V->aK->Hp->VK->Prop)(to:TE)(t:TA):TE:=λσ H Q=>to σ H λx H1=>Ly K T x H1/\t σ H1 λxs H2=>r x xs H2 Q
variable{o e:Te}{es:bz}{to:TE}{t:TA}{name:Str}{apos cpos:Pos}{T id:String}{r:V->aK->Hp->VK->Prop}
theorem vk(pa:PlainAttrs T)(slot:Slot T name id)(hty:typeOf (.builtin id)=pure (.type "method_descriptor"))(hm:Ou X id r)(ho:PE X o to)(ha:PA X (e::es) t)
  (hbase:Uq o name X.env (eval o X.env)=eval o X.env:=by rfl)
  (hfew:((backTo cpos (Tv (e::es) X.env)).all (fun x=>!x.1) && (backToKw cpos (T2 [] X.env)).all (fun x=>x.1.isSome)
   && decide ((e::es).length+([]:List Ur).length+(if([]:List Ur).isEmpty then 0 else 1)<30))=true:=by rfl)
  (hline:(apos.endLine==cpos.line)=true:=by rfl) (hs:Tv (e::es) X.env=(false,eval e X.env)::Tv es X.env:=by rfl) (hplain:(backTo cpos (Tv es X.env)).any (·.1)=false:=by rfl):
  PE X (.Call (.Attribute o name apos) (e::es) [] cpos) (N6 X.K T r to t):=by
 intro pins s σ H Q I h;refine wpAny_Call_method_late hbase hfew hline rfl (cM (ho pins s σ H _ I h) λv s1 ⟨x,H1,I1,r1,ty,q1⟩=>?_);obtain⟨h1,h2⟩:=Ii I1 r1 ty;refine⟨T,id,pa,slot,hty,h1,h2,?_⟩;have hA:=ha cpos pins s1 σ H1 _ I1 q1;rw[hs]at hA ⊢;refine Calls.callWith_builtin (by show(false||(backTo cpos (Tv es X.env)).any (·.1))=false;rw[hplain]<;>rfl) (Calls.evalArgs_plain ?_);exact cM hA λus s2 ⟨vs,H2,I2,r2,q2⟩=>hm pins s2 σ H2 x vs v us Q I2 r1 r2 q2
end
noncomputable def Ln(X:Cx)(id:String)(r:V->aK->Hp->VK->Prop):Prop:=
 ∀(pins:bc)(s:Tg)(σ:St)(H:Hp)(x:V)(xs:aK)(v:S9)(us:aU)(Q:VK),Inv X pins σ H s->RelV x v->Vals xs us->r x xs H Q->
  Tu (model X.prog X.w) X.A (call (.builtin id) (v::us)) (EP X pins σ Q) X.xe s
theorem Vals.one:∀{x:V}{us:aU},Vals [x] us->∃u,us=[u]/\RelV x u
 |_,_,.cons r .nil=>⟨_,rfl,r⟩
theorem Vals.two{x y:V}{us:aU}(h:Vals [x,y] us):∃u v,us=[u,v]/\RelV x u/\RelV y v:=by
 cases h with|cons r t=>
 obtain⟨v,rfl,q⟩:=Vals.one t;exact⟨_,_,rfl,r,q⟩
section
variable{X:Cx}{pins:bc}{σ:St}{H:Hp}{s:Tg}{l b:Td}{xs ys zs:aK}
theorem Inv.lset{its its':aU}{n:Nat}{f:eD->eD}{t':Nat}(I:Inv X pins σ H s)(hH:H l=some (.lst xs))
  (e:s.heap.get? l=some {cls:=.type "list",data:=.seq its.toArray n}) (hf:f its.toArray=its'.toArray) (hv:Vals ys its') (hz:ys.length<=Tn):
  Inv X pins σ (upd H l (.lst ys)) {s with heap:=s.heap.update l (Obj.mapSeq f),toks:=t'}:=by
 have q:=PySem.IsL.update e f;rw[hf]at q;refine I.write (x:=l) (e:=l) (by rw[hH];exact trivial) (.inl rfl) (λb' u hb hu=>(Heap.get?_update_other s.heap (Obj.mapSeq f) (Ne.symm hb)).trans hu) ⟨_,q⟩ ?_;exact⟨hz,its',_,hv,q⟩
theorem Inv.lnew{its:aU}{t':Nat}(I:Inv X pins σ H s)(hv:Vals ys its)(hz:ys.length<=Tn):
  Inv X pins σ (upd H s.heap.objs.size (.lst ys)) {s with heap:=s.heap.push {cls:=.type "list",data:=.seq its.toArray},toks:=t'}:=
 I.laid (λ_ _ q=>SA _ q) (O1 _) ⟨hz,its,0,hv,SD _ rfl⟩
theorem Inv.fresh(I:Inv X pins σ H s):H s.heap.objs.size=none:=I.hok.fresh (O1 _)
theorem Inv.lstM(I:Inv X pins σ H s)(hH:H l=some (.lst xs)):xs.length<=Tn/\∃(its:aU)(n:Nat),Vals xs its/\xs.length=its.length/\s.heap.get? l=some {cls:=.type "list",data:=.seq its.toArray n}:=by
 obtain⟨z,its,n,r,e⟩:=I.hok l _ hH;exact⟨z,its,n,r,r.length,e⟩
theorem Cg{n:Nat}(h:n<=Tn):Builtin.List.listTooLong n=false:=by
 unfold Builtin.List.listTooLong;exact decide_eq_false ‹0›
end
section
variable{X:Cx}
noncomputable def tY:V->aK->Hp->VK->Prop:=λx vs H Q=>∃l xs y,x=.ref l/\vs=[y]/\H l=some (.lst xs)/\xs.length<Tn/\Q .non (upd H l (.lst (xs++[y])))
theorem km:Ln X "list.append" tY:=by
 intro pins s σ H x vs v us Q I rx rv h;obtain⟨l,xs,y,rfl,rfl,hH,hz,q⟩:=h;cases rx;obtain⟨u,rfl,ru⟩:=rv.one;obtain⟨z,its,n,r,hl,e⟩:=I.lstM hH;refine call_meets F.slot_list_append ⟨_,e,rfl⟩ F.entry_list_append (F.args_list_append_2 _ _) (PySem.list_append l its.toArray n u (by rw[O6];omega)) ⟨e,?_⟩;refine⟨.non,_,I.lset (its':=its++[u]) hH e (by simp) (r.append (.cons ru .nil)) ?_,rfl,q⟩;rw[Pw,PC];omega
noncomputable def EQ:V->aK->Hp->VK->Prop:=λx vs H Q=>∃l b xs zs,x=.ref l/\vs=[.ref b]/\H l=some (.lst xs)/\H b=some (.lst zs)/\xs.length+zs.length<=Tn/\Q .non (upd H l (.lst (xs++zs)))
theorem zH:Ln X "list.extend" EQ:=by
 intro pins s σ H x vs v us Q I rx rv h;obtain⟨l,b,xs,zs,rfl,rfl,hH,hB,hz,q⟩:=h;cases rx;obtain⟨u,rfl,ru⟩:=rv.one;cases ru;obtain⟨z,its,n,r,hl,e⟩:=I.lstM hH;obtain⟨z2,its2,n2,r2,hl2,e2⟩:=I.lstM hB;have hsz:its.toArray.size+its2.toArray.size<=Tn:=by rw[O6,O6];omega
 have hlong:¬(!its.toArray.isEmpty&&Builtin.List.listTooLong (its.toArray.size+its2.toArray.size))=true:=by
  rw[Cg hsz,PD];exact O7
 refine call_meets F.slot_list_extend ⟨_,e,rfl⟩ F.entry_list_extend (F.args_list_extend_2 _ _)
  (AutoSeq1.list_extend_list_list_0 l its.toArray n b its2.toArray n2 hlong (by rw[O6];omega) ‹0›) ⟨e,e2,?_⟩
 refine⟨.non,_,I.lset (its':=its++its2) hH e (by simp) (r.append r2) ?_,rfl,q⟩;rw[Pw];omega
end
end L2
namespace Att
open PySem PySem.W PySem.Calls PyProof.Rows
theorem oQ{P:Params}{h:Tl}:∀(ns:List Int)(vs:List S9),WellAll P h vs (ns.map WData.int)->IntsAre vs ns:=by
 intro ns
 induction ns with
 |nil=>
  intro vs w;rw[PF]at w;cases w;exact .nil
 |cons n ns ih=>
  intro vs w;rw[O9]at w;cases w with
  |cons a b=>
   cases a;exact .cons _ _ (ih _ b)
theorem Ab{l:OpenLaw}{n:Nat}(hn:l.most=some n){P:Params}{h:Tl}{args:List WData}{vals:List S9}
  (hpre:l.row.toRowW.claim.pre args=true) (hwl:WellAll P h vals args):
  ∃a vs ns,vals=[Value.ref a]/\args=[WData.list (ns.map WData.int)]/\h.get? a=some {cls:=.type "list",data:=.seq vs.toArray}/\IntsAre vs ns/\ns.length<=n:=by
 have hsh:WShape.hasAll [] args [.list .int]=true:=(pre_splitW hpre).1;have hc:l.pre.holds [] {args:=args}=true:=(pre_splitW hpre).2;obtain⟨d,r,rfl,h1,h2⟩:=hasAllW_cons hsh;obtain rfl:=hasAllW_nil h2;obtain⟨xs,rfl,h3⟩:=hasW_list h1;obtain⟨ns,rfl⟩:=items_int h3;have hlen:ns.length<=n:=by
  unfold OpenLaw.pre at hc;have h4:(WTm.not (.lt (.lit (.int (n:Int))) (.len (.arg 0)))).holds [] {args:=[.list (ns.map .int)]}=true:=by
   have h4:=(holds_andW hc).1;rw[hn]at h4;exact h4
  have h5:=condW_of h4 (w_not (w_lt w_lit (w_len_list (w_arg rfl))));rw[Pa]at h5;refine Nat.le_of_not_lt λq=>?_;have q':(n:Int)<((ns.length:Nat):Int):=by omega
  first
   |(rw[decide_eq_true q']at h5;exact absurd h5 (by decide))
   |(simp at h5;omega)
 cases hwl with
 |cons w1 w2=>
  cases w2;cases w1 with
  |list ho hall=>exact⟨_,_,ns,rfl,rfl,ho,oQ ns _ hall,hlen⟩
theorem Au(l:OpenLaw)(args:List WData):l.row.toRowW.claim.post args (.bool true) args=true:=
 postW_of (r:=l.row.toRowW) (X:=(true==true))
  (show WShape.has [] (.bool true) .bool=true by first|rfl|decide|simp[WShape.has,WShape.arms,WShape.armsAll])
  (show(WTm.eq .res (.lit (.bool true))).value [] {args:=args,res:=some (.bool true),after:=args}=some (.bool (true==true))from w_eq_bool (w_res rfl) w_lit) rfl
theorem Gr{l:OpenLaw}{n:Nat}{q:Ti}{loose:List Str}{XP:(Str->Option S9)->Tl->Prop}{YP:Th->Tl->Prop}{d:DefRec}
  (hn:l.most=some n) (hdf:d.params.defaults=[])
  (call:∀ (w:Th) (s₀ s₁:Tg) (mg mb:Str->Option S9) (fa:Td) (o:Obj) (pm cd doc:S9) (a:Td) (vs:List S9) (ns:List Int),
   Ground q loose [] XP w s₀ mg mb s₁.heap->YP w s₁.heap->
   s₁.heap.get? fa=some o->o.data=.func (docDef d.name d.params d.body d.scope pm cd doc)->s₁.heap.CodeRec cd d.name->mg d.name=some (.ref fa)->
   s₁.heap.get? a=some {cls:=.type "list",data:=.seq vs.toArray}->IntsAre vs ns->ns.length<=n->s₁.gens=#[]->
   TZ (model l.prog w) callerA (.call (.ref fa) ⟨[.ref a],[]⟩) (λr s'=>r=.ok (.ret (.bool true))/\OldK s₁.heap s'.heap/\s'.os=s₁.os/\AllBare s'.gens) s₁):
  WalkO q loose XP YP l.row.toRowW d [] (λf vs=>PySem.call f vs):=by
 intro w s₀ s₁ mg mb G Y fa o pm cd doc dV kV ho hd hcd hD hmg hg args vals as hpre hlay hrd hwl hlo;obtain rfl:dV=.none:=Dflts.none hD hdf;obtain rfl:kV=.none:=Dflts.noKw hD;obtain⟨a,vs,ns,rfl,rfl,hobj,hints,hlen⟩:=Ab hn hpre hwl;refine enter_call (T8 (call w s₀ s₁ mg mb fa o pm cd doc a vs ns G Y ho (fd_plain hd) hcd hmg hobj hints hlen hg) λr s' hq=>?_);obtain⟨rfl,h2,h3,h4⟩:=hq;exact⟨.inl ⟨.bool true,.bool true,[],rfl,λ_=>rfl,.bool true,Au l _,λ_=>⟨List.Pairwise.nil,λ_ hm=>(nomatch hm)⟩⟩,h2,h3,h4⟩
section
variable{prog:Ti}{w:Th}{A:Ts}{E:S9->Tg->Prop}{s:Tg}{K:Frag}
end
end Att
namespace L2
open PySem PySem.Spec PyProof.Rows
theorem ro:∀{vs:aU}{ns:List Int},IntsAre vs ns->Vals (ns.map V.int) vs
 |_,_,.nil=>.nil
 |_,_,.cons n t h=>.cons ⟨t,rfl⟩ (ro h)
noncomputable def inClass(s:Tf)(j:Nat):Tf:=match s with
 |.ClassDef _ _ _ body _ _ _ _ _ _ _=>body.getD j (.Pass ⟨0,0,0,0⟩)
 |_=>.Pass ⟨0,0,0,0⟩
noncomputable def jw(s:Tf):Ua:=match s with
 |.FunctionDef _ a _ _ _ _ _ _ _ _=>a
 |_=>{posonlyargs:=[],args:=[],vararg:=none,kwonlyargs:=[],kw_defaults:=[],kwarg:=none,defaults:=[]}
noncomputable def dG(s:Tf):eE:=match s with
 |.FunctionDef _ _ b _ _ _ _ _ _ _=>b
 |_=>[]
noncomputable def aw(s:Tf):Tt:=match s with
 |.FunctionDef _ _ _ _ _ _ sc _ _ _=>sc
 |_=>{kind:=.function,names:=[],isGenerator:=false,isCoroutine:=false}
noncomputable abbrev Lp:xQ:=λ_ _ _ _ _ _=>False
noncomputable abbrev E0:XK:=λ_ _ _=>False
structure uF(K:RY)(x qual:Str)(st:Tf)(f:Td)(fd:T6):Prop where
 ex:∃(oc:S9)(od:Option Td)(kV doc pm:S9)(an:Option Td)(cdv ct:S9)(osl:Array (Option S9)),
  fd=Sg x qual (jw st) (dG st) (aw st) .none kV doc pm an cdv ct/\K.lookup f=some ⟨oc,od,.func fd,osl⟩/\Si K cdv qual=true
 kp:Sd K (.ref f)=true
section
variable{P:Ti}{w:Th}{K:RY}{mg:cj}{base:Tl}
theorem uF.ok{x qual:Str}{st:Tf}{f:Td}{fd:T6}{N ps:ay}{k:Nat}{sp:Sp}(F:uF K x qual st f fd)(S:dJ N ps (aw st))(len:∀vs H Q E,sp vs H Q E->vs.length=ps.length)
  (hbody:∀ (cdv:S9) (A:Ts) (outer:List Env) (s:Tg) (H:Hp) (vs:aK) (Q:VK) (E:XK),eY k (A.deeper (envOfC qual (aw st) s.heap.objs.size f cdv))->sp vs H Q E ->
   ∃t,vA (g9 Lp P w K mg base N qual (aw st) f cdv A outer s H E).nox (dG st) t/\t {nx:=λ_ H'=>Q .non H',rt:=Q} (start N vs) H):gS P w K mg base Lp (k+1) f fd ps sp:=by
 obtain⟨oc,od,kV,doc,pm,an,cdv,ct,osl,rfl,lk,hcd⟩:=F.ex;refine Dy lk hcd S len λA outer s H vs Q E hr hsp=>?_;obtain⟨t,h,q⟩:=hbody cdv A outer s H vs Q E hr hsp;exact⟨t,h.nox,q⟩
theorem uF.binds{x qual:Str}{st:Tf}{f:Td}{fd:T6}{ps:ay}(F:uF K x qual st f fd)
  (h:∀(kV doc pm:S9)(an:Option Td)(cdv ct:S9)(us:aU),us.length=ps.length->bindArgs (Sg x qual (jw st) (dG st) (aw st) .none kV doc pm an cdv ct) ⟨us,[]⟩=pure (ps.zip us)):Binds K fd ps []:=by
 obtain⟨oc,od,kV,doc,pm,an,cdv,ct,osl,rfl,lk,hcd⟩:=F.ex;exact .all (h kV doc pm an cdv ct)
theorem j9{x qual:Str}{st:Tf}{f:Td}{oc:S9}{od an:Option Td}{osl:Array (Option S9)}{kV doc pm cdv ct:S9}(l:K.lookup f=some ⟨oc,od,.func (Sg x qual (jw st) (dG st) (aw st) .none kV doc pm an cdv ct),osl⟩)
  (c:Si K cdv qual=true) (k:Sd K (.ref f)=true):uF K x qual st f (Sg x qual (jw st) (dG st) (aw st) .none kV doc pm an cdv ct):=⟨⟨oc,od,kV,doc,pm,an,cdv,ct,osl,rfl,l,c⟩,k⟩
end
section
variable{X:Cx}
theorem pv(i:Nat){x:Str}{pos:Pos}(hN:X.N[i]?=some x:=by rfl)(hv:HS X.env.scope x:=by first|exact Or.inl rfl|exact Or.inr (Or.inl rfl)|exact Or.inr (Or.inr rfl))(hd:(x==("__debug__":Str))=false:=by decide)
  (hcd:(x==("__classdict__":Str))=false:=by decide):PE X (.Name x pos) (Dr i):=Hx hN hv hd hcd
end
theorem uW{A B:Prop}(h:B):if false=true then A else B:=by
 rw[if_neg O7];exact h
theorem vU{A B:Prop}(h:A):if true=true then A else B:=by
 rw[if_pos rfl];exact h
noncomputable def aR(H H':Hp):Prop:=∀b o,H b=some o->H' b=some o
theorem aR.refl(H:Hp):aR H H:=λ_ _ h=>h
theorem aR.trans{H H1 H2:Hp}(a:aR H H1)(b:aR H1 H2):aR H H2:=λc o h=>b c o (a c o h)
theorem aR.free{H H':Hp}(e:aR H H'){l:Td}(h:H' l=Option.none):H l=Option.none:=by
 cases q:H l with
 |none=>rfl
 |some o=>
  rw[e l o q]at h;cases h
theorem aR.seq{K:RY}{H H':Hp}{a:Td}{xs:aK}(e:aR H H')(h:lT K H a xs):lT K H' a xs:=by
 rcases h with(h|⟨o,h⟩)|h
 ·exact .inl (.inl (e _ _ h))
 ·exact .inl (.inr ⟨o,e _ _ h⟩)
 ·exact .inr h
section
variable{κ:Type}[DecidableEq κ]
noncomputable def gz(kvs:List (κ×V))(k:κ):Option V:=(kvs.find? λkv=>decide (kv.1=k)).map (·.2)
noncomputable def putK(kvs:List (κ×V))(k:κ)(v:V):List (κ×V):=
 if(kvs.any λkv=>decide (kv.1=k))=true then kvs.map (λkv=>if kv.1=k then(kv.1,v)else kv)else kvs++[(k,v)]
theorem iP{p:κ×V}{r:List (κ×V)}{k:κ}(e:p.1=k):gz (p::r) k=some p.2:=by simp[gz,PH,e]
theorem gV{p:κ×V}{r:List (κ×V)}{k:κ}(e:¬p.1=k):gz (p::r) k=gz r k:=by simp[gz,PH,e]
theorem pJ(k:κ):∀kvs:List (κ×V),(kvs.any λkv=>decide (kv.1=k))=(gz kvs k).isSome
 |[]=>rfl
 |p::r=>by
  rw[PJ];by_cases e:p.1=k
  ·simp only[iP e,decide_eq_true e,PK,Option.isSome_some]
  ·rw[gV e,decide_eq_false e,PL];exact pJ k r
theorem ic(kvs:List (κ×V))(k:κ)(v:V):(putK kvs k v).length<=kvs.length+1:=by
 unfold putK;split
 ·rw[Pa];omega
 ·rw[Pw,O8,PN];omega
theorem oU.isSome_eq{o:Option V}{u:Option S9}(r:oU o u):o.isSome=u.isSome:=by
 cases o with
 |none=>cases u with
  |none=>rfl
  |some _=>exact(show False from r).elim
 |some _=>cases u with
  |none=>exact(show False from r).elim
  |some _=>rfl
theorem oU.getD{o:Option V}{u:Option S9}{d:V}{d':S9}(r:oU o u)(rd:RelV d d'):RelV (o.getD d) (u.getD d'):=by
 cases o with
 |none=>cases u with
  |none=>exact rd
  |some _=>exact(show False from r).elim
 |some _=>cases u with
  |none=>exact(show False from r).elim
  |some _=>exact r
theorem KV.val{kvs:List (κ×V)}{vs:List (κ×S9)}(r:KV kvs vs)(k:κ):oU (gz kvs k) (valueAt vs k):=by
 unfold KV at r
 induction r with
 |nil=>exact True.intro
 |@cons p q ps qs h t ih=>
  obtain⟨h1,h2⟩:=h;by_cases e:p.1=k
  ·have e':q.1=k:=h1.symm.trans e;have b:valueAt (q::qs) k=some q.2:=(by simp[valueAt,PH,e']);rw[iP e,b];exact h2
  ·have e':¬q.1=k:=λz=>e (h1.trans z);have b:valueAt (q::qs) k=valueAt qs k:=(by simp[valueAt,PH,e']);rw[gV e,b];exact ih
theorem KV.any{kvs:List (κ×V)}{vs:List (κ×S9)}(r:KV kvs vs)(k:κ):(kvs.any λkv=>decide (kv.1=k))=vs.any λkv=>decide (kv.1=k):=by
 unfold KV at r
 induction r with
 |nil=>rfl
 |cons h t ih=>rw[PJ,PJ,ih,h.1]
theorem KV.repl{kvs:List (κ×V)}{vs:List (κ×S9)}(r:KV kvs vs)(k:κ){y:V}{u:S9}(ry:RelV y u):
  KV (kvs.map λkv=>if kv.1=k then(kv.1,y)else kv) (vs.map λkv=>if kv.1=k then(kv.1,u)else kv):=by
 unfold KV at r ⊢
 induction r with
 |nil=>exact .nil
 |@cons p q ps qs h t ih=>
  rw[O9,O9];refine .cons ?_ ih;obtain⟨h1,h2⟩:=h;by_cases e:p.1=k
  ·rw[if_pos e,if_pos (h1.symm.trans e)];exact⟨h1,ry⟩
  ·rw[if_neg e,if_neg (λz=>e (h1.trans z))];exact⟨h1,h2⟩
theorem KV.put{kvs:List (κ×V)}{vs:List (κ×S9)}(r:KV kvs vs)(k:κ){y:V}{u:S9}(ry:RelV y u):KV (putK kvs k y) (stored vs k u):=by
 unfold putK stored;rw[r.any k];by_cases e:(vs.any λkv=>decide (kv.1=k))=true
 ·rw[if_pos e,if_pos e];exact r.repl k ry
 ·rw[if_neg e,if_neg e];exact Paired.snoc r ⟨rfl,ry⟩
theorem KV.keys{kvs:List (κ×V)}{vs:List (κ×S9)}(r:KV kvs vs):kvs.map (·.1)=vs.map (·.1):=by
 unfold KV at r
 induction r with
 |nil=>rfl
 |cons h t ih=>rw[O9,O9,ih,h.1]
theorem KV.length{kvs:List (κ×V)}{vs:List (κ×S9)}(r:KV kvs vs):kvs.length=vs.length:=Paired.length r
end
theorem vx{P:Ti}{w:Th}{k:Key}{u:S9}(r:RelV (kV k) u):(bP P w).is k u=true:=by
 cases k with
 |inl i=>obtain⟨t,e⟩:=(show∃t,u=Value.int i t from r);subst e;exact vf P w i t
 |inr x=>obtain⟨t,e⟩:=(show∃t,u=Value.str x t from r);subst e;exact vJ P w x t
theorem su{P:Ti}{w:Th}:∀{ks:cP}{us:aU},Vals (ks.map kV) us->ItemsAre (bP P w) ks us
 |[],_,r=>by rw[PF]at r;cases r;exact .nil
 |k::ks,_,r=>by
  rw[O9]at r;cases r with
  |cons h t=>exact .cons (vx h) (su t)
noncomputable abbrev KT(H:Hp):List (List Key×V)->List (List Key×Td×S9)->Prop:=Tj λp q=>p.1=q.1/\H q.2.1=some (.tup (p.1.map kV))/\RelV p.2 q.2.2
theorem KT.val{H:Hp}{kvs:List (List Key×V)}{xs:List (List Key×Td×S9)}(r:KT H kvs xs)(k:cP):oU (gz kvs k) ((atKey xs k).map (·.2)):=by
 induction r with
 |nil=>exact True.intro
 |@cons p q ps qs h t ih=>
  obtain⟨h1,_,h2⟩:=h;by_cases e:p.1=k
  ·have e':q.1=k:=h1.symm.trans e;have b:atKey (q::qs) k=some q.2:=(by simp[atKey,PH,e']);rw[iP e,b];exact h2
  ·have e':¬q.1=k:=λz=>e (h1.trans z);have b:atKey (q::qs) k=atKey qs k:=(by simp[atKey,PH,e']);rw[gV e,b];exact ih
theorem KT.repl{H:Hp}{kvs:List (List Key×V)}{xs:List (List Key×Td×S9)}(r:KT H kvs xs)(k:cP){y:V}{u:S9}(ry:RelV y u):
  KT H (kvs.map λkv=>if kv.1=k then(kv.1,y)else kv) (xs.map (putAt k u)):=by
 induction r with
 |nil=>exact .nil
 |@cons p q ps qs h t ih=>
  rw[O9,O9];refine .cons ?_ ih;obtain⟨h1,h2,h3⟩:=h;unfold putAt;by_cases e:p.1=k
  ·rw[if_pos e,if_pos (h1.symm.trans e)];exact⟨h1,h2,ry⟩
  ·rw[if_neg e,if_neg (λz=>e (h1.trans z))];exact⟨h1,h2,h3⟩
theorem KT.put{H:Hp}{kvs:List (List Key×V)}{xs:List (List Key×Td×S9)}(r:KT H kvs xs)(k:cP){b:Td}{y:V}{u:S9}(hb:H b=some (.tup (k.map kV)))(ry:RelV y u):
  KT H (putK kvs k y) (storedH xs k b u):=by
 have e:(kvs.any λkv=>decide (kv.1=k))=(atKey xs k).isSome:=by
  rw[pJ,(r.val k).isSome_eq,PP]
 unfold putK storedH;rw[e];by_cases q:(atKey xs k).isSome=true
 ·rw[if_pos q,if_pos q];exact r.repl k ry
 ·rw[if_neg q,if_neg q];exact Paired.snoc r ⟨rfl,hb,ry⟩
theorem KT.keeps{H H':Hp}{kvs:List (List Key×V)}{xs:List (List Key×Td×S9)}(r:KT H kvs xs)(ht:∀b ys,H b=some (.tup ys)->H' b=some (.tup ys)):KT H' kvs xs:=
 Paired.mapP r λ_ _ z=>⟨z.1,ht _ _ z.2.1,z.2.2⟩
section
variable{P:Ti}{w:Th}{H:Hp}{h:Tl}{a:Td}
theorem Gp{u:HO}(ok:mQ P w H h)(e:Rd H a u):b7 P w H h a u:=e.ok ok
theorem sW{kvs:List (Key×V)}(ok:mQ P w H h)(e:Rd H a (.dK kvs)):kvs.length<=Tn/\(a==sysModules)=false/\∃vs,KV kvs vs/\h.DictOf (bP P w) a vs:=
 show b7 P w H h a (.dK kvs)from Gp ok e
theorem GU{kvs:List (Key×V)}(ok:mQ P w H h)(e:H a=some (.dK kvs)):kvs.length<=Tn/\(a==sysModules)=false/\∃vs,KV kvs vs/\h.DictOf (bP P w) a vs:=sW ok (.inl e)
theorem lL{ks:cP}(ok:mQ P w H h)(e:H a=some (.tup (ks.map kV))):(tupleKind (bP P w)).is h ks a:=by
 obtain⟨_,its,r,o,h1,h2,n,h3⟩:=(show b7 P w H h a (.tup (ks.map kV))from ok a _ e)
 exact⟨o,its.toArray,n,h1,h2,h3,by simpa using su r⟩
theorem qq{kvs:List (List Key×V)}(ok:mQ P w H h)(e:Rd H a (.dT kvs)):kvs.length<=Tn/\(a==sysModules)=false/\
  ∃xs,KT H kvs xs/\h.DictOfH (tupleKind (bP P w)) a xs:=by
 obtain⟨z,y,xs,r,o,es,ep,h1,h2,h3,h4,h5⟩:=(show b7 P w H h a (.dT kvs)from Gp ok e)
 refine⟨z,y,xs,r,o,es,ep,h1,h2,h3,h4,λx hx=>?_,h5⟩;have all:∀{l:List (List Key×V)}{m:List (List Key×Td×S9)},KT H l m->∀x∈m,(tupleKind (bP P w)).is h x.1 x.2.1:=by
  intro l m q
  induction q with
  |nil=>intro x hx;exact nomatch hx
  |@cons p q ps qs hq t ih=>
   intro x hx;rcases List.mem_cons.mp hx with e|hx
   ·subst e;exact lL ok (by rw[<-hq.1];exact hq.2.1)
   ·exact ih x hx
 exact all r x hx
theorem GC{kvs:List (List Key×V)}(ok:mQ P w H h)(e:H a=some (.dT kvs)):kvs.length<=Tn/\(a==sysModules)=false/\
  ∃xs,KT H kvs xs/\h.DictOfH (tupleKind (bP P w)) a xs:=qq ok (.inl e)
end
noncomputable def wg(H:Hp)(a:Td)(y:V)(r:Option V):Prop:=
 (∃kvs k,Rd H a (.dK kvs)/\y=kV k/\r=gz kvs k)\/∃kvs k b,Rd H a (.dT kvs)/\y=.ref b/\H b=some (.tup (k.map kV))/\r=gz kvs k
noncomputable def Ig(H:Hp)(a:Td)(y v:V)(H':Hp):Prop:=
 (∃kvs k,H a=some (.dK kvs)/\y=kV k/\kvs.length<Tn/\H'=upd H a (.dK (putK kvs k v))) \/
 ∃kvs k b,H a=some (.dT kvs)/\y=.ref b/\H b=some (.tup (k.map kV))/\kvs.length<Tn/\H'=upd H a (.dT (putK kvs k v))
theorem wg.t{H:Hp}{a b:Td}{kvs:List (List Key×V)}{k:cP}(e:H a=some (.dT kvs))(eb:H b=some (.tup (k.map kV))):wg H a (.ref b) (gz kvs k):=.inr ⟨kvs,k,b,.inl e,rfl,eb,rfl⟩
theorem Ig.k{H:Hp}{a:Td}{kvs:List (Key×V)}{k:Key}{v:V}(e:H a=some (.dK kvs))(hl:kvs.length<Tn):Ig H a (kV k) v (upd H a (.dK (putK kvs k v))):=.inl ⟨kvs,k,e,rfl,hl,rfl⟩
theorem Ig.t{H:Hp}{a b:Td}{kvs:List (List Key×V)}{k:cP}{v:V}(e:H a=some (.dT kvs))(eb:H b=some (.tup (k.map kV)))(hl:kvs.length<Tn):
  Ig H a (.ref b) v (upd H a (.dT (putK kvs k v))):=.inr ⟨kvs,k,b,e,rfl,eb,hl,rfl⟩
section
variable{X:Cx}{pins:bc}{σ:St}{H:Hp}{s:Tg}{a:Td}{y v:V}{u r:S9}{o:Option V}{A:Ts}{E:bq}
theorem Inv.big(I:Inv X pins σ H s):sysModules<s.heap.objs.size:=by
 have h:Tp<s.heap.objs.size:=(I.mod.glob.keeps I.bk).lt;exact PQ (by decide) h
theorem zL{Q:bq}(hu:A.units+1<T5)(I:Inv X pins σ H s)(g:wg H a y (some v))(ry:RelV y u)(h:∀w' s',Inv X pins σ H s'->RelV v w'->Q w' s'):
  Tu (model X.prog X.w) A (getItem (.ref a) u) Q E s:=by
 rcases g with⟨kvs,k,e,ey,l⟩|⟨kvs,k,b,e,ey,eb,l⟩
 ·subst ey;obtain⟨z,hd,vs,rel,dd⟩:=sW I.hok e;obtain⟨w',hw,rw'⟩:=oU.some_of (v:=v) (o:=valueAt vs k) (by rw[l];exact rel.val k);exact wpAny_getItem_of (vx ry) dd.mapOf hw (h w' _ (I.tok _) rw')
 ·subst ey;cases(show u=Value.ref b from ry);obtain⟨z,hd,xs,rel,dd⟩:=qq I.hok e;obtain⟨w',hw,rw'⟩:=oU.some_of (v:=v) (o:=(atKey xs k).map (·.2)) (by rw[l];exact rel.val k);obtain⟨p,hp,hp2⟩:=Option.map_eq_some_iff.mp hw;refine wpAny_getItem_heap (Us hu) (lL I.hok eb) dd hp ?_;rw[hp2];exact h w' _ (I.tok _) rw'
theorem yP{Q:bq}(hu:A.units+1<T5)(I:Inv X pins σ H s)(g:wg H a y o)(ry:RelV y u)(h:∀s',Inv X pins σ H s'->Q (.bool (!o.isSome)) s'):
  Tu (model X.prog X.w) A (TR .NotIn u (.ref a)) Q E s:=by
 rcases g with⟨kvs,k,e,ey,l⟩|⟨kvs,k,b,e,ey,eb,l⟩
 ·subst ey;obtain⟨z,hd,vs,rel,dd⟩:=sW I.hok e;refine wpAny_notIn_of (vx ry) hd dd.mapOf ?_;rw[<-(rel.val k).isSome_eq,<-l];exact h _ (I.tok _)
 ·subst ey;cases(show u=Value.ref b from ry);obtain⟨z,hd,xs,rel,dd⟩:=qq I.hok e;refine wpAny_notIn_heap (Us hu) (lL I.hok eb) hd dd ?_;have q:=(rel.val k).isSome_eq;rw[PP]at q;rw[<-q,<-l];exact h _ (I.tok _)
theorem li{h':Tl}{t':Nat}{ob:HO}(I:Inv X pins σ H s)(mu:JS (H a))(hs:Sz a s.heap h')(he:∃q,h'.get? a=some q)(new:b7 X.prog X.w (upd H a ob) h' a ob):
  Inv X pins σ (upd H a ob) {s with heap:=h',toks:=t'}:=
 I.write (x:=a) (e:=a) mu (.inl rfl) (λb q hb z=>(hs.2 b hb).trans z) he new
theorem Jk{P:Ti}{w:Th}{H':Hp}{h':Tl}{kvs:List (Key×V)}{vs:List (Key×S9)}(z:kvs.length<=Tn)(hd:(a==sysModules)=false)(rel:KV kvs vs)(dd:h'.DictOf (bP P w) a vs):
  b7 P w H' h' a (.dK kvs):=⟨z,hd,vs,rel,dd⟩
theorem kA{H':Hp}{Q:Unit->cQ}(hu:A.units+1<T5)(I:Inv X pins σ H s)(g:Ig H a y v H')(ry:RelV y u)(rv:RelV v r)(h:∀s',Inv X pins σ H' s'->Q () s'):
  Tu (model X.prog X.w) A (setItem (.ref a) u r) Q E s:=by
 rcases g with⟨kvs,k,e,ey,l,eH⟩|⟨kvs,k,b,e,ey,eb,l,eH⟩
 ·subst ey eH;obtain⟨z,hd,vs,rel,dd⟩:=GU I.hok e;have hz:vs.length<=Tn:=by rw[<-rel.length];exact z
  have hl:(putK kvs k v).length<=Tn:=by have:=ic kvs k v;omega
  refine wpAny_setItem_pairs (hsz:=hz) (vx ry) dd λh' dd' hs=>h _ ?_;have he:∃q,h'.get? a=some q:=let ⟨q,_,_,hq,_⟩:=dd';⟨q,hq⟩
  exact li I (by rw[e];exact True.intro) hs he (Jk hl hd (rel.put k rv) dd')
 ·subst ey eH;cases(show u=Value.ref b from ry);obtain⟨z,hd,xs,rel,dd⟩:=GC I.hok e;have hz:xs.length<=Tn:=by rw[<-Paired.length rel];exact z
  have hl:(putK kvs k v).length<=Tn:=by have:=ic kvs k v;omega
  refine wpAny_setItem_heap (hsz:=hz) (Us hu) (lL I.hok eb) dd λh' dd' hs=>h _ ?_;obtain⟨q,es,ep,hq,h2,h3,h4,_,h5⟩:=dd';refine li I (by rw[e];exact True.intro) hs ⟨q,hq⟩ ⟨hl,hd,_,(rel.put k eb rv).keeps λc ys ec=>?_,q,es,ep,hq,h2,h3,h4,h5⟩;rw[ao (A9 ec e (λz=>nomatch z))];exact ec
end
noncomputable def Jc(i:Te):Prop:=∀ov iv,subscripted i false ov iv=operate [ov,iv] (getItem ov iv)
theorem Fm{prog:Ti}{w:Th}{A:Ts}{E:bq}{s:Tg}{env:Env}{value slice:Te}{pos:Pos}{T id:String}{Q:bq}
  (hl:typeLookup (.type T) "__getitem__"=pure (some (.builtin id))) (hs:Jc slice)
  (h:Tu (model prog w) A (eval value env) (λo s₁=>Tu (model prog w) A (eval slice env) (λi s₂=>s₂.TypeIs o T/\Tu (model prog w) A (getItem o i) Q E s₂) E s₁) E s):
  Tu (model prog w) A (eval (.Subscript value slice pos) env) Q E s:=by
 refine Uo (Tx h (λo s₁ h₁=>Tx h₁ (λi s₂ h₂=>?_) λ_ _ x=>x) λ_ _ x=>x);obtain⟨hT,h₂⟩:=h₂;unfold subscriptTail;refine TH ?_;rw[getitemInPython_of_ne hT.not_modules];refine TH (wpAny_specialOf hT hl ?_);have fin:Tu (model prog w) A (subscripted slice false o i) (λr s₃=>Tu (model prog w) A (letTemporaryGo value o r >>= λ_=>pure r) Q E s₃) E s₂:=by
  rw[hs o i];exact wpAny_operating (Tx h₂ (λr s₃ h₃=>TH (wpAny_letTemporaryGo (TF h₃))) λ_ _ x=>x)
 first
  |exact TF (TH fin)
  |exact TH (TF (TH fin))
  |exact TH fin
theorem vy{X:Cx}{pins:bc}{σ:St}{H:Hp}{s:Tg}{a:Td}{y:V}{o:Option V}(I:Inv X pins σ H s)(g:wg H a y o):s.TypeIs (.ref a) "dict":=by
 rcases g with⟨kvs,k,e,_,_⟩|⟨kvs,k,b,e,_,_,_⟩
 ·obtain⟨_,_,vs,_,dd⟩:=sW I.hok e;exact dd.typeIs
 ·obtain⟨_,_,xs,_,dd⟩:=qq I.hok e;exact dd.typeIs
noncomputable def JP(td ty:TE):TE:=λσ H Q=>td σ H λx H1=>ty σ H1 λy H2=>∃a v,x=.ref a/\wg H2 a y (some v)/\Q v H2
section
variable{X:Cx}{o i e value:Te}{pos pos' tpos:Pos}{td ty tv:TE}
theorem FY(hu:X.A.units+1<T5)(ho:PE X o td)(hi:PE X i ty)(hs:Jc i):PE X (.Subscript o i pos) (JP td ty):=by
 intro pins s σ H Q I h;refine Fm PySem.F.slot_dict_getitem.lookup hs (cM (ho pins s σ H _ I h) λu s1 ⟨x,H1,I1,rx,q1⟩=>cM (hi pins s1 σ H1 _ I1 q1) λiv s2 ⟨y,H2,I2,ry,a,v,ex,g,q2⟩=>?_);subst ex;obtain rfl:u=Value.ref a:=rx;exact⟨vy I2 g,zL hu I2 g ry λw' s3 I3 rw'=>⟨v,H2,I3,rw',q2⟩⟩
end
theorem DA{P:Ti}{w:Th}{H:Hp}(h:Tl)(hb:sysModules<h.objs.size):b7 P w H (h.push {cls:=.type "dict",data:=.dict #[]}) h.objs.size (.dT []):=
 ⟨Ph _,beq_eq_false_iff_ne.mpr (Ne.symm (OO hb)),[],.nil,_,#[],0,SD _ rfl,⟨rfl,rfl,rfl⟩,rfl,rfl,PR⟩
noncomputable def IU:TE:=λ_ H Q=>∀p,H p=none->Q (.ref p) (upd H p (.dT []))
section
variable{X:Cx}{pos:Pos}
theorem CL:PE X (.Dict [] [] pos) IU:=λpins s σ H Q I h=>
 wpAny_Dict_empty ⟨.ref s.heap.objs.size,_,I.laid (a:=s.heap.objs.size) (o:=.dT []) (t':=s.toks) (λ_ _ q=>SA _ q) (O1 _) (DA s.heap I.big),rfl,h _ (I.hok.fresh (O1 _))⟩
end
structure M2(X:Cx)(o:Te)(m:Str)(apos:Pos)(e f:Te)(cpos:Pos):Prop where
 base:Uq o m X.env (eval o X.env)=eval o X.env
 few:((backTo cpos (Tv [e,f] X.env)).all (λx=>!x.1)&&(backToKw cpos (T2 [] X.env)).all (λx=>x.1.isSome)
  && decide (([e,f]:bz).length+([]:List Ur).length+(if([]:List Ur).isEmpty then 0 else 1)<30))=true
 line:(apos.endLine==cpos.line)=true
 trees:backTo cpos (Tv [e,f] X.env)=[(false,eval e X.env),(false,eval f X.env)]
noncomputable def Nt(H:Hp)(a:Td):Prop:=(∃kvs,Rd H a (.dK kvs))\/∃kvs,Rd H a (.dT kvs)
theorem G6{X:Cx}{pins:bc}{σ:St}{H:Hp}{s:Tg}{a:Td}(I:Inv X pins σ H s)(d:Nt H a):
  s.TypeIs (.ref a) "dict"/\(∀b,Value.ref a=.ref b->∃ob,s.heap.get? b=some ob/\ob.dict=none)/\(a==sysModules)=false:=by
 rcases d with⟨kvs,e⟩|⟨kvs,e⟩
 ·obtain⟨_,hd,vs,_,dd⟩:=sW I.hok e;refine⟨dd.typeIs,λb q=>?_,hd⟩;cases q;obtain⟨ob,_,_,h1,h2,_⟩:=dd;exact⟨ob,h1,h2.2.1⟩
 ·obtain⟨_,hd,xs,_,dd⟩:=qq I.hok e;refine⟨dd.typeIs,λb q=>?_,hd⟩;cases q;obtain⟨ob,_,_,h1,h2,_⟩:=dd;exact⟨ob,h1,h2.2.1⟩
section
variable{X:Cx}{pins:bc}{σ:St}{H:Hp}{s:Tg}{a:Td}{y d:V}{u r:S9}{o:Option V}{A:Ts}{E:bq}
theorem Bh{Q:bq}(hu:A.units+1<T5)(I:Inv X pins σ H s)(g:wg H a y o)(ry:RelV y u)(rd:RelV d r)(h:∀w' s',Inv X pins σ H s'->RelV (o.getD d) w'->Q w' s'):
  Tu (model X.prog X.w) A (call (.builtin "dict.get") [.ref a,u,r]) Q E s:=by
 rcases g with⟨kvs,k,e,ey,l⟩|⟨kvs,k,b,e,ey,eb,l⟩
 ·subst ey;obtain⟨z,hd,vs,rel,dd⟩:=sW I.hok e;refine call_meetsIn S6 dd.typeIs S7 (S8 _ _ _) (meets_dict_get_default (bP X.prog X.w) a (vx ry) hd r) ⟨_,dd.mapOf,h _ _ (I.tok _) ?_⟩;rw[l];exact(rel.val k).getD rd
 ·subst ey;cases(show u=Value.ref b from ry);obtain⟨z,hd,xs,rel,dd⟩:=qq I.hok e;refine call_meetsIn S6 dd.typeIs S7 (S8 _ _ _) (meetsH_dict_get_default (tupleKind (bP X.prog X.w)) a b hd r) ⟨Us hu,k,xs,lL I.hok eb,dd,h _ _ (I.tok _) ?_⟩;rw[l];exact(rel.val k).getD rd
end
noncomputable def dq(cells:mO):qu->mO->mO
 |[],acc=>acc
 |(n,k)::r,acc=>if k=.free then(match cells.lookup n with|some c=>dq cells r ((n,c)::acc)|none=>dq cells r acc)else dq cells r acc
theorem kJ{cells:mO}:∀(names:qu)(acc:mO),(∀x c,acc.lookup x=some c->cells.lookup x=some c)->
  ∀x c,(dq cells names acc).lookup x=some c->cells.lookup x=some c
 |[],acc,h=>h
 |(n,k)::r,acc,h=>by
  unfold dq;by_cases hk:k=.free
  ·rw[if_pos hk];cases e:cells.lookup n with
   |none=>exact kJ r acc h
   |some c0=>
    refine kJ r _ λx c q=>?_;rw[PV]at q;cases hx:x==n with
    |true=>
     rw[hx]at q;have e1:x=n:=(by simpa using hx);cases q;rw[e1];exact e
    |false=>rw[hx]at q;exact h x c q
  ·rw[if_neg hk];exact kJ r acc h
theorem jA{cells:mO}:∀(names:qu)(acc:mO)(x:Str),(acc.lookup x).isSome=true->((dq cells names acc).lookup x).isSome=true
 |[],acc,x,h=>h
 |(n,k)::r,acc,x,h=>by
  unfold dq;by_cases hk:k=.free
  ·rw[if_pos hk];cases e:cells.lookup n with
   |none=>exact jA r acc x h
   |some c0=>
    refine jA r _ x ?_;rw[PV];cases hx:x==n with
    |true=>rfl
    |false=>exact h
  ·rw[if_neg hk];exact jA r acc x h
theorem iJ{cells:mO}:∀(names:qu)(acc:mO)(x:Str),(x,NameKind.free)∈names->(∃c,cells.lookup x=some c)->((dq cells names acc).lookup x).isSome=true
 |[],acc,x,h,_=>absurd h (by simp)
 |(n,k)::r,acc,x,h,hc=>by
  unfold dq;rcases List.mem_cons.mp h with e|h
  ·cases e;rw[if_pos rfl];obtain⟨c,e⟩:=hc;rw[e];refine jA r _ _ ?_;rw[PV];simp
  ·by_cases hk:k=.free
   ·rw[if_pos hk];cases e:cells.lookup n with
    |none=>exact iJ r acc x h hc
    |some c0=>exact iJ r _ x h hc
   ·rw[if_neg hk];exact iJ r acc x h hc
theorem ml{scope:Tt}{env:Env}(h:∀p∈scope.names,p.2=.free->∃c,env.cells.lookup p.1=some c):closureFor scope env=pure (dq env.cells scope.names []):=by
 have go:∀(names:qu)(acc:mO),(∀p∈names,p.2=.free->∃c,env.cells.lookup p.1=some c)->
   (forIn names acc λx cs=>(match x with|(name,kind)=>if(kind==NameKind.free)=true then do let a<-cellOf env name;pure (ForInStep.yield ((name,a)::cs))else pure (ForInStep.yield cs):Sem (ForInStep mO)))=pure (dq env.cells names acc):=by
  intro names
  induction names with
  |nil=>intro acc _;rfl
  |cons p r ih=>
   intro acc hp;obtain⟨n,k⟩:=p;rw[PX];by_cases hk:k=.free
   ·obtain⟨c,e⟩:=hp (n,k) OU hk;subst hk;have e2:cellOf env n=pure c:=(by unfold cellOf;rw[e]);simp only[beq_self_eq_true,if_true,e2,pure_bind];rw[ih _ λq hq=>hp q (OV _ hq)]
    conv=>rhs;rw[dq]
    simp[e]
   ·have hb:(k==NameKind.free)=false:=(by simpa using hk);simp only[hb,PY,if_false,pure_bind];rw[ih _ λq hq=>hp q (OV _ hq)]
    conv=>rhs;rw[dq,if_neg hk]
 have:=go scope.names [] h
 unfold closureFor;simp only[];rw[this];rfl
noncomputable def ce(X:Cx)(scope:Tt)(N:ay)(cl:mO)(C:Td)(fp:ax)(s:Tg)(H:Hp)(E:bq):Cx where
 prog:=X.prog
 w:=X.w
 K:=X.K
 mg:=X.mg
 base:=X.base
 A:=X.A
 N:=N
 s₀:=s
 H₀:=H
 env:=compEnvC scope cl C X.env
 outer:=X.stack
 stack:=X.stack
 ex:=fp
 fn:=λ_=>false
 calm:=X.calm
 pn:=[]
 xe:=E
noncomputable def uf(XN N:ay)(names:qu)(ix:gA):Bool:=
 decide (ix.length=N.length)&&(N.zip ix).all λp=>match p.2 with
  |some i=>decide (XN[i]?=some p.1)&&decide (names.lookup p.1=some .free)
  |none=>true
noncomputable def inBlock(ix:gA)(σ:St):St:=ix.map λo=>match o with
 |some i=>(σ[i]?).getD none
 |none=>none
theorem uf.len{XN N:ay}{names:qu}{ix:gA}(h:uf XN N names ix=true):ix.length=N.length:=by
 unfold uf at h;rw[Pz]at h;exact of_decide_eq_true h.1
theorem uf.at_{XN N:ay}{names:qu}{ix:gA}(h:uf XN N names ix=true){j i:Nat}{x:Str}(h1:N[j]?=some x)(h2:ix[j]?=some (some i)):XN[i]?=some x/\names.lookup x=some .free:=by
 unfold uf at h;rw[Pz]at h;have hm:(x,some i)∈N.zip ix:=by
  have e:(N.zip ix)[j]?=some (x,some i):=by rw[List.getElem?_zip_eq_some];exact⟨h1,h2⟩
  exact Pu e
 have q:=List.all_eq_true.mp h.2 _ hm;simp only[Pz]at q;exact⟨of_decide_eq_true q.1,of_decide_eq_true q.2⟩
theorem jT{env:Env}:∀{names:qu}{x:Str}{k:Tc},
  (names.map λ(n,k)=>if(k==NameKind.free&&env.scope.kind==.function&&env.kindOf n==some .cell)then(n,NameKind.cell)else(n,k)).lookup x=some k->
  names.lookup x=some k\/(names.lookup x=some .free/\k=.cell)
 |[],_,_,h=>by simp at h
 |(n,k0)::r,x,k,h=>by
  have ih:=@jT env r x k
  replace h:List.lookup x ((if(k0==NameKind.free&&env.scope.kind==.function&&env.kindOf n==some .cell)=true then(n,NameKind.cell)else(n,k0))::(r.map λ(n,k)=>if(k==NameKind.free&&env.scope.kind==.function&&env.kindOf n==some .cell)then(n,NameKind.cell)else(n,k)))=some k:=h
  by_cases hc:(k0==NameKind.free&&env.scope.kind==.function&&env.kindOf n==some .cell)=true
  ·rw[if_pos hc]at h;have hk0:k0=.free:=by
    simp only[Pz]at hc
    simpa using hc.1.1
   cases hx:x==n with
   |true=>
    simp only[PV,hx]at h;simp only[PV,hx];cases h;exact .inr ⟨by rw[hk0],rfl⟩
   |false=>
    simp only[PV,hx]at h ⊢;exact ih h
  ·rw[if_neg hc]at h;cases hx:x==n with
   |true=>
    simp only[PV,hx]at h ⊢;exact .inl h
   |false=>
    simp only[PV,hx]at h ⊢;exact ih h
noncomputable def Hi(X:Cx)(ifs:bz)(t:TT):Prop:=
 ∀(pins:bc)(s:Tg)(σ:St)(H:Hp)(Q:Bool->Hp->Prop),Inv X pins σ H s->t σ H Q->
  Tu (model X.prog X.w) X.A (forIn ifs true λc r=>if r=true then do let ok<-isTrue c X.env (eval c X.env);pure (ForInStep.yield ok)else pure (ForInStep.yield r)) (TP X pins σ Q) X.xe s
noncomputable def KP:TT:=λ_ H Q=>Q true H
theorem F8{X:Cx}:Hi X [] KP:=λ_ _ _ H _ I h=>wpAny_tests_nil ⟨H,I,h⟩
theorem Ee{X:Cx}{c:Te}{t:TT}(h:PT X c t):Hi X [c] t:=λpins s σ H Q I q=>wpAny_tests_one (h pins s σ H Q I q)
theorem jN{prog:Ti}{w:Th}{A:Ts}{R:Result->cQ}{s:Tg}{elt target iter:Te}{ifs:bz}{scope:Tt}{pos:Pos}{it acc:S9}{env:Env}(I:Nat->cQ)
  (turn:∀ n s,I n s->Tu (model prog w) A (pyNext it) (fun r s₁=>match r with
   |none=>R (.ok .next) s₁
   |some v=>Tu (model prog w) A (letOwnedTupleGo target it v) (λ_ s₁'=>Tu (model prog w) A (assign target env v) (λ_ s₂=>
     Tu (model prog w) A (forIn ifs true λc r=>if r=true then do let ok<-isTrue c env (eval c env);pure (ForInStep.yield ok)else pure (ForInStep.yield r)) (λok s₃=>
      if ok=true then Tu (model prog w) A (eval elt env) (λx s₄=>
       Tu (model prog w) A (call (.builtin "list.append") [acc,x]) (λ_ s₅=>∃m,m<n/\I m s₅) (notedBy (model prog w) A env λe s'=>R (.error e) s') s₄) (notedBy (model prog w) A env λe s'=>R (.error e) s') s₃
      else∃m,m<n/\I m s₃) (notedBy (model prog w) A env λe s'=>R (.error e) s') s₂) (notedBy (model prog w) A env λe s'=>R (.error e) s') s₁') (notedBy (model prog w) A env λe s'=>R (.error e) s') s₁) (notedBy (model prog w) A env λe s'=>R (.error e) s') s)
  (n:Nat) (h:I n s):
  TZ (model prog w) A (.compLoop (.ListComp elt [⟨target,iter,ifs,0⟩] scope pos) 0 it acc env) R s:=by
 refine codeAny_loop rfl I (λn s hI=>?_) n h;show Tu _ A ((compTurn (.ListComp elt [⟨target,iter,ifs,0⟩] scope pos) 0 it acc env).onRaise (λx=>do noteFrame x env;theTreesLotGoes x)) _ _ s;refine wpAny_noted ?_;rw[compTurn_list];refine TH (Ut (TH (Tx (turn n s hI) (λr s₁ h₁=>?_) λ_ _ h'=>h')));cases r with
 |none=>exact TF h₁
 |some v=>
  refine TH (Tx h₁ (λ_ s₁' h₁'=>?_) λ_ _ h'=>h');refine TH (Tx h₁' (λ_ s₂ h₂=>TH (Tx h₂ (λok s₃ h₃=>?_) λ_ _ h'=>h')) λ_ _ h'=>h');cases ok with
  |false=>exact TF ⟨rfl,h₃⟩
  |true=>
   exact TH (TH (Tx h₃ (λx s₄ h₄=>TH (Tx h₄ (λ_ s₅ h₅=>TF (TF ⟨rfl,h₅⟩)) λ_ _ h'=>h')) λ_ _ h'=>h'))
noncomputable def K9(wi:TI)(g:TG)(tc:TT)(te:TE)(ix:gA):TE:=λσ H Q=>
 wi σ H λJ H1=>∀D,H1 D=none->∃W:Nat->Nat->St->Hp->Prop,(∃m,W 0 m (inBlock ix σ) (upd H1 D (.lst [])))/\
  ∀i m σ' H',W i m σ' H'->(J.stop i H'/\Q (.ref D) H') \/
   (J.go i H'/\∀ x H2,J.yld i H' x H2->g x σ' H2 fun σ3 H3=>tc σ3 H3 fun b H4 =>
    if b=true then te σ3 H4 λv H5=>∃acc,H5 D=some (.lst acc)/\acc.length<Tn/\∃m',m'<m/\W (i+1) m' σ3 (upd H5 D (.lst (acc++[v])))
    else∃m',m'<m/\W (i+1) m' σ3 H4)
section
variable{X:Cx}{elt tg iter:Te}{ifs:bz}{scope:Tt}{pos:Pos}{N:ay}{ix:gA}{wi:TI}{g:TG}{tc:TT}{te:TE}
theorem qH{pins:bc}{σ:St}{s2:Tg}{H2:Hp}{it:Td}{fp:ax}{tn:Nat->Tl->Prop}{J:It}{Q:V->Hp->Prop}{E:bq}{RR:S9->Td->Result->cQ}
    (hc:X.calm=true) (hcell:∀y∈scope.names,y.2≠.cell) (hkind:scope.kind=.function)
    (hfr:∀y∈scope.names,y.2=.free->X.env.scope.names.lookup y.1=some .cell\/X.env.scope.names.lookup y.1=some .free)
    (hix:uf X.N N scope.names ix=true)
    (hb:∀cl C fp s H E,PG (ce X scope N cl C fp s H E) tg g/\Hi (ce X scope N cl C fp s H E) ifs tc/\PE (ce X scope N cl C fp s H E) elt te)
    (I2:Inv X pins σ H2 s2) (T:Turn X.prog X.w X.K tg J fp it tn) (st2:tn 0 s2.heap) (f2:∀b∈fp,qV X pins H2 b)
    (q:∀ D,H2 D=none->∃ W:Nat->Nat->St->Hp->Prop,(∃ m,W 0 m (inBlock ix σ) (upd H2 D (.lst []))) /\
      ∀i m σ' H',W i m σ' H'->(J.stop i H'/\Q (.ref D) H') \/
        (J.go i H'/\∀ x H3,J.yld i H' x H3->g x σ' H3 fun σ3 H3=>tc σ3 H3 fun b H4 =>
          if b=true then te σ3 H4 λv H5=>∃acc,H5 D=some (.lst acc)/\acc.length<Tn/\∃m',m'<m/\W (i+1) m' σ3 (upd H5 D (.lst (acc++[v])))
          else∃m',m'<m/\W (i+1) m' σ3 H4))
    (hRR:∀D C H' s' m,H2 D=none->s2.heap.objs.size<=C->H' C=none->s'.heap.Ns C m->(∀h',Sz C s'.heap h'->Inv X pins σ H' {s' with heap:=h'})->Q (.ref D) H'->RR (.ref D) C (.ok .next) s'):
    Tu (model X.prog X.w) X.A (newList []) (λacc s₃=>Tu (model X.prog X.w) X.A (newFunctionEnv scope X.env.globals (dq X.env.cells scope.names []) [] X.env.qual none .none (some X.env)) (λcenv s₄=>
      TZ (model X.prog X.w) X.A (.compStart (.ListComp elt [⟨tg,iter,ifs,0⟩] scope pos) 0 (.ref it) acc {cenv with scope:=relabel scope X.env}) (RR acc cenv.locals) s₄) E s₃) E s2:=by
  refine Ul (wpAny_newFunctionEnv hcell (by intro y hy;simp at hy) (λh₁ hns₁ hsb₁=>?_) hkind);dsimp only at hns₁ hsb₁ ⊢;have I3:Inv X pins σ (upd H2 s2.heap.objs.size (.lst [])) {s2 with heap:=s2.heap.push {cls:=.type "list",dict:=none,data:=.seq ([]:aU).toArray},toks:=s2.toks}:=I2.lnew (its:=[]) (t':=s2.toks) .nil (Ph _);generalize hs3:({s2 with heap:=s2.heap.push {cls:=.type "list",dict:=none,data:=.seq ([]:aU).toArray},toks:=s2.toks}:Tg)=s3 at I3;have eh3:s2.heap.push {cls:=.type "list",dict:=none,data:=.seq ([]:aU).toArray}=s3.heap:=by rw[<-hs3]
  rw[eh3]at hns₁ hsb₁ ⊢;have hC3:s3.heap.objs.size=s2.heap.objs.size+1:=by rw[<-eh3,SE]
  have hD:H2 s2.heap.objs.size=none:=I2.fresh;obtain⟨W,⟨m0,w0⟩,turn⟩:=q s2.heap.objs.size hD;generalize hH3:upd H2 s2.heap.objs.size (.lst [])=H3 at I3 w0;have old:∀b o,s3.heap.get? b=some o->h₁.get? b=some o:=λb o e=>hsb₁.extBut b o (OO (Sx e)) (SA _ e);have fpH3:∀b∈fp,H3 b=none:=λb hb'=>by
    rw[<-hH3,ao]
    ·exact(f2 b hb').1
    · obtain⟨o,e,_⟩:=T.obj _ _ st2 b hb'
      exact OO (Sx e)
  have fpLt:∀b∈fp,b<s3.heap.objs.size:=λb hb'=>by
    obtain⟨o,e,_⟩:=T.obj _ _ st2 b hb';rw[hC3];exact PZ (Sx e)
  have hfree:∀p∈scope.names,p.2=.free->∃c,X.env.cells.lookup p.1=some c:=λp hp hk=>I2.ok.has p.1 (hfr p hp hk);have csub:∀x c,(dq X.env.cells scope.names []).lookup x=some c->X.env.cells.lookup x=some c:=kJ scope.names [] (λx c e=>by simp at e);have names':∀x k,(relabel scope X.env).names.lookup x=some k->scope.names.lookup x=some k\/(scope.names.lookup x=some .free/\k=.cell):=λx k h=>jT h;have ok:(ce X scope N (dq X.env.cells scope.names []) s3.heap.objs.size fp s3 H3 (notedBy (model X.prog X.w) X.A (compEnvC scope (dq X.env.cells scope.names []) s3.heap.objs.size X.env) λe s'=>RR (.ref s2.heap.objs.size) s3.heap.objs.size (.error e) s')).Ok:=
    { mod:=I3.ok.mod
      kind:=hkind
      glob:=I3.ok.glob
      blt:=I3.ok.blt
      above:=O1 _
      inj:=λx y c h1 h2=>I3.ok.inj x y c (csub x c h1) (csub y c h2)
      has:=λx hx=>by
        have fr:scope.names.lookup x=some .free:=by
          rcases hx with hx|hx
          · rcases names' x .cell hx with h|⟨h,_⟩
            ·exact absurd rfl (hcell _ (PySem.mem_of_lookup h))
            ·exact h
          · rcases names' x .free hx with h|⟨_,h⟩
            ·exact h
            ·cases h
        have hm:=PySem.mem_of_lookup fr;exact Option.isSome_iff_exists.mp (iJ scope.names [] x hm (hfree _ hm rfl))
      cab:=λx c h _=>by cases h
      hd:=I3.ok.hd
      frames:=I3.ok.frames
      stk:=.inl rfl
      exf:=λb hb'=>⟨OO (fpLt b hb'),λx c e=>(f2 b hb').2.2.2.2.1 x c (csub x c e)⟩
      bs:=λb o e=>I3.bs b o e
      bsz:=OQ I3.ok.bsz I3.sz
      noex:=λb o e hb'=>by
        obtain⟨_,_,_,h4,_⟩:=f2 b hb';rcases h4 with h4|h4
        ·exact I3.ok.noex b o e h4
        ·exact absurd (OL (Sx (I3.ok.bs b o e).1) h4) (OM _)
      exfs:=λb hb' hs=>by
        obtain⟨_,h2,h3,_⟩:=f2 b hb';rcases List.mem_cons.mp (I3.stkSub b hs)with e|e
        ·exact h2 e
        ·exact h3 e
      funs:=I3.stack
      frf:=λb hb'=>I3.stkFree b hb'}
  generalize hE:(notedBy (model X.prog X.w) X.A (compEnvC scope (dq X.env.cells scope.names []) s3.heap.objs.size X.env) λe s'=>RR (.ref s2.heap.objs.size) s3.heap.objs.size (.error e) s')=E' at ok;obtain⟨hg,htc,hel⟩:=hb (dq X.env.cells scope.names []) s3.heap.objs.size fp s3 H3 E';have Istart:∀tk,Inv (ce X scope N (dq X.env.cells scope.names []) s3.heap.objs.size fp s3 H3 E') [] (inBlock ix σ) H3 {s3 with heap:=h₁,toks:=tk}:=λtk=>by
    refine⟨ok,rfl,I3.bare,Un.kept old,⟨_,hns₁,λj x v e1 e2 _=>?_⟩,λx c e=>?_,I3.fresh,λx c e=>I3.freeC x c (csub x c e),λp hp=>absurd (show p∈([]:bc)from hp) (by simp),I3.hok.kept old,?_⟩
    ·
      unfold inBlock at e2;rw[Pr]at e2;cases q1:ix[j]? with
      |none=>rw[q1]at e2;simp at e2
      |some o=>
        rw[q1]at e2;cases o with
        |none=>simp at e2
        |some i=>
          obtain⟨n1,n2⟩:=uf.at_ hix e1 q1;have e2':(σ[i]?).getD none=some v:=Option.some.inj e2;have e3:σ[i]?=some (some v):=by
            cases q2:σ[i]? with
            |none=>rw[q2]at e2';simp at e2'
            |some o2=>rw[q2]at e2';simpa using e2'
          obtain⟨m,hn,hl⟩:=I3.loc;have hm:=PySem.mem_of_lookup n2;have hk:=hfr _ hm rfl;have hv:HS X.env.scope x:=by
            rcases hk with hk|hk
            ·exact .inr (.inl hk)
            ·exact .inr (.inr hk)
          obtain⟨u,r,l⟩:=hl i x v n1 e3 hv;refine⟨u,r,.inr ?_⟩;rcases l with⟨kl,_⟩|⟨_,c,hcx,hcell'⟩
          · have kl':X.env.scope.names.lookup x=some .local:=kl
            rcases hk with hk|hk
            ·rw[kl']at hk;cases hk
            ·rw[kl']at hk;cases hk
          · obtain⟨c',hc'⟩:=Option.isSome_iff_exists.mp (iJ (cells:=X.env.cells) scope.names [] x hm ⟨c,hcx⟩)
            have ec:c'=c:=Option.some.inj ((csub x c' hc').symm.trans hcx);subst ec;refine⟨?_,c',hc',?_⟩
            ·
              show(relabel scope X.env).names.lookup x=some .cell\/(relabel scope X.env).names.lookup x=some .free;have gen:∀names:qu,names.lookup x=some .free->((names.map λ(n,k)=>if(k==NameKind.free&&X.env.scope.kind==.function&&X.env.kindOf n==some .cell)then(n,NameKind.cell)else(n,k)).lookup x=some .cell\/(names.map λ(n,k)=>if(k==NameKind.free&&X.env.scope.kind==.function&&X.env.kindOf n==some .cell)then(n,NameKind.cell)else(n,k)).lookup x=some .free):=by
                intro names
                induction names with
                |nil=>intro h;simp at h
                |cons p r ih=>
                  obtain⟨n,k⟩:=p;intro h;show List.lookup x ((if(k==NameKind.free&&X.env.scope.kind==.function&&X.env.kindOf n==some .cell)=true then(n,NameKind.cell)else(n,k))::_)=_\/List.lookup x ((if(k==NameKind.free&&X.env.scope.kind==.function&&X.env.kindOf n==some .cell)=true then(n,NameKind.cell)else(n,k))::_)=_;cases hx:x==n with
                  |true=>
                    simp only[PV,hx]at h;by_cases hcc:(k==NameKind.free&&X.env.scope.kind==.function&&X.env.kindOf n==some .cell)=true
                    ·rw[if_pos hcc];left;simp only[PV,hx]
                    ·rw[if_neg hcc];right;simp only[PV,hx];exact h
                  |false=>
                    simp only[PV,hx]at h;by_cases hcc:(k==NameKind.free&&X.env.scope.kind==.function&&X.env.kindOf n==some .cell)=true
                    ·rw[if_pos hcc];simp only[PV,hx];exact ih h
                    ·rw[if_neg hcc];simp only[PV,hx];exact ih h
              exact gen scope.names n2
            ·exact hcell'.keeps old
    · obtain⟨v,z⟩:=I3.cell x c (csub x c e)
      exact⟨v,z.keeps old⟩
    · show(inBlock ix σ).length=N.length
      unfold inBlock;rw[Pa];exact uf.len hix
  have stat:∀{H':Hp},(∀b∈fp,H' b=none)->∀b∈fp,qV (ce X scope N (dq X.env.cells scope.names []) s3.heap.objs.size fp s3 H3 E') [] H' b:=λhn b hb'=>
    ⟨hn b hb',(ok.exf b hb').1,ok.exfs b hb',.inl hb',(ok.exf b hb').2,λp hp=>absurd (show p∈([]:bc)from hp) (by simp)⟩
  have tn1:tn 0 h₁:=T.keep _ _ _ st2 λb hb' o e=>old b o (by rw[<-eh3];exact SA _ e);have loop:∀tk,TZ (model X.prog X.w) X.A (.compLoop (.ListComp elt [⟨tg,iter,ifs,0⟩] scope pos) 0 (.ref it) (.ref s2.heap.objs.size) (compEnvC scope (dq X.env.cells scope.names []) s3.heap.objs.size X.env))
      (RR (.ref s2.heap.objs.size) s3.heap.objs.size) {s3 with heap:=h₁,toks:=tk}:=by
    intro tk;refine jN (λn s'=>∃i σ' H',Inv (ce X scope N (dq X.env.cells scope.names []) s3.heap.objs.size fp s3 H3 E') [] σ' H' s'/\tn i s'.heap/\(∀b∈fp,H' b=none)/\W i n σ' H') ?_ m0 ⟨0,_,_,Istart tk,tn1,fpH3,w0⟩;rintro n s5 ⟨i,σ5,H5,I5,st5,fr5,w5⟩;rw[hE];rcases turn i n σ5 H5 w5 with⟨stop,qn⟩|⟨go,step⟩
    · refine cM (T.done (ce X scope N (dq X.env.cells scope.names []) s3.heap.objs.size fp s3 H3 E') rfl rfl rfl hc i [] s5 σ5 H5 _ I5 (stat fr5) st5 stop) λr s6 ⟨hr,I6⟩=>?_
      subst hr;obtain⟨m6,hn6,_⟩:=I6.loc;refine hRR s2.heap.objs.size s3.heap.objs.size H5 s6 m6 hD (by rw[hC3];exact Pk _) I6.free hn6 (λh' sb=>?_) qn;have ne:∀b o,s3.heap.get? b=some o->b≠s3.heap.objs.size:=λb o e=>OO (Sx e);refine I3.call' (s':={s6 with heap:=h'}) (H':=H5) (ch:=fp) I6.os ⟨λb o e n hb' hx=>?_,λb o e n hb' hx=>?_,λb o e n hx=>?_,λb o e hx=>?_,I6.base.tups,I6.base.frzs,I6.base.tbls⟩ ?_ I6.bare λb hb'=>?_
      ·exact(sb.2 b (ne b o e)).trans (I6.base.keep b o e n hb' hx)
      · obtain⟨sl,e1⟩:=I6.base.slot b o e n hb' hx
        exact⟨sl,(sb.2 b (ne b o e)).trans e1⟩
      ·exact I6.base.free b o e n hx
      · obtain⟨o',e1⟩:=I6.base.there b o e hx
        exact⟨o',(sb.2 b (ne b o e)).trans e1⟩
      · intro b ob e
        have hfreeC:H5 s3.heap.objs.size=none:=I6.free;refine(I6.hok b ob e).stay (λc v hcc q=>(sb.2 c ?_).trans q) (λ_ q=>q) λ_ _ q=>q;rintro rfl;rcases hcc with rfl|hcc
        ·rw[hfreeC]at e;cases e
        ·rw[hfreeC]at hcc;cases hcc
      · obtain⟨_,h2',_,h4',h5',h6'⟩:=f2 b hb'
        exact⟨h4',h2',h5',h6'⟩
    · refine cM (T.item (ce X scope N (dq X.env.cells scope.names []) s3.heap.objs.size fp s3 H3 E') rfl rfl rfl hc i [] s5 σ5 H5 _ I5 (stat fr5) st5 go) λr s6 ⟨u,hr,h6⟩=>?_
      subst hr;refine cM h6 λ_ s7 ⟨x,H7,I7,r7,y7,st7,fr7⟩=>?_;have I7':=I7.pinned (stat fr7) (T.obj _ _ st7);refine cM (hg _ s7 σ5 H7 x u _ I7' r7 (step x H7 y7)) λ_ s8 ⟨σ8,H8,I8,q8⟩=>?_;refine cM (htc _ s8 σ8 H8 _ I8 q8) λb s9 ⟨H9,I9,q9⟩=>?_;have again:∀{σ':St}{H':Hp}{s':Tg}{m':Nat},Inv (ce X scope N (dq X.env.cells scope.names []) s3.heap.objs.size fp s3 H3 E') ([]++qw fp s7.heap) σ' H' s'->m'<n->W (i+1) m' σ' H'->
          ∃m,m<n/\∃i σ' H',Inv (ce X scope N (dq X.env.cells scope.names []) s3.heap.objs.size fp s3 H3 E') [] σ' H' s'/\tn i s'.heap/\(∀b∈fp,H' b=none)/\W i m σ' H':=λ{σ' H' s' m'} I' hm w'=>by
        refine⟨m',hm,i+1,σ',H',I'.unpinned,T.keep _ _ _ st7 λb hb' o e=>(I'.pin (b,o) (O2 _ (O2 _ (jt hb' e)))).1,λb hb'=>?_,w'⟩;obtain⟨o,e,d⟩:=T.obj _ _ st7 b hb';exact(I'.pin (b,o) (O2 _ (O2 _ (jt hb' e)))).2.1
      cases b with
      |false=>
        rw[if_neg O7]at q9 ⊢;obtain⟨m',hm,w9⟩:=q9;exact again I9 hm w9
      |true=>
        rw[if_pos rfl]at q9 ⊢;refine cM (hel _ s9 σ8 H9 _ I9 q9) λy s10 ⟨v,H10,I10,r10,q10⟩=>?_;obtain⟨acc,ha,hz,m',hm,w10⟩:=q10;refine cM (km _ s10 σ8 H10 (.ref s2.heap.objs.size) [v] (.ref s2.heap.objs.size) [y] (λ_ H'=>H'=upd H10 s2.heap.objs.size (.lst (acc++[v]))) I10 rfl (.cons r10 .nil) ⟨_,acc,v,rfl,rfl,ha,hz,rfl⟩) λ_ s11 ⟨_,H11,I11,_,Mz⟩=>?_;subst Mz;exact again I11 hm w10
  subst hs3;exact codeAny_compStart_list (loop _) (T.self _ 0 _ _ _ tn1 (loop _))
theorem GH(hc:X.calm=true)(hcell:∀y∈scope.names,y.2≠.cell)(hkind:scope.kind=.function)(hnames:∀y∈scope.names,y.2=.local->scope.names.lookup y.1=some .local)
  (hfr:∀y∈scope.names,y.2=.free->X.env.scope.names.lookup y.1=some .cell\/X.env.scope.names.lookup y.1=some .free)
  (hix:uf X.N N scope.names ix=true) (hi:PI X tg iter wi)
  (hb:∀cl C fp s H E,PG (ce X scope N cl C fp s H E) tg g/\Hi (ce X scope N cl C fp s H E) ifs tc/\PE (ce X scope N cl C fp s H E) elt te)
  (hs:∀x,TL iter X.env x=pure x:=by intro _;rfl):PE X (.ListComp elt [⟨tg,iter,ifs,0⟩] scope pos) (K9 wi g tc te ix):=by
 intro pins s σ H Q I h;rw[eval_ListComp];refine Uu (use:=none) rfl hs (ml λp hp hk=>I.ok.has p.1 (hfr p hp hk)) hkind hnames (cM (hi pins s σ H _ I h) λv s1 h1=>cM h1 λitv s2 h2=>?_);obtain⟨it,fp,tn,J,H2,e,I2,T,st2,f2,q⟩:=h2;subst e;refine qH (Q:=Q) (RR:=λacc C=>compPost (model X.prog X.w) X.A X.xe none (EP X pins σ Q) acc C) hc hcell hkind hfr hix hb I2 T st2 f2 q ?_;intro D C H' s' m _ _ _ hn hI hq;exact⟨m,hn,λh' sb=>⟨.ref D,H',hI h' sb,rfl,hq⟩⟩
theorem Gu{i:Nat}{y:Str}{py spos:Pos}(hN:X.N.Nodup)(hi':X.N[i]?=some y)(hx:Loc X.env.scope y)
  (hc:X.calm=true) (hcell:∀y∈scope.names,y.2≠.cell) (hkind:scope.kind=.function) (hnames:∀y∈scope.names,y.2=.local->scope.names.lookup y.1=some .local)
  (hfr:∀y∈scope.names,y.2=.free->X.env.scope.names.lookup y.1=some .cell\/X.env.scope.names.lookup y.1=some .free)
  (hix:uf X.N N scope.names ix=true) (hi:PI X tg iter wi)
  (hb:∀cl C fp s H E,PG (ce X scope N cl C fp s H E) tg g/\Hi (ce X scope N cl C fp s H E) ifs tc/\PE (ce X scope N cl C fp s H E) elt te)
  (hsw:swapsWith (.ListComp elt [⟨tg,iter,ifs,0⟩] scope pos) (some (.Name y py)) spos.line X.env=pure true:=by rfl)
  (hs:∀x,TL iter X.env x=pure x:=by intro _;rfl)
  (hf:X.fn y=true\/X.env.scope.names.lookup y=some .local:=by first|exact .inl rfl|exact .inr rfl|assumption):
  PS X (.Assign [.Name y py] (.ListComp elt [⟨tg,iter,ifs,0⟩] scope pos) spos) (Du (K9 wi g tc te ix) (tu i)):=by
 intro pins s σ H D0 I h;rw[exec_Assign_Name_used _ _ _ _ hsw];refine TH (Ut (TH ?_));show Tu _ X.A (do let _<-comprehension (.ListComp elt [⟨tg,iter,ifs,0⟩] scope pos) scope X.env _ (newList []) false (eval iter X.env) (some (assign (.Name y py) X.env))) _ _ s;refine TH (cM (Uu (use:=some (assign (.Name y py) X.env)) (Q:=λ_ s'=>SP X pins D0 .next s') rfl hs (ml λp hp hk=>I.ok.has p.1 (hfr p hp hk)) hkind hnames
  (cM (hi pins s σ H _ I h) λv s1 h1=>cM h1 λitv s2 h2=>?_)) λ_ s' hq=>TF (TF hq))
 obtain⟨it,fp,tn,J,H2,e,I2,T,st2,f2,q⟩:=h2;subst e;refine qH (Q:=λv H'=>tu i v σ H' D0.nx) (RR:=λacc C=>compPost (model X.prog X.w) X.A X.xe (some (assign (.Name y py) X.env)) (λ_ s'=>SP X pins D0 .next s') acc C) hc hcell hkind hfr hix hb I2 T st2 f2 q ?_;intro D C H' s' m _ hC hfree hn hI hq;have I':Inv X pins σ H' s':=hI s'.heap (.refl ..);have nL:C≠X.env.locals:=OZ (OL I2.lt hC);have nC:∀x c,X.env.cells.lookup x=some c->c≠C:=λx c e z=>by
  obtain⟨v,q⟩:=I2.cell x c e;exact absurd (OL q.lt (by rw[z];exact hC)) (OM _)
 have nP:∀p∈X.pn++pins,p.1≠C:=λp hp z=>absurd (OL (Sx (I2.pin p hp).1) (by rw[z];exact hC)) (OM _);show Tu _ X.A (assign (.Name y py) X.env (.ref D)) _ _ _;refine wpAny_assign_Name (tI I' hN hi' hx (v:=.ref D) rfl (λs'' I'' ch=>?_) hf);obtain⟨a,sb,ha⟩:=ch;have hCa:C≠a:=by
  rcases ha with ha|ha
  ·rw[ha];exact nL
  ·exact Ne.symm (nC y a ha)
 refine⟨m,hn.sameBut sb hCa,λh' sb'=>⟨_,H',?_,hq⟩⟩;exact I''.turned (t':=s''.toks) (λb o hb' e=>(sb'.2 b hb').trans e) hfree nL (.inr (OQ I2.sz hC)) nC nP
end
end L2
namespace TG
open PySem PySem.Spec L2
inductive D where
 |non|bl (b:Bool)|int (i:Int)|str (x:Str)|tup (xs:List D)|lst (xs:List D)
 |dct (ks vs:List D)|obj (c:Str) (fs:ay) (vs:List D)|exc (c:Str) (fs:ay) (vs:List D)
noncomputable abbrev aE:=List (List D)
noncomputable abbrev fu:=List (Str×D)
noncomputable abbrev bV:=List (List Key×D)
noncomputable abbrev bF:=Option D
noncomputable def aY:Key->D
 |.inl i=>.int i
 |.inr x=>.str x
noncomputable def clsAt(K:RY)(c:Str)(C:Td):Prop:=Sj K Tp c=some (some (.ref C))
noncomputable def Mi(C a:Td)(dx:Option Td):(Td->Prop)->Tl->Prop:=λ_ h=>∃o,h.get? a=some o/\o.cls=.ref C/\o.dict=dx
mutual
noncomputable def cq(K:RY)(H:Hp):D->V->Prop
 |.non,v=>v=.non
 |.bl b,v=>v=.bl b
 |.int i,v=>v=.int i
 |.str x,v=>v=.str x
 |.tup xs,v=>∃a vs,v=.ref a/\H a=some (.tup vs)/\aI K H xs vs
 |.lst xs,v=>∃a vs,v=.ref a/\lT K H a vs/\aI K H xs vs
 |.dct ks ds,v=>∃a vs,v=.ref a/\aI K H ds vs/\((∃kvs:List (Key×V),H a=some (.dK kvs)/\ks=kvs.map (λp=>aY p.1)/\vs=kvs.map (·.2)) \/
   (∃kvs:List (List Key×V),H a=some (.dT kvs)/\ks=kvs.map (λp=>.tup (p.1.map aY))/\vs=kvs.map (·.2)) \/
   ∃(kvs:List (List Key×V))(o:Obj),H a=some (.frz o (.dT kvs))/\ks=.non::kvs.map (λp=>.tup (p.1.map aY))/\vs=kvs.map (·.2))
 |.obj c fs ds,v=>∃a vs,v=.ref a/\aI K H ds vs/\fs.length=vs.length/\∃C dx,clsAt K c C/\H a=some (.ins C dx (fs.zip vs))
 |.exc c fs ds,v=>∃a vs,v=.ref a/\aI K H ds vs/\fs.length=vs.length/\∃C dx,clsAt K c C/\H a=some (.ext (Mi C a dx))/\(fs=[]\/∃d,dx=some d/\H d=some (.xd (fs.zip vs)))
noncomputable def aI(K:RY)(H:Hp):List D->aK->Prop
 |[],vs=>vs=[]
 |x::xs,vs=>∃v r,vs=v::r/\cq K H x v/\aI K H xs r
end
theorem zS{K:RY}{H H':Hp}{a:Td}{xs:aK}(e:aR H H')(h:nX K H a xs):nX K H' a xs:=by
 rcases h with(h|⟨o,h⟩)|h
 ·exact .inl (.inl (e _ _ h))
 ·exact .inl (.inr ⟨o,e _ _ h⟩)
 ·exact .inr h
theorem bK{K:RY}{H H':Hp}{a:Td}{xs:aK}(e:aR H H')(h:H a=some (.tup xs)):nX K H' a xs:=nX.of (e _ _ h)
mutual
theorem cq.mono{K:RY}{H H':Hp}(e:aR H H'):∀{d:D}{v:V},cq K H d v->cq K H' d v
 |.non,_,h=>by unfold cq at h ⊢;exact h
 |.bl _,_,h=>by unfold cq at h ⊢;exact h
 |.int _,_,h=>by unfold cq at h ⊢;exact h
 |.str _,_,h=>by unfold cq at h ⊢;exact h
 |.tup xs,_,h=>by
  unfold cq at h ⊢;obtain⟨a,vs,e1,h1,h2⟩:=h;exact⟨a,vs,e1,e _ _ h1,aI.mono e h2⟩
 |.lst xs,_,h=>by
  unfold cq at h ⊢;obtain⟨a,vs,e1,h1,h2⟩:=h;exact⟨a,vs,e1,e.seq h1,aI.mono e h2⟩
 |.dct _ ds,_,h=>by
  unfold cq at h ⊢;obtain⟨a,vs,e1,h1,h2⟩:=h;refine⟨a,vs,e1,aI.mono e h1,?_⟩;rcases h2 with⟨kvs,h2,h3⟩|⟨kvs,h2,h3⟩|⟨kvs,o,h2,h3⟩
  ·exact .inl ⟨kvs,e _ _ h2,h3⟩
  ·exact .inr (.inl ⟨kvs,e _ _ h2,h3⟩)
  ·exact .inr (.inr ⟨kvs,o,e _ _ h2,h3⟩)
 |.obj _ _ ds,_,h=>by
  unfold cq at h ⊢;obtain⟨a,vs,e1,h1,h2,C,dx,h3,h4⟩:=h;exact⟨a,vs,e1,aI.mono e h1,h2,C,dx,h3,e _ _ h4⟩
 |.exc _ _ ds,_,h=>by
  unfold cq at h ⊢;obtain⟨a,vs,e1,h1,h2,C,dx,h3,h4,h5⟩:=h;exact⟨a,vs,e1,aI.mono e h1,h2,C,dx,h3,e _ _ h4,h5.imp id λ⟨d,q1,q2⟩=>⟨d,q1,e _ _ q2⟩⟩
theorem aI.mono{K:RY}{H H':Hp}(e:aR H H'):∀{ds:List D}{vs:aK},aI K H ds vs->aI K H' ds vs
 |[],_,h=>by unfold aI at h ⊢;exact h
 |x::xs,_,h=>by
  unfold aI at h ⊢;obtain⟨v,r,e1,h1,h2⟩:=h;exact⟨v,r,e1,cq.mono e h1,aI.mono e h2⟩
end
section
variable{K:RY}{H:Hp}
theorem jp{v:V}:cq K H .non v↔v=.non:=by unfold cq;rfl
theorem js{b:Bool}{v:V}:cq K H (.bl b) v↔v=.bl b:=by unfold cq;rfl
theorem eM{i:Int}{v:V}:cq K H (.int i) v↔v=.int i:=by unfold cq;rfl
theorem eN{x:Str}{v:V}:cq K H (.str x) v↔v=.str x:=by unfold cq;rfl
theorem bW{xs:List D}{v:V}:cq K H (.tup xs) v↔∃a vs,v=.ref a/\H a=some (.tup vs)/\aI K H xs vs:=by unfold cq;rfl
theorem bX{xs:List D}{v:V}:cq K H (.lst xs) v↔∃a vs,v=.ref a/\lT K H a vs/\aI K H xs vs:=by unfold cq;rfl
theorem Ls{ks ds : List D}{v : V}: cq K H (.dct ks ds) v ↔ ∃ a vs, v = .ref a /\ aI K H ds vs /\ ((∃ kvs : List (Key × V), H a = some (.dK kvs) /\ ks = kvs.map (fun p => aY p.1) /\ vs = kvs.map (·.2)) \/
      (∃kvs:List (List Key×V),H a=some (.dT kvs)/\ks=kvs.map (λp=>.tup (p.1.map aY))/\vs=kvs.map (·.2)) \/
      ∃(kvs:List (List Key×V))(o:Obj),H a=some (.frz o (.dT kvs))/\ks=.non::kvs.map (λp=>.tup (p.1.map aY))/\vs=kvs.map (·.2)):=by unfold cq;rfl
theorem Lh{c:Str}{fs:ay}{ds:List D}{v:V}:cq K H (.obj c fs ds) v↔∃a vs,v=.ref a/\aI K H ds vs/\fs.length=vs.length/\∃C dx,clsAt K c C/\H a=some (.ins C dx (fs.zip vs)):=by unfold cq;rfl
theorem cw{vs:aK}:aI K H [] vs↔vs=[]:=by unfold aI;rfl
theorem bb{x:D}{xs:List D}{vs:aK}:aI K H (x::xs) vs↔∃v r,vs=v::r/\cq K H x v/\aI K H xs r:=by conv=>lhs;unfold aI
theorem aI.length:∀{ds:List D}{vs:aK},aI K H ds vs->ds.length=vs.length
 |[],_,h=>by rw[cw]at h;rw[h];rfl
 |_::xs,_,h=>by
  rw[bb]at h;obtain⟨v,r,e,_,h⟩:=h;rw[e,O8,O8,aI.length h]
theorem aI.get:∀{ds:List D}{vs:aK}{i:Nat}{d:D},aI K H ds vs->ds[i]?=some d->∃v,vs[i]?=some v/\cq K H d v
 |[],_,_,_,_,e=>by simp at e
 |x::xs,_,0,d,h,e=>by
  rw[bb]at h;obtain⟨v,r,rfl,h1,_⟩:=h;simp at e;subst e;exact⟨v,rfl,h1⟩
 |x::xs,_,i+1,d,h,e=>by
  rw[bb]at h;obtain⟨v,r,rfl,_,h2⟩:=h;obtain⟨w,e1,e2⟩:=aI.get (i:=i) h2 (by simpa using e);exact⟨w,by simpa using e1,e2⟩
theorem aI.append:∀{ds es:List D}{vs ws:aK},aI K H ds vs->aI K H es ws->aI K H (ds++es) (vs++ws)
 |[],_,_,_,h,h'=>by rw[cw]at h;subst h;exact h'
 |x::xs,_,_,_,h,h'=>by
  rw[bb]at h;obtain⟨v,r,rfl,h1,h2⟩:=h;rw[P0,bb];exact⟨v,_,rfl,h1,aI.append h2 h'⟩
theorem aI.take:∀{ds:List D}{vs:aK}(n:Nat),aI K H ds vs->aI K H (ds.take n) (vs.take n)
 |_,_,0,_=>by rw[P4,P4,cw]
 |[],_,_+1,h=>by rw[cw]at h;subst h;rw[P5,P5,cw]
 |x::xs,_,n+1,h=>by
  rw[bb]at h;obtain⟨v,r,rfl,h1,h2⟩:=h;rw[P6,P6,bb];exact⟨v,_,rfl,h1,aI.take n h2⟩
theorem aI.drop:∀{ds:List D}{vs:aK}(n:Nat),aI K H ds vs->aI K H (ds.drop n) (vs.drop n)
 |_,_,0,h=>by rw[P7,P7];exact h
 |[],_,_+1,h=>by rw[cw]at h;subst h;rw[P8,P8,cw]
 |x::xs,_,n+1,h=>by
  rw[bb]at h;obtain⟨v,r,rfl,h1,h2⟩:=h;rw[P9,P9];exact aI.drop n h2
theorem aI.snoc{ds:List D}{vs:aK}{d:D}{v:V}(h:aI K H ds vs)(h':cq K H d v):aI K H (ds++[d]) (vs++[v]):=
 h.append (bb.mpr ⟨v,[],rfl,h',cw.mpr rfl⟩)
theorem aI.one{d:D}{vs:aK}(h:aI K H [d] vs):∃v,vs=[v]/\cq K H d v:=by
 rw[bb]at h;obtain⟨v,r,rfl,h1,h2⟩:=h;rw[cw]at h2;subst h2;exact⟨v,rfl,h1⟩
theorem aI.two{d e:D}{vs:aK}(h:aI K H [d,e] vs):∃v w,vs=[v,w]/\cq K H d v/\cq K H e w:=by
 rw[bb]at h;obtain⟨v,r,rfl,h1,h2⟩:=h;obtain⟨w,rfl,h3⟩:=h2.one;exact⟨v,w,rfl,h1,h3⟩
theorem tq:∀ns:List Int,aI K H (ns.map D.int) (ns.map V.int)
 |[]=>cw.mpr rfl
 |n::ns=>bb.mpr ⟨_,_,rfl,eM.mpr rfl,tq ns⟩
end
noncomputable def hid(H:Hp)(O:ax):Hp:=λb=>if b∈O then none else H b
theorem aq(H:Hp)(O:ax):aR (hid H O) H:=λb o h=>by
 unfold hid at h;split at h
 ·cases h
 ·exact h
theorem bi{H H':Hp}{O:ax}(e:aR H H'):aR (hid H O) (hid H' O):=λb o h=>by
 unfold hid at h ⊢;by_cases hb:b∈O
 ·rw[if_pos hb]at h;cases h
 ·rw[if_neg hb]at h ⊢;exact e b o h
theorem fg{H:Hp}{O O':ax}(s:∀a∈O,a∈O'):aR (hid H O') (hid H O):=λb o h=>by
 unfold hid at h ⊢;by_cases hb:b∈O'
 ·rw[if_pos hb]at h;cases h
 ·rw[if_neg hb]at h;rw[if_neg λz=>hb (s b z)];exact h
theorem Eh(H:Hp):hid H []=H:=by funext b;unfold hid;simp
theorem tX{H:Hp}{O:ax}{p:Td}{o:HO}(h:H p=none):aR (hid H O) (hid (upd H p o) O):=λb u q=>by
 unfold hid at q ⊢;by_cases hb:b∈O
 ·rw[if_pos hb]at q;cases q
 ·rw[if_neg hb]at q ⊢;rw[ao (aD q h)];exact q
theorem bj{H:Hp}{p:Td}(h:H p=none)(o:HO):aR H (upd H p o):=λb u q=>by rw[ao (aD q h)];exact q
theorem gh{H:Hp}{O:ax}{p:Td}(h:p∉O):hid H O p=H p:=by unfold hid;rw[if_neg h]
theorem eL{H:Hp}{O:ax}{p:Td}{o:HO}(h:p∈O):aR (hid H O) (hid (upd H p o) O):=λb u q=>by
 unfold hid at q ⊢;by_cases hb:b∈O
 ·rw[if_pos hb]at q;cases q
 ·rw[if_neg hb]at q ⊢;rw[ao (λz=>hb (by rw[z];exact h))];exact q
inductive S where
 |val (d:D)|own (d:D)|nest (d:D)
noncomputable abbrev aj:=List (Option S)
noncomputable def oV:HO->Prop
 |.lst _=>True
 |.dK _=>True
 |.dT _=>True
 |_=>False
class aA where
 tab:Hp->Prop
 same:∀{H H':Hp},tab H->aR H H'->tab H'
 own:∀{H:Hp}{p:Td}{o o':HO},tab H->H p=some o->oV o->tab (upd H p o')
variable[aA]
noncomputable def dL(H:Hp)(O:ax):Prop:=aA.tab H/\∀a∈O,∃o,H a=some o/\oV o
theorem dL.not{H:Hp}{O:ax}(h:dL H O){p:Td}(n:H p=none):p∉O:=λz=>by
 obtain⟨vs,e,_⟩:=h.2 p z;rw[n]at e;cases e
theorem dL.same{H H':Hp}{O:ax}(h:dL H O)(e:aR H H'):dL H' O:=⟨aA.same h.1 e,λa ha=>let ⟨vs,q,m⟩:=h.2 a ha;⟨vs,e _ _ q,m⟩⟩
theorem dL.upd{H:Hp}{O:ax}{p:Td}{o:HO}(h:dL H O)(hp:p∈O)(m:oV o):dL (L2.upd H p o) O:=⟨let ⟨_,q,r⟩:=h.2 p hp;aA.own h.1 q r,λa ha=>by
 by_cases z:a=p
 ·rw[z];exact⟨o,av,m⟩
 ·obtain⟨u,q,r⟩:=h.2 a ha;exact⟨u,by rw[ao z];exact q,r⟩⟩
theorem dL.cons{H:Hp}{O:ax}{p:Td}{o:HO}(h:dL H O)(hp:H p=some o)(m:oV o):dL H (p::O):=⟨h.1,λa ha=>by
 rcases List.mem_cons.mp ha with z|z
 ·rw[z];exact⟨o,hp,m⟩
 ·exact h.2 a z⟩
noncomputable def cx(K:RY)(H:Hp)(O:ax)(a:Td)(d:D):Prop:=∃o vs,H a=some o/\match d with
 |.lst xs=>o=.lst vs/\aI K (hid H O) xs vs
 |.dct ks ds=>aI K (hid H O) ds vs/\((∃kvs:List (Key×V),o=.dK kvs/\ks=kvs.map (λp=>aY p.1)/\vs=kvs.map (·.2)) \/
   ∃kvs:List (List Key×V),o=.dT kvs/\ks=kvs.map (λp=>.tup (p.1.map aY))/\vs=kvs.map (·.2))
 |_=>False
theorem cx.mono{K:RY}{H H':Hp}{O O':ax}{a:Td}{d:D}(h:cx K H O a d)(e:H a=H' a)(s:aR (hid H O) (hid H' O')):cx K H' O' a d:=by
 obtain⟨o,vs,h1,h2⟩:=h;refine⟨o,vs,by rw[<-e];exact h1,?_⟩;cases d with
 |lst xs=>exact⟨h2.1,h2.2.mono s⟩
 |dct ks ds=>exact⟨h2.1.mono s,h2.2⟩
 |_=>exact h2
theorem cx.some{K:RY}{H:Hp}{O:ax}{a:Td}{d:D}(h:cx K H O a d):∃o,H a=some o:=let ⟨o,_,e,_⟩:=h;⟨o,e⟩
theorem cx.den{K:RY}{H:Hp}{O O':ax}{a:Td}{d:D}(h:cx K H O a d)(s:aR (hid H O) (hid H O'))(ha:a∉O'):cq K (hid H O') d (.ref a):=by
 obtain⟨o,vs,h1,h2⟩:=h;have h1':hid H O' a=Option.some o:=by rw[gh ha];exact h1
 cases d with
 |lst xs=>
  obtain⟨e,g⟩:=h2;subst e;exact bX.mpr ⟨a,vs,rfl,lT.of h1',g.mono s⟩
 |dct ks ds=>
  obtain⟨g,q⟩:=h2;refine Ls.mpr ⟨a,vs,rfl,g.mono s,?_⟩;rcases q with⟨kvs,e,q⟩|⟨kvs,e,q⟩
  ·subst e;exact .inl ⟨kvs,h1',q⟩
  ·subst e;exact .inr (.inl ⟨kvs,h1',q⟩)
 |_=>exact h2.elim
structure dB(K:RY)(O:ax)(H:Hp)(ρ:aj)(σ:St):Prop where
 val:∀(i:Nat) d,ρ[i]?=some (some (.val d))->∃v,σ[i]?=some (some v)/\cq K (hid H O) d v
 own:∀(i:Nat) d,ρ[i]?=some (some (.own d))->∃a,σ[i]?=some (some (.ref a))/\a∈O/\cx K H O a d
 one:∀(i j:Nat) xs ys a,ρ[i]?=some (some (.own xs))->ρ[j]?=some (some (.own ys))->σ[i]?=some (some (.ref a))->σ[j]?=some (some (.ref a))->i=j
 all:dL H O
theorem o5{H H':Hp}(e:aR H H'){a:Td}{o:HO}(h:H a=some o):H a=H' a:=by rw[h,e _ _ h]
theorem dB.same{K:RY}{O:ax}{H H':Hp}{ρ:aj}{σ:St}(h:dB K O H ρ σ)(e:aR H H'):dB K O H' ρ σ:=
  ⟨fun i d q=>let ⟨v,a,b⟩:=h.val i d q; ⟨v,a,b.mono (bi e)⟩,
   λi xs q=>let ⟨a,q1,q2,q3⟩:=h.own i xs q;⟨a,q1,q2,q3.mono (let ⟨_,z⟩:=q3.some;o5 e z) (bi e)⟩,h.one,h.all.same e⟩
structure Ex where
 c:Str
 fs:ay
 vs:List D
noncomputable abbrev R(α:Type):=Except (Option Ex) α
noncomputable abbrev bC:=aj->R (List D)
noncomputable abbrev bS:=aj->R Bool
noncomputable abbrev cT:=List D->R D
noncomputable abbrev un{α:Type}:R α:=.error none
noncomputable def rO{α:Type}:Option α->R α
 |some a=>.ok a
 |none=>.error none
noncomputable def J4(K:RY)(Hd:Hp)(x:Ex)(C:Td)(dx:Option Td):Prop:=clsAt K x.c C/\∃ws,aI K Hd x.vs ws/\x.fs.length=ws.length/\(x.fs=[]\/∃d,dx=some d/\Hd d=some (.xd (x.fs.zip ws)))
theorem J4.mono{K:RY}{H H':Hp}{x:Ex}{C:Td}{dx:Option Td}(h:J4 K H x C dx)(e:aR H H'):J4 K H' x C dx:=by
 obtain⟨h1,ws,h2,h3,h4⟩:=h;exact⟨h1,ws,h2.mono e,h3,h4.imp id λ⟨d,q1,q2⟩=>⟨d,q1,e _ _ q2⟩⟩
end TG
namespace TG
open PySem PySem.Spec L2
variable[aA]
open PyProof.Rows (AllBare)
theorem Hf{P:Ti}{w:Th}{H:Hp}{h:Tl}{a:Td}{o:HO}(x:b7 P w H h a o):∃u,h.get? a=some u:=by
 cases o with
 |lst xs=>obtain⟨_,_,_,_,e⟩:=x;exact⟨_,e⟩
 |tup xs=>obtain⟨_,_,_,o,e,_⟩:=x;exact⟨_,e⟩
 |dK kvs=>obtain⟨_,_,_,_,o,_,_,e,_⟩:=x;exact⟨_,e⟩
 |dT kvs=>obtain⟨_,_,_,_,o,_,_,e,_⟩:=x;exact⟨_,e⟩
 |set S n=>obtain⟨o,_,_,_,e,_⟩:=x;exact⟨_,e⟩
 |ins C dx fs=>obtain⟨_,_,_,e,_⟩:=x;exact⟨_,e⟩
 |own y=>exact x
 |xd fs=>obtain⟨_,⟨_,_,_,e,_⟩,_⟩:=x;exact⟨_,e⟩
 |rng lo hi=>obtain⟨_,_,_,e⟩:=x;exact⟨_,e⟩
 |frz ob u=>obtain⟨e,_⟩:=x;exact⟨_,e⟩
 |tbl ps=>exact⟨_,(show h.get? a=some _ from x)⟩
 |met f y=>exact⟨_,(show h.get? a=some _ from x)⟩
 |ext φ=>obtain⟨_,e,_⟩:=x;exact e
noncomputable def pU(X:Cx)(H:Hp)(b:Td):Prop:=((∃o,X.s₀.heap.get? b=some o)/\b∉X.ex)\/H b≠none\/(∃o,(b,o)∈X.pn)\/∃x,X.env.cells.lookup x=some b
noncomputable def OI(B:Tl)(e:Td)(cls a0:S9)(h:Tl):Prop:=h.TracedW B e cls a0\/∃oe vs,h.get? e=some oe/\oe.cls=cls/\oe.data=.fields vs/\vs[1]?=some .none/\vs[0]?=some a0
noncomputable def JT(X:Cx)(H:Hp)(s:Tg)(e C:Td):Prop:=∃B a0,B.StaysIn s.heap/\B.get? e=none/\s.heap.FunFrames B X.stack/\OI B e (.ref C) a0 s.heap/\∀b o,s.heap.get? b=some o->pU X H b->b∉frs X.stack->B.get? b=some o
noncomputable def Ol(X:Cx)(H:Hp)(O:ax)(s:Tg)(u:S9)(x:Ex):Prop:=∃e C dx,u=.ref e/\J4 X.K (hid H O) x C dx/\JT X H s e C
noncomputable def j4(P:Ti)(w:Th):xQ:=λouter H s E u s'=>∃e C dx H' B a0,u=.ref e/\s'.os=s.os/\AllBare s'.gens/\Un (frs outer) [] H H' s.heap s'.heap/\mQ P w H' s'.heap/\Heap.FlyingW B outer e (.ref C) a0 s'.heap/\
 (∀b o,s'.heap.get? b=some o->((∃o',s.heap.get? b=some o')\/H' b≠none)->b∉frs outer->B.get? b=some o)/\E (.ref C) dx H'
noncomputable def MB(K:RY)(H:Hp)(O:ax)(x:Ex)(E:XK):Prop:=∀C dx H',aR H H'->J4 K (hid H' O) x C dx->E (.ref C) dx H'
noncomputable def Jw(X:Cx)(σ:St)(O:ax)(H:Hp)(x:Ex):Prop:=∀pins s u H',Inv X pins σ H' s->aR H H'->Ol X H' O s u x->X.xe u s
theorem Jw.mono{X:Cx}{σ:St}{O:ax}{H H':Hp}{x:Ex}(h:Jw X σ O H x)(s:aR H H'):Jw X σ O H' x:=λpins st u H2 I s2 f=>h pins st u H2 I (s.trans s2) f
noncomputable def yw(X:Cx)(O:ax)(H:Hp)(x:Ex):XK:=λu dx H'=>∃C,u=.ref C/\aR H H'/\J4 X.K (hid H' O) x C dx
noncomputable def jX(CX:xQ)(X:Cx)(σ:St)(E:XK):Prop:=∀(pins:bc)(H:Hp)(s:Tg)(e:S9)(s':Tg),Inv X pins σ H s->CX X.stack H s E e s'->X.xe e s'
theorem yd{X:Cx}{σ:St}{O:ax}{H:Hp}{x:Ex}(h:Jw X σ O H x):jX (j4 X.prog X.w) X σ (yw X O H x):=by
 rintro pins H1 s u s' I ⟨e,C,dx,H',B,a0,rfl,os,bare,un,hok,⟨f1,f2,f3,f4⟩,kp,C',eC,sm,hd⟩;cases eC;have I':Inv X pins σ H' s':=I.call' os un hok bare (ch:=[]) λb z=>absurd z (by simp);refine h pins s' _ H' I' sm ⟨e,C,dx,rfl,hd,B,a0,f1,f2,f3,.inl f4,λb o eb hb nf=>kp b o eb ?_ nf⟩;rcases hb with⟨⟨o',hb⟩,nx⟩|hb|⟨o',hb⟩|⟨y,hb⟩
 ·exact .inl (I.base.there b o' hb nx)
 ·exact .inr hb
 ·exact .inl ⟨_,(I.pin _ (OW _ hb)).1⟩
 ·obtain⟨v,o,q,_⟩:=I.cell y b hb;exact .inl ⟨o,q⟩
theorem yG{X:Cx}{σ:St}:jX (j4 X.prog X.w) X σ E0:=λ_ _ _ _ _ _ h=>by
 obtain⟨_,_,_,_,_,_,_,_,_,_,_,_,_,z⟩:=h;exact z.elim
theorem uO{X:Cx}{O:ax}{H:Hp}{x:Ex}:MB X.K H O x (yw X O H x):=λC dx H' s e=>⟨C,rfl,s,e⟩
section
variable{X:Cx}{pins:bc}{σ:St}{H:Hp}{s:Tg}{h':Tl}
theorem Fd(I:Inv X pins σ H s)(k:∀b o,s.heap.get? b=some o->pU X H b->b∉frs X.stack->h'.get? b=some o):mQ X.prog X.w H h':=λa ob ea=>
 (I.hok a ob ea).stay (λb u hb q=>by
  have hn:H b≠none:=by
   rcases hb with e|e
   ·rw[e,ea];intro z;cases z
   ·rw[e];intro z;cases z
  exact k b u q (.inr (.inl hn)) λhf=>hn (I.stkFree b hf)) (λ_ q=>q) λ_ _ q=>q
theorem si(I:Inv X pins σ H s)(us:s.heap.UpToSlots h'){b:Td}{o:Obj}(hb:b∈frs X.stack)(e:s.heap.get? b=some o):∃sl,h'.get? b=some {o with slots:=sl}:=by
 obtain⟨_,o',e',nf⟩:=I.stack.mem hb;rw[e]at e';cases e';exact us b o e nf
theorem Ih(I:Inv X pins σ H s)(hx:X.ex=[])(hst:X.stack=X.env::X.outer)(hf:X.env.frame=some X.env.locals)(us:s.heap.UpToSlots h')(k:∀b o,s.heap.get? b=some o->pU X H b->b∉frs X.stack->h'.get? b=some o):
  Un (frs X.outer) [] X.H₀ H X.s₀.heap h':=by
 have U:=I.base;rw[hx]at U;have fr:frs X.stack=X.env.locals::frs X.outer:=by rw[hst];show List.filterMap _ (_::_)=_;rw[OT,hf];rfl
 have nl:∀b o,X.s₀.heap.get? b=some o->b≠X.env.locals:=λb o q z=>by
  have h1:=Sx q;have h2:=I.ok.above;rw[z]at h1;exact OM _ (OL h1 h2)
 have nfr:∀b o,X.s₀.heap.get? b=some o->b∉frs X.outer->b∉frs X.stack:=λb o q nb z=>by
  rw[fr]at z;rcases List.mem_cons.mp z with z|z
  ·exact nl b o q z
  ·exact nb z
 refine⟨λb o q n nb _=>k b o (U.keep b o q n nb (by simp)) (.inl ⟨⟨o,q⟩,by rw[hx];simp⟩) (nfr b o q nb),λb o q n hb _=>?_,λb o q n _=>U.free b o q n (by simp),λb o q _=>?_,U.tups,U.frzs,U.tbls⟩
 ·obtain⟨sl,e⟩:=U.slot b o q n hb (by simp);obtain⟨sl',e'⟩:=si I us (by rw[fr];exact OV _ hb) e;exact⟨sl',e'⟩
 ·obtain⟨o1,e1⟩:=U.there b o q (by simp);by_cases hb:b∈frs X.stack
  ·obtain⟨sl,e⟩:=si I us hb e1;exact⟨_,e⟩
  ·exact⟨o1,k b o1 e1 (.inl ⟨⟨o,q⟩,by rw[hx];simp⟩) hb⟩
end
theorem C6{P:Ti}{w:Th}{K:RY}{mg:cj}{base:Tl}{N:ay}{qual:Str}{scope:Tt}{f:Td}{cd:S9}{A:Ts}{outer:List Env}{s:Tg}{H:Hp}{E:XK}{σ:St}{O O':ax}{H':Hp}{x:Ex}
  (hx:MB K H O x E) (sm:aR H H') (hs:∀a∈O,a∈O'):Jw (g9 (j4 P w) P w K mg base N qual scope f cd A outer s H E) σ O' H' x:=by
 rintro pins s1 u H1 I s2 ⟨e,C,dx,rfl,hd,B,a0,b1,b2,b3,b4,b5⟩;have fin:∀h',Heap.FlyingW B outer e (.ref C) a0 h'->s1.heap.UpToSlots h'->j4 P w outer H s E (.ref e) {s1 with heap:=h'}:=λh' fl us=>by
  have k:∀b o,s1.heap.get? b=some o->pU (g9 (j4 P w) P w K mg base N qual scope f cd A outer s H E) H1 b->b∉frs (g9 (j4 P w) P w K mg base N qual scope f cd A outer s H E).stack->h'.get? b=some o:=λb o q kb nf=>fl.1 b o (b5 b o q kb nf);have un:=Ih I rfl rfl rfl us k;have hok:=Fd I k;refine⟨e,C,dx,H1,B,a0,rfl,I.os,I.bare,un,hok,fl,λb o q hb nf=>?_,hx C dx H1 (sm.trans s2) (hd.mono (fg hs))⟩;have nf2:b∉frs (g9 (j4 P w) P w K mg base N qual scope f cd A outer s H E).stack:=λz=>by
   rcases List.mem_cons.mp (show b∈s.heap.objs.size::frs outer from z)with z|z
   ·rcases hb with hb|hb
    ·obtain⟨o',hb⟩:=hb
     have:=Sx hb
     rw[z]at this;exact OM _ this
    ·rw[z]at hb;exact hb I.free
   ·exact nf z
  have kb:pU (g9 (j4 P w) P w K mg base N qual scope f cd A outer s H E) H1 b:=hb.elim (λz=>.inl ⟨z,λy=>nomatch y⟩) λz=>.inr (.inl z);obtain⟨o1,e1⟩:∃o1,s1.heap.get? b=some o1:=by
   rcases hb with⟨o',hb⟩|hb
   ·exact I.base.there b o' hb (λz=>nomatch z)
   ·cases q0:H1 b with
    |none=>exact absurd q0 hb
    |some ob=>exact Hf (I.hok b ob q0)
  have:=k b o1 e1 kb nf2
  rw[q]at this;cases this;exact b5 b _ e1 kb nf2
 show Tu _ _ (leaving (SN qual scope s.heap.objs.size f cd) (.ref e)) _ _ s1;rcases b4 with b4|⟨oe,vs,c1,c2,c3,c4,c5⟩
 ·exact wpAny_leaves_onW I.ok.frames rfl ⟨b1,b2,b3,b4⟩ fin
 ·refine wpAny_leaving_firstW I.ok.frames b3 rfl c1 b1 b2 c3 c4 c5 λh' hL=>?_;obtain⟨k1,⟨_,_,k2⟩,k3,k4⟩:=hL;exact fin h' ⟨k1,b2,k2,c2 ▸ k3⟩ k4
end TG
namespace TG
open PySem PySem.Spec L2
variable[aA]
noncomputable def gE(X:Cx)(σ:St)(O:ax)(H:Hp){α:Type}(r:R α)(Q:α->Prop):Prop:=match r with
 |.ok a=>Q a
 |.error (some x)=>Jw X σ O H x
 |.error none=>False
section
variable{X:Cx}{σ:St}{O:ax}{H H':Hp}{α β:Type}
theorem gE.bind{r:R α}{G:α->R β}{Q:β->Prop}(h:gE X σ O H (r.bind G) Q):gE X σ O H r λa=>gE X σ O H (G a) Q:=by
 match r,h with
 |.ok a,h=>exact h
 |.error (some x),h=>exact h
 |.error none,h=>exact h
theorem gE.imp{r:R α}{Q Q':α->Prop}(h:gE X σ O H r Q)(f:∀a,Q a->Q' a):gE X σ O H r Q':=by
 match r,h with
 |.ok a,h=>exact f a h
 |.error (some x),h=>exact h
 |.error none,h=>exact h
theorem gE.mono{r:R α}{Q:α->Prop}(h:gE X σ O H r Q)(s:aR H H'):gE X σ O H' r Q:=by
 match r,h with
 |.ok a,h=>exact h
 |.error (some x),h=>exact Jw.mono h s
 |.error none,h=>exact h
theorem gE.rO{o:Option α}{Q:α->Prop}(h:gE X σ O H (rO o) Q):∃a,o=some a/\Q a:=by
 match o,h with
 |some a,h=>exact⟨a,rfl,h⟩
 |none,h=>exact h.elim
end
noncomputable abbrev FX:=aj->R D
noncomputable def tF(X:Cx)(F:FX):TE:=λσ H Q=>∃O ρ,dB X.K O H ρ σ/\gE X σ O H (F ρ) λd=>∀v H',aR H H'->cq X.K (hid H' O) d v->Q v H'
noncomputable def K8(X:Cx)(F:bS):TT:=λσ H Q=>∃O ρ,dB X.K O H ρ σ/\gE X σ O H (F ρ) λb=>∀H',aR H H'->Q b H'
noncomputable def Lq(X:Cx)(F:bC):TA:=λσ H Q=>∃O ρ,dB X.K O H ρ σ/\gE X σ O H (F ρ) λds=>∀vs H',aR H H'->aI X.K (hid H' O) ds vs->Q vs H'
noncomputable def FE(X:Cx)(e:Te)(F:FX):Prop:=PE X e (tF X F)
noncomputable def FT(X:Cx)(e:Te)(F:bS):Prop:=PT X e (K8 X F)
noncomputable def FW(X:Cx)(e:Te)(F:bS):Prop:=PW X e (K8 X F)
noncomputable def FA(X:Cx)(es:bz)(F:bC):Prop:=PA X es (Lq X F)
theorem PE.weak{X:Cx}{e:Te}{t t':TE}(h:PE X e t)(w:∀σ H Q,t' σ H Q->t σ H Q):PE X e t':=λpins s σ H Q I q=>h pins s σ H Q I (w σ H Q q)
theorem PT.weak{X:Cx}{e:Te}{t t':TT}(h:PT X e t)(w:∀σ H Q,t' σ H Q->t σ H Q):PT X e t':=λpins s σ H Q I q=>h pins s σ H Q I (w σ H Q q)
theorem PW.weak{X:Cx}{e:Te}{t t':TT}(h:PW X e t)(w:∀σ H Q,t' σ H Q->t σ H Q):PW X e t':=λwhole pins s σ H Q I q=>h whole pins s σ H Q I (w σ H Q q)
theorem PA.weak{X:Cx}{es:bz}{t t':TA}(h:PA X es t)(w:∀σ H Q,t' σ H Q->t σ H Q):PA X es t':=λpos pins s σ H Q I q=>h pos pins s σ H Q I (w σ H Q q)
theorem PS.weak{X:Cx}{st:Tf}{t t':TS}(h:PS X st t)(w:∀D σ H,t' D σ H->t D σ H):PS X st t':=λpins s σ H Q I q=>h pins s σ H Q I (w Q σ H q)
theorem vA.weak{X:Cx}{st:eE}{t t':TS}(h:vA X st t)(w:∀D σ H,t' D σ H->t D σ H):vA X st t':=λpins s σ H Q I q=>h pins s σ H Q I (w Q σ H q)
noncomputable def qO(ρ:aj)(i:Nat):R D:=match ρ[i]? with
 |some (some (.val d))=>.ok d
 |_=>un
theorem Fs{ρ:aj}{i:Nat}{d:D}(h:qO ρ i=.ok d):ρ[i]?=some (some (.val d)):=by
 unfold qO at h;split at h
 ·rename_i e;cases h;exact e
 ·cases h
noncomputable def ae(i:Nat):FX:=λρ=>qO ρ i
noncomputable def fC(d:D):FX:=λ_=>.ok d
section
variable{X:Cx}
theorem rF{σ:St}{O:ax}{H:Hp}{ρ:aj}{i:Nat}{Q:D->Prop}(h:gE X σ O H (qO ρ i) Q):∃d,ρ[i]?=some (some (.val d))/\Q d:=by
 cases e:qO ρ i with
 |ok d=>rw[e]at h;exact⟨d,Fs e,h⟩
 |error z=>
  rw[e]at h;cases z with
  |none=>exact h.elim
  |some x=>
   exfalso;unfold qO at e;split at e
   ·cases e
   ·have:=Except.error.inj e;cases this
theorem mH{e:Te}{d:D}{v:V}(h:PE X e (tC v))(hd:∀K H,cq K H d v):FE X e (fC d):=
 PE.weak h λσ H Q ⟨O,ρ,E,q⟩=>q v H (aR.refl H) (hd _ _)
noncomputable def noStar:Te->Bool
 |.Starred _ _=>false
 |_=>true
theorem cB{e:Te}{es:bz}{env:Env}(h:noStar e=true):Tv (e::es) env=(false,eval e env)::Tv es env:=by
 cases e<;>first|rfl|cases h
theorem eX{pos:Pos}{env:Env}:∀{es:bz},es.all noStar=true->(backTo pos (Tv es env)).any (·.1)=false
 |[],_=>rfl
 |e::es,h=>by
  rw[Qa,Pz]at h;rw[cB h.1];exact eX h.2
noncomputable def af:bC:=λ_=>.ok []
noncomputable def aa(f:FX)(g:bC):bC:=λρ=>(f ρ).bind λx=>(g ρ).bind λxs=>.ok (x::xs)
theorem Dc:FA X [] af:=PA.weak jk λσ H Q ⟨O,ρ,E,q⟩=>q [] H (aR.refl H) (cw.mpr rfl)
theorem bind_some{α β:Type}{o:Option α}{f:α->Option β}{b:β}(h:o.bind f=some b):∃a,o=some a/\f a=some b:=by
 cases o with
 |none=>cases h
 |some a=>exact⟨a,rfl,h⟩
theorem pc{ε α β:Type}{o:Except ε α}{f:α->Except ε β}{b:β}(h:o.bind f=.ok b):∃a,o=.ok a/\f a=.ok b:=by
 cases o with
 |error _=>cases h
 |ok a=>exact⟨a,rfl,h⟩
theorem yI{e:Te}{es:bz}{f:FX}{g:bC}(he:FE X e f)(hs:FA X es g)(hns:noStar e=true:=by rfl):FA X (e::es) (aa f g):=
 PA.weak (gC he hs (cB hns)) λσ H Q ⟨O,ρ,E,h⟩=>
  ⟨O,ρ,E,(gE.bind h).imp λx h v H1 s1 d1=>⟨O,ρ,E.same s1,((gE.bind h).mono s1).imp λxs q vs H2 s2 d2=>q (v::vs) H2 (s1.trans s2) (bb.mpr ⟨v,vs,rfl,d1.mono (bi s2),d2⟩)⟩⟩
noncomputable def small(n:Nat):Bool:=decide (n<=100000)
theorem dN{n:Nat}(h:small n=true):n<=Tn:=OQ (of_decide_eq_true h) (by decide)
theorem cu{n:Nat}(h:n<=100000):small n=true:=decide_eq_true h
noncomputable def oI(xs:List D):bF:=if small xs.length then some (.tup xs)else none
noncomputable def jK(xs:List D):bF:=if small xs.length then some (.lst xs)else none
noncomputable def bE(g:bC):FX:=λρ=>(g ρ).bind λxs=>rO (oI xs)
noncomputable def fm(g:bC):FX:=λρ=>(g ρ).bind λxs=>rO (jK xs)
theorem bA{α:Type}{c:Bool}{a b:α}(h:(if c then some a else none)=some b):c=true/\a=b:=by
 cases c with
 |true=>exact⟨rfl,Option.some.inj h⟩
 |false=>cases h
theorem dY{K:RY}{H:Hp}{O:ax}{p:Td}{ds:List D}{vs:aK}(hO:dL H O)(hp:H p=none)(d:aI K (hid H O) ds vs):cq K (hid (upd H p (.tup vs)) O) (.tup ds) (.ref p):=
 bW.mpr ⟨p,vs,rfl,by rw[gh (hO.not hp),av],d.mono (tX hp)⟩
theorem cN{K:RY}{H:Hp}{O:ax}{p:Td}{ds:List D}{vs:aK}(hO:dL H O)(hp:H p=none)(d:aI K (hid H O) ds vs):cq K (hid (upd H p (.lst vs)) O) (.lst ds) (.ref p):=
 bX.mpr ⟨p,vs,rfl,lT.of (by rw[gh (hO.not hp),av]),d.mono (tX hp)⟩
noncomputable def EG(K:RY)(r:V->Hp->VK->Prop)(g:D->bF):Prop:=
 ∀(a d:D)(x:V)(O:ax)(H:Hp)(Q:VK),dL H O->g a=some d->cq K (hid H O) a x->(∀v H',aR H H'->cq K (hid H' O) d v->Q v H')->r x H Q
noncomputable def f1(g:D->bF)(f:FX):FX:=λρ=>(f ρ).bind λa=>rO (g a)
noncomputable def cS(K:RY)(r:R2)(g:D->D->bF):Prop:=
 ∀(a b d:D)(x y:V)(O:ax)(H:Hp)(Q:VK),dL H O->g a b=some d->cq K (hid H O) a x->cq K (hid H O) b y->(∀v H',aR H H'->cq K (hid H' O) d v->Q v H')->r x y H Q
noncomputable def f2(g:D->D->bF)(f1 f2:FX):FX:=λρ=>(f1 ρ).bind λa=>(f2 ρ).bind λb=>rO (g a b)
theorem tN{r:R2}{g:D->D->bF}{fa fb:FX}(s:cS X.K r g):∀σ H Q,tF X (f2 g fa fb) σ H Q->JH r (tF X fa) (tF X fb) σ H Q:=λσ H Q ⟨O,ρ,E,hF⟩=>
 ⟨O,ρ,E,(gE.bind hF).imp fun a hF x H1 s1 d1=>⟨O,ρ,E.same s1,((gE.bind hF).mono s1).imp fun b hF y H2 s2 d2=>by
  obtain⟨d,e,q⟩:=gE.rO hF;exact s a b d x y O H2 Q (E.all.same (s1.trans s2)) e (d1.mono (bi s2)) d2 λv H3 s3 d3=>q v H3 ((s1.trans s2).trans s3) d3⟩⟩
noncomputable def LJ:D->Option Bool
 |.bl b=>some b
 |_=>none
noncomputable def fB(f:FX):bS:=λρ=>(f ρ).bind λd=>rO (LJ d)
theorem vS{t:TE}{f:FX}(h:∀σ H Q,tF X f σ H Q->t σ H Q):∀σ H Q,K8 X (fB f) σ H Q->Cw t σ H Q:=λσ H Q ⟨O,ρ,E,hF⟩=>
 h σ H _ ⟨O,ρ,E,(gE.bind hF).imp λd hF v H1 s1 d1=>by
  obtain⟨b,e,q⟩:=gE.rO hF;cases d with
  |bl b'=>
   cases e;exact⟨b,js.mp d1,q H1 s1⟩
  |_=>cases e⟩
noncomputable def yg(K:RY)(r:aK->Hp->VK->Prop)(g:List D->bF):Prop:=
 ∀(ds:List D)(d:D)(xs:aK)(O:ax)(H:Hp)(Q:VK),dL H O->g ds=some d->aI K (hid H O) ds xs->(∀v H',aR H H'->cq K (hid H' O) d v->Q v H')->r xs H Q
noncomputable def fL(g:List D->bF)(f:bC):FX:=λρ=>(f ρ).bind λds=>rO (g ds)
noncomputable def fR(g:cT)(f:bC):FX:=λρ=>(f ρ).bind g
theorem Bm{r:aK->Hp->VK->Prop}{g:List D->bF}{f:bC}(s:yg X.K r g):∀σ H Q,tF X (fL g f) σ H Q->MO r (Lq X f) σ H Q:=λσ H Q ⟨O,ρ,E,hF⟩=>
 ⟨O,ρ,E,(gE.bind hF).imp fun ds hF vs H1 s1 d1=>by
  obtain⟨d,e,q⟩:=gE.rO hF;exact s ds d vs O H1 Q (E.all.same s1) e d1 λv H2 s2 d2=>q v H2 (s1.trans s2) d2⟩
noncomputable def lj(f:bS):bS:=λρ=>(f ρ).bind λb=>.ok (!b)
noncomputable def j8(f g:bS):bS:=λρ=>(f ρ).bind λb=>if b then g ρ else .ok false
noncomputable def xr(f g:bS):bS:=λρ=>(f ρ).bind λb=>if b then .ok true else g ρ
variable{a b c:Te}{rest:bz}{pos:Pos}{f g:bS}
theorem FW.ft{e:Te}(h:FW X e f):FT X e f:=PW.pt h
noncomputable def truth:D->Option Bool
 |.non=>some false
 |.bl b=>some b
 |.int i=>some (i !=0)
 |.str x=>if small x.length then some (x.length !=0)else none
 |.tup xs=>some (!xs.isEmpty)
 |.lst xs=>some (!xs.isEmpty)
 |_=>none
noncomputable def cH(f:FX):bS:=λρ=>(f ρ).bind λd=>rO (truth d)
noncomputable def wH(d:D)(k:R D):R D:=match d with
 |.bl true=>k
 |.bl false=>.ok (.bl false)
 |_=>un
noncomputable def Kc(d:D)(k:R D):R D:=match d with
 |.bl false=>k
 |.bl true=>.ok (.bl true)
 |_=>un
noncomputable def pH:D->bF
 |.bl b=>some (.bl (!b))
 |_=>none
noncomputable def iO(f g:FX):FX:=λρ=>(f ρ).bind λd=>wH d (g ρ)
noncomputable def El(f g:FX):FX:=λρ=>(f ρ).bind λd=>Kc d (g ρ)
noncomputable def vg(f:FX):FX:=f1 pH f
variable{fa fb:FX}
noncomputable def KW(t:bS)(f g:FX):FX:=λρ=>(t ρ).bind λc=>if c then f ρ else g ρ
end
end TG
namespace TG
open PySem PySem.Spec L2
variable[aA]
open PySem.SeqAt (EqAt RcAt RcNeAt)
mutual
noncomputable def pyEq:D->D->Bool
 |.non,.non=>true
 |.bl a,.bl b=>a==b
 |.bl a,.int b=>(if a then 1 else 0)==b
 |.int a,.bl b=>a==(if b then 1 else 0)
 |.int a,.int b=>a==b
 |.str a,.str b=>a==b
 |.tup xs,.tup ys=>pyEqL xs ys
 |.lst xs,.lst ys=>pyEqL xs ys
 |.dct _ _,.dct _ _=>true
 |.obj _ _ _,.obj _ _ _=>true
 |.exc _ _ _,.exc _ _ _=>true
 |_,_=>false
noncomputable def pyEqL:List D->List D->Bool
 |[],[]=>true
 |x::xs,y::ys=>pyEq x y&&pyEqL xs ys
 |_,_=>false
end
mutual
theorem kX:∀d:D,pyEq d d=true
 |.non=>by unfold pyEq;rfl
 |.bl b=>by unfold pyEq;simp
 |.int i=>by unfold pyEq;simp
 |.str x=>by unfold pyEq;simp
 |.tup xs=>by unfold pyEq;exact jo xs
 |.lst xs=>by unfold pyEq;exact jo xs
 |.dct _ _=>by unfold pyEq;rfl
 |.obj _ _ _=>by unfold pyEq;rfl
 |.exc _ _ _=>by unfold pyEq;rfl
theorem jo:∀ds:List D,pyEqL ds ds=true
 |[]=>by unfold pyEqL;rfl
 |d::ds=>by unfold pyEqL;rw[kX d,jo ds];rfl
end
noncomputable def xk(xs ys:List D)(j:Nat):Bool:=match xs[j]?,ys[j]? with
 |some a,some b=>pyEq a b
 |_,_=>false
theorem fV:∀xs ys:List D,((List.range (min xs.length ys.length)).all (xk xs ys)&&xs.length==ys.length)=pyEqL xs ys
 |[],[]=>by unfold pyEqL;rfl
 |[],_::_=>by unfold pyEqL;simp
 |_::_,[]=>by unfold pyEqL;simp
 |x::xs,y::ys=>by
  have ih:=fV xs ys
  conv=>rhs;unfold pyEqL
  rw[<-ih];have e:min (x::xs).length (y::ys).length=min xs.length ys.length+1:=by simp only[O8];omega
  rw[e,Qb,Qa,Qc];have e2:((x::xs).length==(y::ys).length)=(xs.length==ys.length):=by simp
  rw[e2,Bool.and_assoc];have e3:(List.range (min xs.length ys.length)).all (xk (x::xs) (y::ys)∘Nat.succ)=(List.range (min xs.length ys.length)).all (xk xs ys):=by
   congr 1
  rw[e3];rfl
mutual
noncomputable def pl:D->Bool
 |.tup xs=>jJ xs
 |.lst xs=>jJ xs
 |.dct _ _=>false
 |.obj _ _ _=>false
 |.exc _ _ _=>false
 |_=>true
noncomputable def jJ:List D->Bool
 |[]=>true
 |x::xs=>pl x&&jJ xs
end
theorem fE{ks vs:List D}(h:pl (.dct ks vs)=true):False:=by unfold pl at h;cases h
theorem fS{c:Str}{fs:ay}{vs:List D}(h:pl (.obj c fs vs)=true):False:=by unfold pl at h;cases h
theorem fT{c:Str}{fs:ay}{vs:List D}(h:pl (.exc c fs vs)=true):False:=by unfold pl at h;cases h
theorem kB:∀{xs:List D},jJ xs=true->∀x∈xs,pl x=true
 |[],_,_,h=>nomatch h
 |x::xs,h,y,hy=>by
  unfold jJ at h;rw[Pz]at h;rcases List.mem_cons.mp hy with z|z
  ·rw[z];exact h.1
  ·exact kB h.2 y z
theorem lK:∀{xs:List D},(∀x∈xs,pl x=true)->jJ xs=true
 |[],_=>by unfold jJ;rfl
 |x::xs,h=>by
  unfold jJ;rw[Pz];exact⟨h x OU,lK λy hy=>h y (OV _ hy)⟩
theorem cz{xs:List D}:pl (.tup xs)=jJ xs:=by rw[pl]
theorem dE{xs:List D}:pl (.lst xs)=jJ xs:=by rw[pl]
noncomputable def cJ:Nat->D->Bool
 |n+1,.tup xs=>xs.all (cJ n)
 |n+1,.lst xs=>xs.all (cJ n)
 |0,.tup _=>false
 |0,.lst _=>false
 |_,.dct _ _=>false
 |_,.obj _ _ _=>false
 |_,.exc _ _ _=>false
 |_,_=>true
section
variable{X:Cx}{pins:bc}{σ:St}{H:Hp}{s:Tg}
theorem Inv.not_both(I:Inv X pins σ H s){a:Td}{xs ys:aK}(h:nX X.K H a xs)(h':lT X.K H a ys):False:=by
 obtain⟨its,_,ht,_⟩:=I.tuple h;obtain⟨its2,_,hl,_⟩:=I.list h';exact absurd rfl (SeqAt.ne_of_list_tuple hl.isList (show s.heap.IsTuple a its.toArray from ht))
mutual
theorem Inv.den_inj(I:Inv X pins σ H s):∀{a b:D}{v:V},pl a=true->pl b=true->cq X.K H a v->cq X.K H b v->a=b
 |.non,b,v,pa,pb,h,h'=>by
  rw[jp]at h;subst h;cases b with
  |non=>rfl
  |bl _=>rw[js]at h';cases h'
  |int _=>rw[eM]at h';cases h'
  |str _=>rw[eN]at h';cases h'
  |tup _=>rw[bW]at h';obtain⟨_,_,e,_⟩:=h';cases e
  |lst _=>rw[bX]at h';obtain⟨_,_,e,_⟩:=h';cases e
  |dct _ _=>exact(fE pb).elim
  |obj _ _ _=>exact(fS pb).elim
  |exc _ _ _=>exact(fT pb).elim
 |.bl x,b,v,pa,pb,h,h'=>by
  rw[js]at h;subst h;cases b with
  |non=>rw[jp]at h';cases h'
  |bl _=>rw[js]at h';cases h';rfl
  |int _=>rw[eM]at h';cases h'
  |str _=>rw[eN]at h';cases h'
  |tup _=>rw[bW]at h';obtain⟨_,_,e,_⟩:=h';cases e
  |lst _=>rw[bX]at h';obtain⟨_,_,e,_⟩:=h';cases e
  |dct _ _=>exact(fE pb).elim
  |obj _ _ _=>exact(fS pb).elim
  |exc _ _ _=>exact(fT pb).elim
 |.int x,b,v,pa,pb,h,h'=>by
  rw[eM]at h;subst h;cases b with
  |non=>rw[jp]at h';cases h'
  |bl _=>rw[js]at h';cases h'
  |int _=>rw[eM]at h';cases h';rfl
  |str _=>rw[eN]at h';cases h'
  |tup _=>rw[bW]at h';obtain⟨_,_,e,_⟩:=h';cases e
  |lst _=>rw[bX]at h';obtain⟨_,_,e,_⟩:=h';cases e
  |dct _ _=>exact(fE pb).elim
  |obj _ _ _=>exact(fS pb).elim
  |exc _ _ _=>exact(fT pb).elim
 |.str x,b,v,pa,pb,h,h'=>by
  rw[eN]at h;subst h;cases b with
  |non=>rw[jp]at h';cases h'
  |bl _=>rw[js]at h';cases h'
  |int _=>rw[eM]at h';cases h'
  |str _=>rw[eN]at h';cases h';rfl
  |tup _=>rw[bW]at h';obtain⟨_,_,e,_⟩:=h';cases e
  |lst _=>rw[bX]at h';obtain⟨_,_,e,_⟩:=h';cases e
  |dct _ _=>exact(fE pb).elim
  |obj _ _ _=>exact(fS pb).elim
  |exc _ _ _=>exact(fT pb).elim
 |.tup xs,b,v,pa,pb,h,h'=>by
  rw[bW]at h;obtain⟨a,vs,e,h1,h2⟩:=h;subst e;cases b with
  |non=>rw[jp]at h';cases h'
  |bl _=>rw[js]at h';cases h'
  |int _=>rw[eM]at h';cases h'
  |str _=>rw[eN]at h';cases h'
  |tup ys=>
   rw[bW]at h';obtain⟨a',vs',e,h1',h2'⟩:=h';cases e;have ev:=I.tuple_inj (nX.of h1) (nX.of h1');subst ev;rw[Inv.denL_inj I (by first|rw[<-cz];exact pa|rw[<-dE];exact pa) (by first|rw[<-cz];exact pb|rw[<-dE];exact pb) h2 h2']
  |lst _=>rw[bX]at h';obtain⟨_,_,e,h1',_⟩:=h';cases e;exact(Inv.not_both I (nX.of h1) h1').elim
  |dct _ _=>exact(fE pb).elim
  |obj _ _ _=>exact(fS pb).elim
  |exc _ _ _=>exact(fT pb).elim
 |.lst xs,b,v,pa,pb,h,h'=>by
  rw[bX]at h;obtain⟨a,vs,e,h1,h2⟩:=h;subst e;cases b with
  |non=>rw[jp]at h';cases h'
  |bl _=>rw[js]at h';cases h'
  |int _=>rw[eM]at h';cases h'
  |str _=>rw[eN]at h';cases h'
  |lst ys=>
   rw[bX]at h';obtain⟨a',vs',e,h1',h2'⟩:=h';cases e;have ev:=I.list_inj h1 h1';subst ev;rw[Inv.denL_inj I (by first|rw[<-cz];exact pa|rw[<-dE];exact pa) (by first|rw[<-cz];exact pb|rw[<-dE];exact pb) h2 h2']
  |tup _=>rw[bW]at h';obtain⟨_,_,e,h1',_⟩:=h';cases e;exact(Inv.not_both I (nX.of h1') h1).elim
  |dct _ _=>exact(fE pb).elim
  |obj _ _ _=>exact(fS pb).elim
  |exc _ _ _=>exact(fT pb).elim
 |.dct _ _,_,_,pa,_,_,_=>(fE pa).elim
 |.obj _ _ _,_,_,pa,_,_,_=>(fS pa).elim
 |.exc _ _ _,_,_,pa,_,_,_=>(fT pa).elim
theorem Inv.denL_inj(I:Inv X pins σ H s):∀{as bs:List D}{vs:aK},jJ as=true->jJ bs=true->aI X.K H as vs->aI X.K H bs vs->as=bs
 |[],bs,vs,pa,pb,h,h'=>by
  rw[cw]at h;subst h;cases bs with
  |nil=>rfl
  |cons b bs=>rw[bb]at h';obtain⟨_,_,e,_⟩:=h';cases e
 |a::as,bs,vs,pa,pb,h,h'=>by
  rw[bb]at h;obtain⟨v,r,e,h1,h2⟩:=h;subst e;cases bs with
  |nil=>rw[cw]at h';cases h'
  |cons b bs=>
   rw[bb]at h';obtain⟨v',r',e,h1',h2'⟩:=h';cases e;unfold jJ at pa pb;rw[Pz]at pa pb;rw[Inv.den_inj I pa.1 pb.1 h1 h1',Inv.denL_inj I pa.2 pb.2 h2 h2']
end
noncomputable def lB:D->Option V
 |.non=>some .non
 |.bl b=>some (.bl b)
 |.int i=>some (.int i)
 |.str x=>some (.str x)
 |_=>none
theorem oq{K:RY}{d:D}{v x:V}(h:lB d=some x)(hd:cq K H d v):v=x/\C5 x=true:=by
 cases d with
 |non=>cases h;exact⟨jp.mp hd,rfl⟩
 |bl b=>cases h;exact⟨js.mp hd,rfl⟩
 |int i=>cases h;exact⟨eM.mp hd,rfl⟩
 |str y=>cases h;exact⟨eN.mp hd,rfl⟩
 |_=>cases h
theorem Fx{a b:D}{x y:V}(ha:lB a=some x)(hb:lB b=some y):LI x y=pyEq a b:=by
 cases a<;>cases ha<;>cases b<;>cases hb<;>(unfold pyEq LI;rfl)
theorem vT{a:D}{x:V}(n:Nat)(h:lB a=some x):cJ n a=true:=by
 cases a with
 |tup _=>cases h
 |lst _=>cases h
 |dct _ _=>cases h
 |obj _ _ _=>cases h
 |exc _ _ _=>cases h
 |_=>cases n<;>rfl
theorem vY{a:D}(h:lB a=none):cJ 0 a=false:=by
 cases a with
 |tup _=>rfl
 |lst _=>rfl
 |dct _ _=>rfl
 |obj _ _ _=>rfl
 |exc _ _ _=>rfl
 |_=>cases h
theorem in1_units(A:Ts):A.in1.units=A.units+1:=rfl
theorem mS{vs:aK}{us:aU}(r:Vals vs us){j:Nat}(h:j<us.toArray.size):∃x,vs[j]?=some x/\RelV x us.toArray[j]:=by
 have hj:j<us.length:=by simpa using h
 have hl:=r.length;have hv:j<vs.length:=by omega
 obtain⟨u,e,ru⟩:=r.get (i:=j) (x:=vs[j]) (by simp[hv]);refine⟨vs[j],by simp[hv],?_⟩;have e2:us.toArray[j]=u:=by
  rw[Qd hj]at e
  simpa using Option.some.inj e
 rw[e2];exact ru
theorem my{K:RY}{ds:List D}{vs:aK}(h:aI K H ds vs){j:Nat}{x:V}(e:vs[j]?=some x):∃d,ds[j]?=some d/\cq K H d x:=by
 have hj:j<vs.length:=(List.getElem?_eq_some_iff.mp e).1;have hl:=h.length;have hd:j<ds.length:=by omega
 obtain⟨v,e1,e2⟩:=h.get (i:=j) (d:=ds[j]) (by simp[hd]);rw[e]at e1;cases e1;exact⟨ds[j],by simp[hd],e2⟩
theorem Be(I:Inv X pins σ H s):∀(n:Nat)(a b:D)(x y:V)(u v:S9)(A:Ts),pl a=true->pl b=true->(cJ n a=true\/cJ n b=true)->cq X.K H a x->cq X.K H b y->RelV x u->RelV y v->A.units+n<T5->EqAt A s u v (pyEq a b):=by
 intro n
 induction n with
 |zero=>
  intro a b x y u v A pa pb hd ha hb ru rv hA;have hu:A.units<T5:=hA;cases ha':lB a with
  |some x'=>
   obtain⟨e,f⟩:=oq ha' ha;subst e;cases hb':lB b with
   |some y'=>
    obtain⟨e,f'⟩:=oq hb' hb;subst e;rw[<-Fx ha' hb'];exact G8 ru rv f f'
   |none=>
    cases b with
    |tup ys=>
     rw[bW]at hb;obtain⟨p,vs,e,h1,h2⟩:=hb;subst e;cases rv;obtain⟨its,_,ht,_⟩:=I.tuple (nX.of h1);have ht':s.heap.IsTuple p its.toArray:=ht;cases a with
     |non=>cases ha';cases ru;unfold pyEq;exact .none_tuple ht' hu
     |bl z=>cases ha';cases ru;unfold pyEq;exact .bool_tuple z ht' hu
     |int z=>cases ha';obtain⟨t,rfl⟩:=ru;unfold pyEq;exact .int_tuple z t ht' hu
     |str z=>cases ha';obtain⟨t,rfl⟩:=ru;unfold pyEq;exact .str_tuple z t ht' hu
     |_=>cases ha'
    |lst ys=>
     rw[bX]at hb;obtain⟨p,vs,e,h1,h2⟩:=hb;subst e;cases rv;obtain⟨its,_,ht,_⟩:=I.list h1;have ht':s.heap.IsList p its.toArray:=ht.isList;cases a with
     |non=>cases ha';cases ru;unfold pyEq;exact .none_list ht' hu
     |bl z=>cases ha';cases ru;unfold pyEq;exact .bool_list z ht' hu
     |int z=>cases ha';obtain⟨t,rfl⟩:=ru;unfold pyEq;exact .int_list z t ht' hu
     |str z=>cases ha';obtain⟨t,rfl⟩:=ru;unfold pyEq;exact .str_list z t ht' hu
     |_=>cases ha'
    |dct _ _=>exact(fE pb).elim
    |obj _ _ _=>exact(fS pb).elim
    |exc _ _ _=>exact(fT pb).elim
    |_=>cases hb'
  |none=>
   have hdb:cJ 0 b=true:=by
    rcases hd with hd|hd
    ·rw[vY ha']at hd;cases hd
    ·exact hd
   cases hb':lB b with
   |none=>rw[vY hb']at hdb;cases hdb
   |some y'=>
    obtain⟨e,f'⟩:=oq hb' hb;subst e;cases a with
    |tup xs=>
     rw[bW]at ha;obtain⟨p,vs,e,h1,h2⟩:=ha;subst e;cases ru;obtain⟨its,_,ht,_⟩:=I.tuple (nX.of h1);have ht':s.heap.IsTuple p its.toArray:=ht;cases b with
     |non=>cases hb';cases rv;unfold pyEq;exact .tuple_none ht' hu
     |bl z=>cases hb';cases rv;unfold pyEq;exact .tuple_bool z ht' hu
     |int z=>cases hb';obtain⟨t,rfl⟩:=rv;unfold pyEq;exact .tuple_int z t ht' hu
     |str z=>cases hb';obtain⟨t,rfl⟩:=rv;unfold pyEq;exact .tuple_str z t ht' hu
     |_=>cases hb'
    |lst xs=>
     rw[bX]at ha;obtain⟨p,vs,e,h1,h2⟩:=ha;subst e;cases ru;obtain⟨its,_,ht,_⟩:=I.list h1;have ht':s.heap.IsList p its.toArray:=ht.isList;cases b with
     |non=>cases hb';cases rv;unfold pyEq;exact .list_none ht' hu
     |bl z=>cases hb';cases rv;unfold pyEq;exact .list_bool z ht' hu
     |int z=>cases hb';obtain⟨t,rfl⟩:=rv;unfold pyEq;exact .list_int z t ht' hu
     |str z=>cases hb';obtain⟨t,rfl⟩:=rv;unfold pyEq;exact .list_str z t ht' hu
     |_=>cases hb'
    |dct _ _=>exact(fE pa).elim
    |obj _ _ _=>exact(fS pa).elim
    |exc _ _ _=>exact(fT pa).elim
    |_=>cases ha'
 |succ n ih=>
  intro a b x y u v A pa pb hd ha hb ru rv hA;have hu:A.units<T5:=by omega
  have flatWay:(∀xs ys,¬(a=.tup xs/\b=.tup ys))->(∀xs ys,¬(a=.lst xs/\b=.lst ys))->EqAt A s u v (pyEq a b):=by
   intro n1 n2;cases ha':lB a with
   |some x'=>exact ih a b x y u v A pa pb (.inl (vT n ha')) ha hb ru rv ‹0›
   |none=>
    cases hb':lB b with
    |some y'=>exact ih a b x y u v A pa pb (.inr (vT n hb')) ha hb ru rv ‹0›
    |none=>
     cases a with
     |tup xs=>
      cases b with
      |tup ys=>exact absurd ⟨rfl,rfl⟩ (n1 xs ys)
      |lst ys=>
       rw[bW]at ha;obtain⟨p,vs,e,h1,h2⟩:=ha;subst e;rw[bX]at hb;obtain⟨p',vs',e,h1',h2'⟩:=hb;subst e;cases ru;cases rv;obtain⟨its,_,ht,_⟩:=I.tuple (nX.of h1);obtain⟨its2,_,ht2,_⟩:=I.list h1';unfold pyEq;exact .tuple_list (show s.heap.IsTuple p its.toArray from ht) ht2.isList hu
      |dct _ _=>exact(fE pb).elim
      |obj _ _ _=>exact(fS pb).elim
      |exc _ _ _=>exact(fT pb).elim
      |_=>cases hb'
     |lst xs=>
      cases b with
      |lst ys=>exact absurd ⟨rfl,rfl⟩ (n2 xs ys)
      |tup ys=>
       rw[bX]at ha;obtain⟨p,vs,e,h1,h2⟩:=ha;subst e;rw[bW]at hb;obtain⟨p',vs',e,h1',h2'⟩:=hb;subst e;cases ru;cases rv;obtain⟨its,_,ht,_⟩:=I.list h1;obtain⟨its2,_,ht2,_⟩:=I.tuple (nX.of h1');unfold pyEq;exact .list_tuple ht.isList (show s.heap.IsTuple p' its2.toArray from ht2) hu
      |dct _ _=>exact(fE pb).elim
      |obj _ _ _=>exact(fS pb).elim
      |exc _ _ _=>exact(fT pb).elim
      |_=>cases hb'
     |dct _ _=>exact(fE pa).elim
     |obj _ _ _=>exact(fS pa).elim
     |exc _ _ _=>exact(fT pa).elim
     |_=>cases ha'
  have items:∀(xs ys:List D)(vs vs':aK)(its its':aU),jJ xs=true->jJ ys=true->(cJ (n+1) (.tup xs)=true\/cJ (n+1) (.tup ys)=true)->aI X.K H xs vs->aI X.K H ys vs'->Vals vs its->Vals vs' its'->
    ∀j (h1:j<its.toArray.size) (h2:j<its'.toArray.size),EqAt A.in1 s its.toArray[j] its'.toArray[j] (xk xs ys j):=by
   intro xs ys vs vs' its its' px py hdd hx hy rx ry j h1 h2;obtain⟨w1,e1,r1⟩:=mS rx h1;obtain⟨w2,e2,r2⟩:=mS ry h2;obtain⟨d1,f1,g1⟩:=my hx e1;obtain⟨d2,f2,g2⟩:=my hy e2;have e3:xk xs ys j=pyEq d1 d2:=(by unfold xk;rw[f1,f2]);rw[e3];refine ih d1 d2 w1 w2 _ _ A.in1 (kB px _ (Pu f1)) (kB py _ (Pu f2)) ?_ g1 g2 r1 r2 (by rw[in1_units];omega);rcases hdd with hdd|hdd
   ·exact .inl (List.all_eq_true.mp hdd d1 (Pu f1))
   ·exact .inr (List.all_eq_true.mp hdd d2 (Pu f2))
  by_cases hT:∃xs ys,a=.tup xs/\b=.tup ys
  ·obtain⟨xs,ys,rfl,rfl⟩:=hT;have da:=ha;have db:=hb;rw[bW]at ha hb;obtain⟨p,vs,e,h1,h2⟩:=ha;subst e;obtain⟨p',vs',e,h1',h2'⟩:=hb;subst e;cases ru;cases rv;by_cases hp:p=p'
   ·subst hp;have e:=Inv.den_inj I pa pb da db;rw[e,kX];exact EqAt.same _
   ·obtain⟨its,rv1,ht,_⟩:=I.tuple (nX.of h1);obtain⟨its2,rv2,ht2,_⟩:=I.tuple (nX.of h1');refine EqAt.of_refs hp ?_;have q:=RcAt.tuples (e:=xk xs ys) (show s.heap.IsTuple p its.toArray from ht) (show s.heap.IsTuple p' its2.toArray from ht2) hu (items xs ys vs vs' its its2 (by first|rw[<-cz];exact pa|rw[<-dE];exact pa) (by first|rw[<-cz];exact pb|rw[<-dE];exact pb) hd h2 h2' rv1 rv2);have z1:its.toArray.size=xs.length:=(by rw[O6,<-rv1.length,<-h2.length]);have z2:its2.toArray.size=ys.length:=(by rw[O6,<-rv2.length,<-h2'.length]);rw[z1,z2,fV]at q;unfold pyEq;exact q
  ·by_cases hL:∃xs ys,a=.lst xs/\b=.lst ys
   ·obtain⟨xs,ys,rfl,rfl⟩:=hL;have da:=ha;have db:=hb;rw[bX]at ha hb;obtain⟨p,vs,e,h1,h2⟩:=ha;subst e;obtain⟨p',vs',e,h1',h2'⟩:=hb;subst e;cases ru;cases rv;by_cases hp:p=p'
    ·subst hp;have e:=Inv.den_inj I pa pb da db;rw[e,kX];exact EqAt.same _
    ·obtain⟨its,rv1,ht,_⟩:=I.list h1;obtain⟨its2,rv2,ht2,_⟩:=I.list h1';refine EqAt.of_refs hp ?_;have z1:its.toArray.size=xs.length:=(by rw[O6,<-rv1.length,<-h2.length]);have z2:its2.toArray.size=ys.length:=(by rw[O6,<-rv2.length,<-h2'.length]);have er:=fV xs ys;by_cases hz:its.toArray.size=its2.toArray.size
     ·have q:=RcAt.lists (e:=xk xs ys) ht.isList ht2.isList hz hu (items xs ys vs vs' its its2 (by first|rw[<-cz];exact pa|rw[<-dE];exact pa) (by first|rw[<-cz];exact pb|rw[<-dE];exact pb) hd h2 h2' rv1 rv2);rw[z1]at q;have hz':xs.length=ys.length:=(by omega);rw[<-hz',Qe]at er;simp only[beq_self_eq_true,Qf]at er;rw[er]at q;unfold pyEq;exact q
     ·have hne:(its.toArray.size !=its2.toArray.size)=true:=(by simpa using hz);have q:=RcAt.lists_lengths (A:=A) ht.isList ht2.isList hne hu;have hz':(xs.length==ys.length)=false:=by
       rw[z1,z2]at hz
       simpa using hz
      rw[hz',PD]at er;unfold pyEq;rw[<-er];exact q
   ·exact flatWay (λxs ys z=>hT ⟨xs,ys,z⟩) λxs ys z=>hL ⟨xs,ys,z⟩
end
end TG
namespace TG
open PySem PySem.Spec L2
variable[aA]
open PySem.SeqAt (EqAt RcAt RcNeAt)
section
variable{X:Cx}{pins:bc}{σ:St}{H:Hp}{s:Tg}
theorem o8(I:Inv X pins σ H s){n:Nat}{xs ys:List D}{vs vs':aK}{its its':aU}{A:Ts}(px:jJ xs=true)(py:jJ ys=true)(hdd:cJ (n+1) (.tup xs)=true\/cJ (n+1) (.tup ys)=true)(hx:aI X.K H xs vs)(hy:aI X.K H ys vs')(rx:Vals vs its)(ry:Vals vs' its')(hA:A.units+n<T5):
  ∀j (h1:j<its.toArray.size) (h2:j<its'.toArray.size),EqAt A s its.toArray[j] its'.toArray[j] (xk xs ys j):=by
 intro j h1 h2;obtain⟨w1,e1,r1⟩:=mS rx h1;obtain⟨w2,e2,r2⟩:=mS ry h2;obtain⟨d1,f1,g1⟩:=my hx e1;obtain⟨d2,f2,g2⟩:=my hy e2;have e3:xk xs ys j=pyEq d1 d2:=by unfold xk;rw[f1,f2]
 rw[e3];refine Be I n d1 d2 w1 w2 _ _ A (kB px _ (Pu f1)) (kB py _ (Pu f2)) ?_ g1 g2 r1 r2 hA;rcases hdd with hdd|hdd
 ·exact .inl (List.all_eq_true.mp hdd d1 (Pu f1))
 ·exact .inr (List.all_eq_true.mp hdd d2 (Pu f2))
inductive Way(I:Inv X pins σ H s):D->S9->Prop where
 |non:Way I .non .none
 |bl (b:Bool):Way I (.bl b) (.bool b)
 |int (i:Int) (t:Tok):Way I (.int i) (.int i t)
 |str (x:Str) (t:Tok):Way I (.str x) (.str x t)
 |tup {xs:List D} {p:Td} {vs:aK} {its:aU} (h:aI X.K H xs vs) (r:Vals vs its) (t:s.heap.IsTuple p its.toArray):Way I (.tup xs) (.ref p)
 |lst {xs:List D} {p:Td} {vs:aK} {its:aU} (h:aI X.K H xs vs) (r:Vals vs its) (t:s.heap.IsList p its.toArray):Way I (.lst xs) (.ref p)
noncomputable def top:D->Bool
 |.dct _ _=>false
 |.obj _ _ _=>false
 |.exc _ _ _=>false
 |_=>true
theorem eZ{d:D}(h:pl d=true):top d=true:=by
 cases d with
 |dct _ _=>exact(fE h).elim
 |obj _ _ _=>exact(fS h).elim
 |exc _ _ _=>exact(fT h).elim
 |_=>rfl
theorem eO(I:Inv X pins σ H s){d:D}{v:V}{u:S9}(pd:top d=true)(h:cq X.K H d v)(r:RelV v u):Way I d u:=by
 cases d with
 |non=>rw[jp]at h;subst h;cases r;exact .non
 |bl b=>rw[js]at h;subst h;cases r;exact .bl b
 |int i=>rw[eM]at h;subst h;obtain⟨t,rfl⟩:=r;exact .int i t
 |str x=>rw[eN]at h;subst h;obtain⟨t,rfl⟩:=r;exact .str x t
 |tup xs=>
  rw[bW]at h;obtain⟨p,vs,e,h1,h2⟩:=h;subst e;cases r;obtain⟨its,rv,ht,_⟩:=I.tuple (nX.of h1);exact .tup h2 rv ht
 |lst xs=>
  rw[bX]at h;obtain⟨p,vs,e,h1,h2⟩:=h;subst e;cases r;obtain⟨its,rv,ht,_⟩:=I.list h1;exact .lst h2 rv ht.isList
 |dct _ _=>cases pd
 |obj _ _ _=>cases pd
 |exc _ _ _=>cases pd
theorem Jf(I:Inv X pins σ H s){n:Nat}{a b:D}{x y:V}{u v:S9}{A:Ts}(pa:pl a=true)(pb:pl b=true)(hd:cJ (n+1) a=true\/cJ (n+1) b=true)(ha:cq X.K H a x)(hb:cq X.K H b y)(ru:RelV x u)(rv:RelV y v)(hA:A.units+n+1<T5):RcAt A s u v (pyEq a b):=by
 have hu:A.units<T5:=by omega
 cases eO I (eZ pa) ha ru with
 |non=>cases eO I (eZ pb) hb rv with
  |non=>unfold pyEq;exact .none_none
  |bl b=>unfold pyEq;exact .none_bool b
  |int i t=>unfold pyEq;exact .none_int i t
  |str x t=>unfold pyEq;exact .none_str x t
  |tup h r t=>unfold pyEq;exact .none_tuple t hu
  |lst h r t=>unfold pyEq;exact .none_list t hu
 |bl z=>cases eO I (eZ pb) hb rv with
  |non=>unfold pyEq;exact .bool_none z
  |bl b=>unfold pyEq;exact .bool_bool z b
  |int i t=>unfold pyEq;exact .bool_int z i t
  |str x t=>unfold pyEq;exact .bool_str z x t
  |tup h r t=>unfold pyEq;exact .bool_tuple z t hu
  |lst h r t=>unfold pyEq;exact .bool_list z t hu
 |int z tz=>cases eO I (eZ pb) hb rv with
  |non=>unfold pyEq;exact .int_none z tz
  |bl b=>unfold pyEq;exact .int_bool z tz b
  |int i t=>unfold pyEq;exact .int_int z tz i t
  |str x t=>unfold pyEq;exact .int_str z tz x t
  |tup h r t=>unfold pyEq;exact .int_tuple z tz t hu
  |lst h r t=>unfold pyEq;exact .int_list z tz t hu
 |str z tz=>cases eO I (eZ pb) hb rv with
  |non=>unfold pyEq;exact .str_none z tz
  |bl b=>unfold pyEq;exact .str_bool z tz b
  |int i t=>unfold pyEq;exact .str_int z tz i t
  |str x t=>unfold pyEq;exact .str_str z tz x t
  |tup h r t=>unfold pyEq;exact .str_tuple z tz t hu
  |lst h r t=>unfold pyEq;exact .str_list z tz t hu
 |@tup xs p vs its h1 r1 t1=>cases eO I (eZ pb) hb rv with
  |non=>unfold pyEq;exact .tuple_none t1 hu
  |bl b=>unfold pyEq;exact .tuple_bool b t1 hu
  |int i t=>unfold pyEq;exact .tuple_int i t t1 hu
  |str x t=>unfold pyEq;exact .tuple_str x t t1 hu
  |@tup ys p' vs' its' h2 r2 t2=>
   have q:=RcAt.tuples (e:=xk xs ys) t1 t2 hu (o8 (A:=A.in1) I (by first|rw[<-cz];exact pa|rw[<-dE];exact pa) (by first|rw[<-cz];exact pb|rw[<-dE];exact pb) hd h1 h2 r1 r2 (by rw[in1_units];omega));have z1:its.toArray.size=xs.length:=(by rw[O6,<-r1.length,<-h1.length]);have z2:its'.toArray.size=ys.length:=(by rw[O6,<-r2.length,<-h2.length]);rw[z1,z2,fV]at q;unfold pyEq;exact q
  |lst h r t=>unfold pyEq;exact .tuple_list t1 t hu
 |@lst xs p vs its h1 r1 t1=>cases eO I (eZ pb) hb rv with
  |non=>unfold pyEq;exact .list_none t1 hu
  |bl b=>unfold pyEq;exact .list_bool b t1 hu
  |int i t=>unfold pyEq;exact .list_int i t t1 hu
  |str x t=>unfold pyEq;exact .list_str x t t1 hu
  |tup h r t=>unfold pyEq;exact .list_tuple t1 t hu
  |@lst ys p' vs' its' h2 r2 t2=>
   have z1:its.toArray.size=xs.length:=(by rw[O6,<-r1.length,<-h1.length]);have z2:its'.toArray.size=ys.length:=(by rw[O6,<-r2.length,<-h2.length]);have er:=fV xs ys;by_cases hz:its.toArray.size=its'.toArray.size
   ·have q:=RcAt.lists (e:=xk xs ys) t1 t2 hz hu (o8 (A:=A.in1) I (by first|rw[<-cz];exact pa|rw[<-dE];exact pa) (by first|rw[<-cz];exact pb|rw[<-dE];exact pb) hd h1 h2 r1 r2 (by rw[in1_units];omega));rw[z1]at q;have hz':xs.length=ys.length:=(by omega);rw[<-hz',Qe]at er;simp only[beq_self_eq_true,Qf]at er;rw[er]at q;unfold pyEq;exact q
   ·have q:=RcAt.lists_lengths (A:=A) t1 t2 (by simpa using hz) hu;have hz':(xs.length==ys.length)=false:=by
     rw[z1,z2]at hz
     simpa using hz
    rw[hz',PD]at er;unfold pyEq;rw[<-er];exact q
theorem Bt(I:Inv X pins σ H s){n:Nat}{a b:D}{x y:V}{u v:S9}{A:Ts}(pa:pl a=true)(pb:pl b=true)(hd:cJ (n+1) a=true\/cJ (n+1) b=true)(ha:cq X.K H a x)(hb:cq X.K H b y)(ru:RelV x u)(rv:RelV y v)(hA:A.units+n+1<T5):RcNeAt A s u v (!pyEq a b):=by
 have hu:A.units<T5:=by omega
 cases eO I (eZ pa) ha ru with
 |non=>cases eO I (eZ pb) hb rv with
  |non=>unfold pyEq;exact .none_none
  |bl b=>unfold pyEq;exact .none_bool b
  |int i t=>unfold pyEq;exact .none_int i t
  |str x t=>unfold pyEq;exact .none_str x t
  |tup h r t=>unfold pyEq;exact .none_tuple t hu
  |lst h r t=>unfold pyEq;exact .none_list t hu
 |bl z=>cases eO I (eZ pb) hb rv with
  |non=>unfold pyEq;exact .bool_none z
  |bl b=>unfold pyEq;exact .bool_bool z b
  |int i t=>unfold pyEq;exact .bool_int z i t
  |str x t=>unfold pyEq;exact .bool_str z x t
  |tup h r t=>unfold pyEq;exact .bool_tuple z t hu
  |lst h r t=>unfold pyEq;exact .bool_list z t hu
 |int z tz=>cases eO I (eZ pb) hb rv with
  |non=>unfold pyEq;exact .int_none z tz
  |bl b=>unfold pyEq;exact .int_bool z tz b
  |int i t=>unfold pyEq;exact .int_int z tz i t
  |str x t=>unfold pyEq;exact .int_str z tz x t
  |tup h r t=>unfold pyEq;exact .int_tuple z tz t hu
  |lst h r t=>unfold pyEq;exact .int_list z tz t hu
 |str z tz=>cases eO I (eZ pb) hb rv with
  |non=>unfold pyEq;exact .str_none z tz
  |bl b=>unfold pyEq;exact .str_bool z tz b
  |int i t=>unfold pyEq;exact .str_int z tz i t
  |str x t=>unfold pyEq;exact .str_str z tz x t
  |tup h r t=>unfold pyEq;exact .str_tuple z tz t hu
  |lst h r t=>unfold pyEq;exact .str_list z tz t hu
 |@tup xs p vs its h1 r1 t1=>cases eO I (eZ pb) hb rv with
  |non=>unfold pyEq;exact .tuple_none t1 hu
  |bl b=>unfold pyEq;exact .tuple_bool b t1 hu
  |int i t=>unfold pyEq;exact .tuple_int i t t1 hu
  |str x t=>unfold pyEq;exact .tuple_str x t t1 hu
  |@tup ys p' vs' its' h2 r2 t2=>
   have q:=RcNeAt.tuples (e:=xk xs ys) t1 t2 hu (o8 (A:=A.in1) I (by first|rw[<-cz];exact pa|rw[<-dE];exact pa) (by first|rw[<-cz];exact pb|rw[<-dE];exact pb) hd h1 h2 r1 r2 (by rw[in1_units];omega));have z1:its.toArray.size=xs.length:=(by rw[O6,<-r1.length,<-h1.length]);have z2:its'.toArray.size=ys.length:=(by rw[O6,<-r2.length,<-h2.length]);rw[z1,z2,fV]at q;unfold pyEq;exact q
  |lst h r t=>unfold pyEq;exact .tuple_list t1 t hu
 |@lst xs p vs its h1 r1 t1=>cases eO I (eZ pb) hb rv with
  |non=>unfold pyEq;exact .list_none t1 hu
  |bl b=>unfold pyEq;exact .list_bool b t1 hu
  |int i t=>unfold pyEq;exact .list_int i t t1 hu
  |str x t=>unfold pyEq;exact .list_str x t t1 hu
  |tup h r t=>unfold pyEq;exact .list_tuple t1 t hu
  |@lst ys p' vs' its' h2 r2 t2=>
   have z1:its.toArray.size=xs.length:=(by rw[O6,<-r1.length,<-h1.length]);have z2:its'.toArray.size=ys.length:=(by rw[O6,<-r2.length,<-h2.length]);have er:=fV xs ys;by_cases hz:its.toArray.size=its'.toArray.size
   ·have q:=RcNeAt.lists (e:=xk xs ys) t1 t2 hz hu (o8 (A:=A.in1) I (by first|rw[<-cz];exact pa|rw[<-dE];exact pa) (by first|rw[<-cz];exact pb|rw[<-dE];exact pb) hd h1 h2 r1 r2 (by rw[in1_units];omega));rw[z1]at q;have hz':xs.length=ys.length:=(by omega);rw[<-hz',Qe]at er;simp only[beq_self_eq_true,Qf]at er;rw[er]at q;unfold pyEq;exact q
   ·have q:=RcNeAt.lists_lengths (A:=A) t1 t2 (by simpa using hz) hu;have hz':(xs.length==ys.length)=false:=by
     rw[z1,z2]at hz
     simpa using hz
    rw[hz',PD]at er;unfold pyEq;rw[<-er];exact q
end
section
variable{X:Cx}
noncomputable def rD(K:RY)(g:D->D->bF):R2:=λx y H Q=>∃O a b d,dL H O/\cq K (hid H O) a x/\cq K (hid H O) b y/\g a b=some d/\∀v H',aR H H'->cq K (hid H' O) d v->Q v H'
theorem bZ{K:RY}{g:D->D->bF}:cS K (rD K g) g:=λa b d x y O H Q hO hg ha hb q=>⟨O,a,b,d,hO,ha,hb,hg,q⟩
theorem mz{f : S9 -> S9 -> Sem S9}{g : D -> D -> bF}(h : ∀ (pins : bc) (s : Tg) (σ : St) (H : Hp) (a b d : D) (x y : V) (u v : S9), Inv X pins σ H s -> cq X.K H a x -> cq X.K H b y -> RelV x u -> RelV y v -> g a b = some d ->
      ∃c,d=.bl c/\∀(Q:bq),Q (.bool c) s->Tu (model X.prog X.w) X.A (f u v) Q X.xe s):iG X f (rD X.K g):=by
  rintro pins s σ H x y u v Q I rx ry ⟨O,a,b,d,hO,ha,hb,hg,q⟩;obtain⟨c,rfl,hq⟩:=h pins s σ H a b d x y u v I (ha.mono (aq H O)) (hb.mono (aq H O)) rx ry hg;exact hq _ ⟨.bl c,H,I,rfl,q _ H (aR.refl H) (js.mpr rfl)⟩
noncomputable def gx(a b:D):bF:=if(pl a&&pl b)&&(cJ 8 a||cJ 8 b)then some (.bl (pyEq a b))else none
noncomputable def mX(a b:D):bF:=if(pl a&&pl b)&&(cJ 8 a||cJ 8 b)then some (.bl (!pyEq a b))else none
theorem Cu(hu:X.A.units+64<T5):iG X (TR .Eq) (rD X.K gx):=mz λpins s σ H a b d x y u v I ha hb ru rv hg=>by
 obtain⟨h1,h2⟩:=bA hg;subst h2;rw[Pz,Pz,Qg]at h1;exact⟨_,rfl,λQ q=>Jf (n:=7) (A:=X.A) I h1.1.1 h1.1.2 h1.2 ha hb ru rv ‹0› X.prog X.w X.xe Q q⟩
theorem BH(hu:X.A.units+64<T5):iG X (TR .NotEq) (rD X.K mX):=mz λpins s σ H a b d x y u v I ha hb ru rv hg=>by
 obtain⟨h1,h2⟩:=bA hg;subst h2;rw[Pz,Pz,Qg]at h1;exact⟨_,rfl,λQ q=>Bt (n:=7) (A:=X.A) I h1.1.1 h1.1.2 h1.2 ha hb ru rv ‹0› X.prog X.w X.xe Q q⟩
noncomputable def inD(x:D)(ys:List D):Bool:=ys.any λy=>pyEq y x
noncomputable def oR(x y:D):bF:=match y with
 |.tup ys=>if(pl x&&jJ ys)&&cJ 8 x then some (.bl (inD x ys))else none
 |.lst ys=>if(pl x&&jJ ys)&&cJ 8 x then some (.bl (inD x ys))else none
 |_=>none
noncomputable def dH(x y:D):bF:=match y with
 |.tup ys=>if(pl x&&jJ ys)&&cJ 8 x then some (.bl (!inD x ys))else none
 |.lst ys=>if(pl x&&jJ ys)&&cJ 8 x then some (.bl (!inD x ys))else none
 |_=>none
open Classical in
theorem yB{pins:bc}{σ:St}{H:Hp}{s:Tg}(I:Inv X pins σ H s){xd:D}{x:V}{u:S9}{A:Ts}(px:pl xd=true)(hd:cJ 8 xd=true)(hx:cq X.K H xd x)(ru:RelV x u)(hA:A.units+8<T5){ys:List D}{vs:aK}{its:aU}(py:jJ ys=true)(hy:aI X.K H ys vs)(rv:Vals vs its):
  ∃e:S9->Bool,(∀y,y∈its.toArray->EqAt A s y u (e y))/\its.toArray.any e=inD xd ys:=by
 let e:S9->Bool:=λy=>decide (∃d w,pl d=true/\cq X.K H d w/\RelV w y/\pyEq d xd=true)
 have he:∀d w y,pl d=true->cq X.K H d w->RelV w y->e y=pyEq d xd:=λd w y h0 h1 h2=>by
  cases hq:pyEq d xd with
  |true=>exact decide_eq_true ⟨d,w,h0,h1,h2,hq⟩
  |false=>
   refine decide_eq_false ?_;rintro⟨d',w',g0,g1,g2,g3⟩;have ew:=RelV.inj h2 g2;subst ew;rw[Inv.den_inj I h0 g0 h1 g1,g3]at hq;cases hq
 refine⟨e,λy hy'=>?_,?_⟩
 ·have hm:y∈its:=by simpa using hy'
  obtain⟨j,hj,rfl⟩:=Qh hm;obtain⟨w,e1,r1⟩:=mS rv (j:=j) (by simpa using hj);obtain⟨d,f1,g1⟩:=my hy e1;have r1':RelV w its[j]:=by simpa using r1
  have pd:=kB py _ (Pu f1);rw[he d w _ pd g1 r1'];exact Be I 8 d xd w x _ u A pd px (.inr hd) g1 hx r1' ru hA
 ·unfold inD;have go:∀(ys:List D)(vs:aK)(its:aU),jJ ys=true->aI X.K H ys vs->Vals vs its->its.any e=ys.any λy=>pyEq y xd:=by
   intro ys
   induction ys with
   |nil=>
    intro vs its py h r;rw[cw]at h;subst h;cases r;rfl
   |cons y ys ih=>
    intro vs its py h r;unfold jJ at py;rw[Pz]at py;rw[bb]at h;obtain⟨v,r',e1,h1,h2⟩:=h;subst e1;cases r with
    |cons q1 q2=>rw[PJ,PJ,he y v _ py.1 h1 q1,ih _ _ py.2 h2 q2]
  rw[List.any_toArray];exact go ys vs its py hy rv
theorem BU(hu:X.A.units+64<T5):iG X (TR .In) (rD X.K oR):=mz λpins s σ H a b d x y u v I ha hb ru rv hg=>by
 cases b with
 |tup ys=>
  obtain⟨h1,h2⟩:=bA hg;subst h2;rw[Pz,Pz]at h1;rw[bW]at hb;obtain⟨p,vs,e,g1,g2⟩:=hb;subst e;cases rv;obtain⟨its,r,t,_⟩:=I.tuple (nX.of g1);obtain⟨e,he,ea⟩:=yB (A:=X.A.in1) I h1.1.1 h1.2 ha ru (by rw[in1_units];omega) h1.1.2 g2 r;exact⟨_,rfl,λQ q=>SeqAt.in_tupleAt e (show s.heap.IsTuple p its.toArray from t) he (by rw[ea];exact q)⟩
 |lst ys=>
  obtain⟨h1,h2⟩:=bA hg;subst h2;rw[Pz,Pz]at h1;rw[bX]at hb;obtain⟨p,vs,e,g1,g2⟩:=hb;subst e;cases rv;obtain⟨its,r,t,_⟩:=I.list g1;obtain⟨e,he,ea⟩:=yB (A:=X.A.in1) I h1.1.1 h1.2 ha ru (by rw[in1_units];omega) h1.1.2 g2 r;exact⟨_,rfl,λQ q=>SeqAt.in_listAt e t.isList he (by rw[ea];exact q)⟩
 |_=>cases hg
theorem sd(hu:X.A.units+64<T5):iG X (TR .NotIn) (rD X.K dH):=mz λpins s σ H a b d x y u v I ha hb ru rv hg=>by
 cases b with
 |tup ys=>
  obtain⟨h1,h2⟩:=bA hg;subst h2;rw[Pz,Pz]at h1;rw[bW]at hb;obtain⟨p,vs,e,g1,g2⟩:=hb;subst e;cases rv;obtain⟨its,r,t,_⟩:=I.tuple (nX.of g1);obtain⟨e,he,ea⟩:=yB (A:=X.A.in1) I h1.1.1 h1.2 ha ru (by rw[in1_units];omega) h1.1.2 g2 r;exact⟨_,rfl,λQ q=>SeqAt.notIn_tupleAt e (show s.heap.IsTuple p its.toArray from t) he (by rw[ea];exact q)⟩
 |lst ys=>
  obtain⟨h1,h2⟩:=bA hg;subst h2;rw[Pz,Pz]at h1;rw[bX]at hb;obtain⟨p,vs,e,g1,g2⟩:=hb;subst e;cases rv;obtain⟨its,r,t,_⟩:=I.list g1;obtain⟨e,he,ea⟩:=yB (A:=X.A.in1) I h1.1.1 h1.2 ha ru (by rw[in1_units];omega) h1.1.2 g2 r;exact⟨_,rfl,λQ q=>SeqAt.notIn_listAt e t.isList he (by rw[ea];exact q)⟩
 |_=>cases hg
noncomputable def GK(p:Int->Int->D)(a b:D):bF:=match a,b with
 |.int i,.int j=>some (p i j)
 |_,_=>none
noncomputable def Om:=GK λi j=>.bl (decide (i<j))
noncomputable def DU:=GK λi j=>.bl (decide (i<=j))
noncomputable def DR:=GK λi j=>.bl (decide (j<i))
noncomputable def Og:=GK λi j=>.bl (decide (j<=i))
theorem eR{K:RY}{g:Int->Int->Bool}:cS K (AQ λi j=>.bl (g i j)) (GK λi j=>.bl (g i j)):=λa b d x y O H Q hO hg ha hb q=>by
 cases a with
 |int i=>
  cases b with
  |int j=>cases hg;exact⟨i,j,eM.mp ha,eM.mp hb,q _ H (aR.refl H) (js.mpr rfl)⟩
  |_=>cases hg
 |_=>cases hg
theorem qG{K:RY}{g:Int->Int->Int}:cS K (AQ λi j=>.int (g i j)) (GK λi j=>.int (g i j)):=λa b d x y O H Q hO hg ha hb q=>by
 cases a with
 |int i=>
  cases b with
  |int j=>cases hg;exact⟨i,j,eM.mp ha,eM.mp hb,q _ H (aR.refl H) (eM.mpr rfl)⟩
  |_=>cases hg
 |_=>cases hg
noncomputable def Jx(c:Int->Int->Bool)(p:Int->Int->Int)(a b:D):bF:=match a,b with
 |.int i,.int j=>if c i j then some (.int (p i j))else none
 |_,_=>none
theorem iN{K:RY}{C:Int->Int->Prop}{c:Int->Int->Bool}{g:Int->Int->Int}(hc:∀i j,c i j=true->C i j):cS K (rI C λi j=>.int (g i j)) (Jx c g):=λa b d x y O H Q hO hg ha hb q=>by
 cases a with
 |int i=>
  cases b with
  |int j=>
   obtain⟨h1,h2⟩:=bA hg;subst h2;exact⟨i,j,eM.mp ha,eM.mp hb,hc i j h1,q _ H (aR.refl H) (eM.mpr rfl)⟩
  |_=>cases hg
 |_=>cases hg
noncomputable def qP:=GK λi j=>.int (i-j)
noncomputable def lr:=Jx (λi j=>decide ((-(2^64)<i/\i<2^64)\/(-(2^64)<j/\j<2^64))) (·*·)
noncomputable def Gs(_ j:Int):Prop:=0<j/\j<10^200
theorem CI:iG X (TQ .FloorDiv) (rI Gs λi j=>.int (i/j)):=KN λi j _ _ _ _ _ hc q=>by
 have h1:(0:Int)<j:=hc.1;have h2:j<10^200:=hc.2;refine PyProof.Rows.floordiv_int ‹0› (by rw[O5 i ‹0›];exact q) (.inl (PyProof.noPylong_of_log2 ?_));have h3:j.natAbs<10^200:=by omega
 rw[Nat.log2_lt ‹0›];exact PQ h3 (by decide +kernel)
noncomputable def b8:=Jx (λ_ j=>decide (0<j/\j<10^200)) (·/·)
noncomputable def bG:=Jx (λ_ j=>decide (0<j)) (·%·)
noncomputable def iy:=Jx (λi j=>decide (0<=j/\j<=1000000/\i.natAbs<2^64)) λi j=>i^j.toNat
theorem Jl{K:RY}:cS K (AQ λi j=>.int (i-j)) qP:=qG
theorem Bu{K:RY}:cS K (rI G4 λi j=>.int (i*j)) lr:=iN λi j h=>by have q:=of_decide_eq_true h;exact q
theorem G0{K:RY}:cS K (rI Gs λi j=>.int (i/j)) b8:=iN λi j h=>by have q:=of_decide_eq_true h;exact q
theorem HI{K:RY}:cS K (rI (λ_ j=>0<j) λi j=>.int (i%j)) bG:=iN λ_ _ h=>of_decide_eq_true h
theorem Ic{K:RY}:cS K (rI Kh λi j=>.int (i^j.toNat)) iy:=iN λi j h=>by have q:=of_decide_eq_true h;exact q
noncomputable def JB(K:RY):R2:=λx y H Q=>∃l b xs zs,x=.ref l/\y=.ref b/\lT K H l xs/\lT K H b zs/\xs.length+zs.length<=Tn/\∀p,H p=none->Q (.ref p) (upd H p (.lst (xs++zs)))
theorem Gk:iG X (TQ .Add) (JB X.K):=by
 intro pins s σ H x y v u Q I rx ry h;obtain⟨l,b,xs,zs,rfl,rfl,hH,hB,hz,q⟩:=h;cases rx;cases ry;obtain⟨its,r,t1,_⟩:=I.list hH;obtain⟨its2,r2,t2,_⟩:=I.list hB;obtain⟨⟨c1,d1,dt1,sl1⟩,n1,ho,hc,hd,hdt⟩:=t1;obtain⟨⟨c2,d2,dt2,sl2⟩,n2,ho2,hc2,hd2,hdt2⟩:=t2;simp only at hc hd hdt hc2 hd2 hdt2;subst hc hd hdt hc2 hd2 hdt2;have z1:=r.length;have z2:=r2.length;refine Ub ⟨_,ho,rfl⟩ ⟨_,ho2,rfl⟩ noFill_list_add seq_list_add F.slot_list_add F.entry_list_add (F.args_list_add_2 _ _) (PyProof.Rows.list_addW l b its.toArray its2.toArray n1 n2 none none sl1 sl2 (by rw[O6,O6];omega)) ⟨ho,ho2,?_⟩;have ea:its.toArray++its2.toArray=(its++its2).toArray:=by simp
 rw[ea];exact⟨.ref _,_,I.lnew (t':=s.toks) (r.append r2) (by rw[Pw];omega),rfl,q _ I.fresh⟩
noncomputable def Js(K:RY):R2:=λx y H Q=>∃a b xs ys,x=.ref a/\y=.ref b/\nX K H a xs/\nX K H b ys/\xs.length+ys.length<=Tn/\
 (xs=[]->Q (.ref b) H)/\(xs≠[]->ys=[]->Q (.ref a) H)/\(xs≠[]->ys≠[]->∀p,H p=none->Q (.ref p) (upd H p (.tup (xs++ys))))
theorem A2:iG X (TQ .Add) (Js X.K):=by
 intro pins s σ H x y v u Q I rx ry h;obtain⟨a,b,xs,ys,ex,ey,ha,hb,hz,q0,q1,q2⟩:=h;by_cases hx:xs=[]
 ·subst ex ey;cases rx;cases ry;obtain⟨its,r1,p1,_⟩:=I.tuple ha;obtain⟨its2,r2,p2,_⟩:=I.tuple hb;obtain⟨⟨cls,dd,data,sl⟩,ho,hc,n,hd⟩:=id p1;obtain⟨⟨cls2,dd2,data2,sl2⟩,ho2,hc2,n2,hd2⟩:=id p2;simp only at hc hd hc2 hd2;subst hc hd hc2 hd2;have e:its=[]:=r1.nil_iff.mpr hx;exact Ub ⟨_,ho,rfl⟩ ⟨_,ho2,rfl⟩ Uc Ud F.slot_tuple_add F.entry_tuple_add (F.args_tuple_add_2 _ _)
   (PyProof.Rows.tuple_addW0 a b its.toArray its2.toArray n n2 dd dd2 sl sl2 (by rw[e];rfl)) ⟨ho,ho2,⟨.ref b,H,I,rfl,q0 hx⟩⟩
 ·exact Ga pins s σ H x y v u Q I rx ry ⟨a,b,xs,ys,ex,ey,ha,hb,hx,hz,q1 hx,q2 hx⟩
noncomputable def aX(a b:D):bF:=match a,b with
 |.int i,.int j=>some (.int (i+j))
 |.str x,.str y=>if small (x.length+y.length)then some (.str (x++y))else none
 |.lst xs,.lst ys=>if small (xs.length+ys.length)then some (.lst (xs++ys))else none
 |.tup xs,.tup ys=>if small (xs.length+ys.length)then some (.tup (xs++ys))else none
 |_,_=>none
theorem Eo:iG X (TQ .Add) (rD X.K aX):=by
 rintro pins s σ H x y u v Q I rx ry ⟨O,a,b,d,hO,ha,hb,hg,q⟩;cases a with
 |int i=>
  cases b with
  |int j=>
   cases hg;exact Jb pins s σ H x y u v Q I rx ry ⟨i,j,eM.mp ha,eM.mp hb,q _ H (aR.refl H) (eM.mpr rfl)⟩
  |_=>cases hg
 |str i=>
  cases b with
  |str j=>
   obtain⟨h1,h2⟩:=bA hg;subst h2;exact wq pins s σ H x y u v Q I rx ry ⟨i,j,eN.mp ha,eN.mp hb,dN h1,q _ H (aR.refl H) (eN.mpr rfl)⟩
  |_=>cases hg
 |lst xs=>
  cases b with
  |lst ys=>
   obtain⟨h1,h2⟩:=bA hg;subst h2;rw[bX]at ha hb;obtain⟨p,vs,ex,g1,g2⟩:=ha;obtain⟨p',vs',ey,g1',g2'⟩:=hb;refine Gk pins s σ H x y u v Q I rx ry ⟨p,p',vs,vs',ex,ey,(aq H O).seq g1,(aq H O).seq g1',?_,λr hr=>?_⟩
   ·rw[<-g2.length,<-g2'.length];exact dN h1
   ·exact q _ _ (bj hr _) (cN hO hr (g2.append g2'))
  |_=>cases hg
 |tup xs=>
  cases b with
  |tup ys=>
   obtain⟨h1,h2⟩:=bA hg;subst h2;have da:=ha;have db:=hb;rw[bW]at ha hb;obtain⟨p,vs,ex,g1,g2⟩:=ha;obtain⟨p',vs',ey,g1',g2'⟩:=hb;have l1:=g2.length;have l2:=g2'.length;refine A2 pins s σ H x y u v Q I rx ry ⟨p,p',vs,vs',ex,ey,bK (aq H O) g1,bK (aq H O) g1',?_,λz=>?_,λz z'=>?_,λz z' r hr=>?_⟩
   ·rw[<-l1,<-l2];exact dN h1
   ·have e:xs=[]:=List.length_eq_zero_iff.mp (by rw[l1,z];rfl);rw[<-ey];refine q _ H (aR.refl H) ?_;rw[e,Qi];exact db
   ·have e:ys=[]:=List.length_eq_zero_iff.mp (by rw[l2,z'];rfl);rw[<-ex];refine q _ H (aR.refl H) ?_;rw[e,Pj];exact da
   ·exact q _ _ (bj hr _) (dY hO hr (g2.append g2'))
  |_=>cases hg
 |_=>cases hg
noncomputable def ah(a b:D):bF:=match a,b with
 |.tup xs,.int i=>ly xs i
 |.lst xs,.int i=>ly xs i
 |.str x,.int i=>if small x.length then(ly x.cps.toList i).bind λc=>some (.str ⟨#[c]⟩)else none
 |_,_=>none
theorem yL{K:RY}{H:Hp}{ds:List D}{vs:aK}{i:Int}{d:D}(h:aI K H ds vs)(e:ly ds i=some d):∃v,ly vs i=some v/\cq K H d v:=by
 unfold ly at e ⊢;obtain⟨j,e1,e2⟩:=bind_some e;rw[<-h.length,e1];exact h.get e2
theorem LQ:KI X (rD X.K ah):=by
 rintro value slice pins s σ H x y u v Q I rx ry ⟨O,a,b,d,hO,ha,hb,hg,q⟩ hsub;cases a with
 |tup xs=>
  cases b with
  |int i=>
   rw[bW]at ha;obtain⟨p,vs,ex,g1,g2⟩:=ha;obtain⟨w,e1,e2⟩:=yL g2 hg;refine Hh value slice pins s σ H x y u v Q I rx ry ?_ hsub;exact⟨p,vs,i,w,ex,eM.mp hb,bK (aq H O) g1,e1,q w H (aR.refl H) e2⟩
  |_=>cases hg
 |lst xs=>
  cases b with
  |int i=>
   rw[bX]at ha;obtain⟨p,vs,ex,g1,g2⟩:=ha;obtain⟨w,e1,e2⟩:=yL g2 hg;refine yo value slice pins s σ H x y u v Q I rx ry ?_ hsub;exact⟨p,vs,i,w,ex,eM.mp hb,(aq H O).seq g1,e1,q w H (aR.refl H) e2⟩
  |_=>cases hg
 |str z=>
  cases b with
  |int i=>
   have hg':(if small z.length then(ly z.cps.toList i).bind λc=>some (D.str ⟨#[c]⟩)else none)=some d:=hg;cases hs:small z.length with
   |false=>rw[hs]at hg';cases hg'
   |true=>
    rw[hs]at hg';obtain⟨c,e1,e2⟩:=bind_some hg';cases e2;refine HQ value slice pins s σ H x y u v Q I rx ry ?_ hsub;exact⟨z,i,c,eN.mp ha,eM.mp hb,dN hs,e1,q _ H (aR.refl H) (eN.mpr rfl)⟩
  |_=>cases hg
 |_=>cases hg
noncomputable def cutD{α:Type}(xs:List α)(lo hi:dR):List α:=(xs.drop (HT.sIx xs.length 0 lo)).take (HT.sIx xs.length xs.length hi-HT.sIx xs.length 0 lo)
theorem qQ{M:Model}{A:Ts}{E:bq}{s:Tg}{t:Td}{items:eD}{Q:Bool->cQ}(ht:SR s.heap t items)(h:Q true s):Tu M A (Builtin.Tuple.tupleIsExact (.ref t)) Q E s:=by
 unfold Builtin.Tuple.tupleIsExact;refine TH (Uk ht.typeIs ?_);exact TF h
theorem gB{prog:Ti}{w:Th}{A:Ts}{E:bq}{s:Tg}{t sl:Td}{items:eD}{vl vu:S9}{lo hi:dR}{Q:bq}(ht:SR s.heap t items)(hs:s.heap.IsSliceOf sl vl vu .none)(pl:Ue vl lo)(pu:Ue vu hi)
  (hw:HT.sIx items.size 0 lo=0/\HT.sIx items.size items.size hi=items.size) (h:Q (.ref t) s):Tu (model prog w) A (getItem (.ref t) (.ref sl)) Q E s:=by
 obtain⟨os,hos,hcs,hds⟩:=id hs;have hTs:s.TypeIs (.ref sl) "slice":=⟨os,hos,hcs⟩
 unfold getItem
 try with_reducible refine Uh ?_
 first|refine TH (TF ?_)|skip
 refine TH (wpAny_sequenceKey ht.typeIs (by decide) ?_);refine TH (Ui (name:=Str.ofString "__getitem__") ht.typeIs SM
  (Uj SM ht.typeIs PyProof.Rows.entry_tuple_getitem ?_ (PyProof.Rows.args_tuple_getitem _ _)))
 show Tu _ _ (Builtin.Tuple.tupleItemsOf (.ref t) >>= _) _ _ s;refine TH (PyProof.Rows.tupleItemsOf_ ht ?_);refine TH (Uk hTs ?_);rw[if_pos (by decide)];refine TH (HT.nq hs pl pu ?_);have hyes:(((HT.sIx items.size 0 lo:Nat):Int)==0&&(1:Int)==1&&(HT.sIx items.size items.size hi-HT.sIx items.size 0 lo)==items.size)=true:=by
  rw[hw.1,hw.2];simp
 show Tu _ _ (if(((HT.sIx items.size 0 lo:Nat):Int)==0&&(1:Int)==1&&(HT.sIx items.size items.size hi-HT.sIx items.size 0 lo)==items.size)=true then _ else _) _ _ s;rw[if_pos hyes];refine TH (qQ ht ?_);rw[if_pos rfl]
 first
  |exact TH (Uv (TF ⟨_,rfl,TF h⟩))
  |exact TH (Uv (TH (TF (TF ⟨_,rfl,TF h⟩))))
noncomputable def qC(a:D)(lo hi:dR):bF:=match a with
 |.lst xs=>some (.lst (cutD xs lo hi))
 |.tup xs=>some (.tup (cutD xs lo hi))
 |.str x=>if small x.length then some (.str ⟨(cutD x.cps.toList lo hi).toArray⟩)else none
 |_=>none
theorem GN(v:dR)(d n:Nat)(hd:d<=n):(match v with|none=>(d:Int)|some i=>if(1:Int)>0 then max 0 (min (if i<0 then i+(n:Int)else i) (n:Int))else max (-1) (min (if i<0 then i+(n:Int)else i) ((n:Int)-1)))=((HT.sIx n d v:Nat):Int):=by
 cases v with
 |none=>rfl
 |some i=>
  show(if(1:Int)>0 then max 0 (min (if i<0 then i+(n:Int)else i) (n:Int))else max (-1) (min (if i<0 then i+(n:Int)else i) ((n:Int)-1)))=(((if i<0 then(i+(n:Int)).toNat else min i.toNat n):Nat):Int)
  rw[if_pos (by decide)];by_cases h:i<0
  ·rw[if_pos h,if_pos h];omega
  ·rw[if_neg h,if_neg h];omega
theorem AR(lo hi:dR)(n:Nat):Builtin.Str.strSliceIndices lo hi 1 n=(List.range (HT.sIx n n hi-HT.sIx n 0 lo)).map λk=>HT.sIx n 0 lo+k:=by
 have e1:=GN lo 0 n (Ph _);have e2:=GN hi n n (O1 _);have e:Builtin.Str.strSliceIndices lo hi 1 n=sliceRange ((HT.sIx n 0 lo:Nat):Int) ((HT.sIx n n hi:Nat):Int) 1:=by
  rw[<-e1,<-e2];cases lo<;>cases hi<;>rfl
 rw[e];unfold sliceRange;dsimp only;rw[if_pos (by decide:(1:Int)>0)];have e3:(if((HT.sIx n 0 lo:Nat):Int)<((HT.sIx n n hi:Nat):Int)then(((HT.sIx n n hi:Nat):Int)-((HT.sIx n 0 lo:Nat):Int)+1-1)/1 else 0:Int).toNat=HT.sIx n n hi-HT.sIx n 0 lo:=by
  rw[Int.ediv_one];split<;>omega
 rw[e3];refine Qj λk _=>?_;omega
theorem Bg{α:Type}(l:List α)(a:Nat):∀n:Nat,((List.range n).map λk=>a+k).filterMap (λi=>l[i]?)=(l.drop a).take n
 |0=>by simp
 |n+1=>by
  rw[List.range_succ,Qk,List.filterMap_append,Bg l a n,List.take_add_one,List.getElem?_drop];cases e:l[a+n]?<;>simp[e]
theorem AD(x:Str)(lo hi:dR):Txt.slice x lo hi=⟨(cutD x.cps.toList lo hi).toArray⟩:=by
 have hl:x.cps.toList.length=x.length:=by simp[Str.length]
 have pick:(Builtin.Str.strSliceIndices lo hi 1 x.length).filterMap (x.cps[·]?)=cutD x.cps.toList lo hi:=by
  rw[AR];have q:=Bg x.cps.toList (HT.sIx x.length 0 lo) (HT.sIx x.length x.length hi-HT.sIx x.length 0 lo);unfold cutD;rw[hl,<-q];congr 1;funext i;simp
 unfold Txt.slice;split
 ·rename_i h;have h':(Builtin.Str.strSliceIndices lo hi 1 x.length).length=x.length:=by simpa using h
  rw[AR,Pa,Ql]at h';have h1:=HT.Ha x.length x.length (O1 _) hi;have z1:HT.sIx x.length 0 lo=0\/x.length=0:=by omega
  have e:cutD x.cps.toList lo hi=x.cps.toList:=by
   unfold cutD;rw[hl,h'];rcases z1 with z1|z1
   ·rw[z1,P7,<-hl,Qm]
   ·have:x.cps.toList=[]:=List.length_eq_zero_iff.mp (by rw[hl];exact z1)
    rw[this];simp
  rw[e]
 ·rw[pick]
noncomputable def MR(K:RY):V->dR->dR->Hp->VK->Prop:=λx lo hi H Q=>∃O a d,dL H O/\cq K (hid H O) a x/\qC a lo hi=some d/\∀v H',aR H H'->cq K (hid H' O) d v->Q v H'
theorem aI.cut{K:RY}{H:Hp}{ds:List D}{vs:aK}(h:aI K H ds vs)(lo hi:dR):aI K H (cutD ds lo hi) (uI vs lo hi):=by
 unfold cutD uI;rw[h.length];exact(h.drop _).take _
theorem Mv:Lj X (MR X.K):=by
 rintro pins s σ H x v vl vu lo hi sl Q I rx hs pl pu ⟨O,a,d,hO,ha,hg,q⟩;cases a with
 |lst xs=>
  cases hg;rw[bX]at ha;obtain⟨p,vs,ex,g1,g2⟩:=ha;exact D6 pins s σ H x v vl vu lo hi sl Q I rx hs pl pu ⟨p,vs,ex,(aq H O).seq g1,λr hr=>q _ _ (bj hr _) (cN hO hr (g2.cut lo hi))⟩
 |tup xs=>
  cases hg;have da:=ha;rw[bW]at ha;obtain⟨p,vs,ex,g1,g2⟩:=ha;by_cases hw:HT.sIx vs.length 0 lo=0/\HT.sIx vs.length vs.length hi=vs.length
  ·subst ex;cases rx;obtain⟨its,r,ht,hz⟩:=I.tuple (bK (aq H O) g1);have hlen:its.toArray.size=vs.length:=(by rw[O6];exact r.length.symm);refine⟨"tuple",_,PyProof.Rows.slot_tuple_getitem.lookup,ht.typeIs,gB ht hs pl pu (by rw[hlen];exact hw) ⟨.ref p,H,I,rfl,q _ H (aR.refl H) ?_⟩⟩;have e:cutD xs lo hi=xs:=by
    unfold cutD;rw[g2.length,hw.1,hw.2,Qn,P7,<-g2.length,Qm]
   rw[e];exact da
  ·exact IV pins s σ H x v vl vu lo hi sl Q I rx hs pl pu ⟨p,vs,ex,bK (aq H O) g1,hw,λr hr=>q _ _ (bj hr _) (dY hO hr (g2.cut lo hi))⟩
 |str z=>
  obtain⟨h1,h2⟩:=bA hg;subst h2;rw[eN]at ha;subst ha;obtain⟨t,rfl⟩:=rx;have fin:∀t' tk,EP X pins σ Q (.str (Txt.slice z lo hi) t') {s with toks:=tk}:=λt' tk=>by
   rw[AD];exact⟨.str _,H,I.tok _,⟨_,rfl⟩,q _ H (aR.refl H) (eN.mpr rfl)⟩
  obtain⟨os,hos,hcs,hds⟩:=id hs;have hz:=dN h1;refine⟨"str",_,F.slot_str_getitem.lookup,typeIs_str _ _ _,?_⟩;cases pl with
  |none=>
   cases pu with
   |none=>exact Uw (l:=none) (u:=none) (st:=none) ⟨os,hos,hcs,hds⟩ rfl (Ux ⟨OQ (Txt.slice_le z _ _) hz,λt' k=>fin t' k⟩)
   |int j tj=>exact Uw (l:=none) (u:=some (j,tj)) (st:=none) ⟨os,hos,hcs,hds⟩ rfl (Ux ⟨OQ (Txt.slice_le z _ _) hz,λt' k=>fin t' k⟩)
  |int i ti=>
   cases pu with
   |none=>exact Uw (l:=some (i,ti)) (u:=none) (st:=none) ⟨os,hos,hcs,hds⟩ rfl (Ux ⟨OQ (Txt.slice_le z _ _) hz,λt' k=>fin t' k⟩)
   |int j tj=>exact Uw (l:=some (i,ti)) (u:=some (j,tj)) (st:=none) ⟨os,hos,hcs,hds⟩ rfl (Ux ⟨OQ (Txt.slice_le z _ _) hz,λt' k=>fin t' k⟩)
 |_=>cases hg
noncomputable def au:aj->R (dR):=λ_=>.ok none
noncomputable def xO:D->Option (dR)
 |.int i=>some (some i)
 |_=>none
noncomputable def aQ(f:FX):aj->R (dR):=λρ=>(f ρ).bind λd=>rO (xO d)
noncomputable def NU(X:Cx)(F:aj->R dR):TO:=λσ H Q=>∃O ρ,dB X.K O H ρ σ/\gE X σ O H (F ρ) λo=>∀H',aR H H'->Q o H'
noncomputable def FO(X:Cx)(e:Option Te)(F:aj->R dR):Prop:=PO X e (NU X F)
noncomputable def aB(f:FX)(l h:aj->R dR):FX:=λρ=>(f ρ).bind λa=>(l ρ).bind λlo=>(h ρ).bind λhi=>rO (qC a lo hi)
end
end TG
namespace TG
open PySem PySem.Spec L2
variable[aA]
noncomputable def xj(K:RY)(g:List D->bF):aK->Hp->VK->Prop:=λxs H Q=>∃O ds d,dL H O/\aI K (hid H O) ds xs/\g ds=some d/\∀v H',aR H H'->cq K (hid H' O) d v->Q v H'
theorem pT{K:RY}{g:List D->bF}:yg K (xj K g) g:=λds d xs O H Q hO hg hd q=>⟨O,ds,d,hO,hd,hg,q⟩
section
variable{X:Cx}{x:Str}{p pos:Pos}{e:Te}{es:bz}{id T:String}{g:List D->bF}{f:bC}
noncomputable def cW:List D->bF
 |[.lst xs]=>some (.int xs.length)
 |[.tup xs]=>some (.int xs.length)
 |[.str x]=>if small x.length then some (.int x.length)else none
 |_=>none
theorem zr:dS X (.builtin "len") (xj X.K cW):=by
 rintro pins s σ H xs us Q I r ⟨O,ds,d,hO,hd,hg,q⟩;unfold cW at hg;split at hg
 ·rename_i ys;cases hg;obtain⟨v,ev,h1⟩:=hd.one;rw[bX]at h1;obtain⟨p,vs,ep,g1,g2⟩:=h1;exact mw pins s σ H xs us Q I r ⟨p,vs,by rw[ev,ep],.inl ((aq H O).seq g1),q _ H (aR.refl H) (eM.mpr (by rw[g2.length]))⟩
 ·rename_i ys;cases hg;obtain⟨v,ev,h1⟩:=hd.one;rw[bW]at h1;obtain⟨p,vs,ep,g1,g2⟩:=h1;exact mw pins s σ H xs us Q I r ⟨p,vs,by rw[ev,ep],.inr (bK (aq H O) g1),q _ H (aR.refl H) (eM.mpr (by rw[g2.length]))⟩
 ·rename_i z;obtain⟨h1,h2⟩:=bA hg;subst h2;obtain⟨v,ev,h1'⟩:=hd.one;exact ur pins s σ H xs us Q I r ⟨z,by rw[ev,eN.mp h1'],dN h1,q _ H (aR.refl H) (eM.mpr rfl)⟩
 ·cases hg
noncomputable def bJ:List D->bF
 |[.lst xs]=>some (.tup xs)
 |[.tup xs]=>some (.tup xs)
 |_=>none
theorem uP:dS X (.type "tuple") (xj X.K bJ):=by
 rintro pins s σ H xs us Q I r ⟨O,ds,d,hO,hd,hg,q⟩;unfold bJ at hg;split at hg
 ·rename_i ys;cases hg;obtain⟨v,ev,h1⟩:=hd.one;rw[bX]at h1;obtain⟨p,vs,ep,g1,g2⟩:=h1;exact lE pins s σ H xs us Q I r ⟨p,vs,by rw[ev,ep],.inl ⟨(aq H O).seq g1,λl hl=>q _ _ (bj hl _) (dY hO hl g2)⟩⟩
 ·rename_i ys;cases hg;obtain⟨v,ev,h1⟩:=hd.one;have h0:=h1;rw[bW]at h1;obtain⟨p,vs,ep,g1,g2⟩:=h1;rw[ep]at h0;exact lE pins s σ H xs us Q I r ⟨p,vs,by rw[ev,ep],.inr ⟨bK (aq H O) g1,q _ H (aR.refl H) h0⟩⟩
 ·cases hg
noncomputable def lu:List D->bF
 |[.lst xs]=>some (.lst xs)
 |[.tup xs]=>some (.lst xs)
 |_=>none
theorem xF:dS X (.type "list") (xj X.K lu):=by
 rintro pins s σ H xs us Q I r ⟨O,ds,d,hO,hd,hg,q⟩;unfold lu at hg;split at hg
 ·rename_i ys;cases hg;obtain⟨v,ev,h1⟩:=hd.one;rw[bX]at h1;obtain⟨p,vs,ep,g1,g2⟩:=h1;exact jr pins s σ H xs us Q I r ⟨p,vs,by rw[ev,ep],.inl ((aq H O).seq g1),λl hl=>q _ _ (bj hl _) (cN hO hl g2)⟩
 ·rename_i ys;cases hg;obtain⟨v,ev,h1⟩:=hd.one;rw[bW]at h1;obtain⟨p,vs,ep,g1,g2⟩:=h1;exact jr pins s σ H xs us Q I r ⟨p,vs,by rw[ev,ep],.inr (bK (aq H O) g1),λl hl=>q _ _ (bj hl _) (cN hO hl g2)⟩
 ·cases hg
noncomputable def jE:List D->bF
 |[.int i,.int j]=>some (.int (if j>i then j else i))
 |_=>none
noncomputable def gZ:List D->bF
 |[.int i,.int j]=>some (.int (if j<i then j else i))
 |_=>none
noncomputable def v6:List D->bF
 |[.int i]=>some (.int i)
 |[.bl k]=>some (.int (if k then 1 else 0))
 |_=>none
theorem wU(hc:X.calm=true):dS X (.builtin "max") (xj X.K jE):=by
 rintro pins s σ H xs us Q I r ⟨O,ds,d,hO,hd,hg,q⟩;unfold jE at hg;split at hg
 ·rename_i i j;cases hg;obtain⟨v,w,ev,h1,h2⟩:=hd.two;exact AF hc pins s σ H xs us Q I r ⟨i,j,by rw[ev,eM.mp h1,eM.mp h2],q _ H (aR.refl H) (eM.mpr rfl)⟩
 ·cases hg
theorem xD(hc:X.calm=true):dS X (.builtin "min") (xj X.K gZ):=by
 rintro pins s σ H xs us Q I r ⟨O,ds,d,hO,hd,hg,q⟩;unfold gZ at hg;split at hg
 ·rename_i i j;cases hg;obtain⟨v,w,ev,h1,h2⟩:=hd.two;exact zv hc pins s σ H xs us Q I r ⟨i,j,by rw[ev,eM.mp h1,eM.mp h2],q _ H (aR.refl H) (eM.mpr rfl)⟩
 ·cases hg
theorem xA:dS X (.type "int") (xj X.K v6):=by
 rintro pins s σ H xs us Q I r ⟨O,ds,d,hO,hd,hg,q⟩;unfold v6 at hg;split at hg
 ·rename_i i;cases hg;obtain⟨v,ev,h1⟩:=hd.one;exact sf pins s σ H xs us Q I r (.inl ⟨i,by rw[ev,eM.mp h1],q _ H (aR.refl H) (eM.mpr rfl)⟩)
 ·rename_i k;cases hg;obtain⟨v,ev,h1⟩:=hd.one;exact sf pins s σ H xs us Q I r (.inr ⟨k,by rw[ev,js.mp h1],q _ H (aR.refl H) (eM.mpr rfl)⟩)
 ·cases hg
noncomputable def Ik:D->String
 |.non=>"NoneType"
 |.bl _=>"bool"
 |.int _=>"int"
 |.str _=>"str"
 |.tup _=>"tuple"
 |.lst _=>"list"
 |.dct _ _=>"dict"
 |_=>""
noncomputable def Eu(T:String)(d:D):Bool:=match d with
 |.bl _=>T=="bool"||T=="int"
 |.non=>T=="NoneType"
 |.int _=>T=="int"
 |.str _=>T=="str"
 |.tup _=>T=="tuple"
 |.lst _=>T=="list"
 |.dct _ _=>T=="dict"
 |_=>false
noncomputable def wJ(K:RY)(T:String):Prop:=∀d:D,top d=true->Sl K (.type (Ik d)) (.type T)=some (Eu T d)
noncomputable def M6(K:RY)(T:String):aK->Hp->VK->Prop:=λxs H Q=>∃O x d,xs=[x,.ty T]/\top d=true/\cq K (hid H O) d x/\Q (.bl (Eu T d)) H
theorem C7(ok:wJ X.K T):dS X (.builtin "isinstance") (M6 X.K T):=by
 rintro pins s σ H xs us Q I r ⟨O,x,d,ex,td,hd,q⟩;subst ex;obtain⟨u,w',rfl,rx,rt⟩:=vals2 r;cases rt;have e:=ok d td;have fin:∀tk,EP X pins σ Q (.bool (Eu T d)) {s with toks:=tk}:=λtk=>⟨.bl _,H,I.tok _,rfl,q⟩
 cases eO I td (hd.mono (aq H O)) rx with
 |non=>exact Sn PySem.W.kitx_none I.kIn True.intro e (λz=>nomatch z) fin
 |bl b=>exact Sn PySem.W.kitx_bool I.kIn True.intro e (λz=>nomatch z) fin
 |int i t=>exact Sn PySem.W.kitx_int I.kIn True.intro e (λz=>nomatch z) fin
 |str y t=>exact Sn PySem.W.kitx_str I.kIn True.intro e (λz=>nomatch z) fin
 |tup h rv t=>
  obtain⟨o,h1,h2,_⟩:=t;exact Sn PySem.W.kitx_tuple I.kIn ⟨o,h1,h2⟩ e (λz=>nomatch z) fin
 |lst h rv t=>
  obtain⟨o,h1,h2,_⟩:=t;exact Sn PySem.W.kitx_list I.kIn ⟨o,h1,h2⟩ e (λz=>nomatch z) fin
theorem AY:Tr "isinstance"=some (.builtin "isinstance"):=by first|rfl|decide +kernel
noncomputable def jv(T:String)(d:D):bF:=if top d then some (.bl (Eu T d))else none
noncomputable def iD(T:String)(f:FX):FX:=f1 (jv T) f
end
section
variable{X:Cx}{a:Te}{f:FX}{pos:Pos}
noncomputable def isNon:D->Bool
 |.non=>true
 |_=>false
noncomputable def Mo(d:D):bF:=some (.bl (isNon d))
noncomputable def K2(d:D):bF:=some (.bl (!isNon d))
noncomputable def MX(f:FX):FX:=f1 Mo f
noncomputable def Ko(f:FX):FX:=f1 K2 f
end
noncomputable def Walk(K:RY)(Hd:Hp)(J:It)(ds:List D):Prop:=
 ∀(Hn:Hp)(O':ax)(i:Nat),dL Hn O'->aR Hd (hid Hn O')->(∀d,ds[i]?=some d->J.go i Hn/\∀x H2,J.yld i Hn x H2->aR Hn H2/\cq K (hid H2 O') d x)/\(i=ds.length->J.stop i Hn)
noncomputable def L7(X:Cx)(G:bC):TI:=λσ H RR=>∃O ρ,dB X.K O H ρ σ/\gE X σ O H (G ρ) λds=>∀J H1,aR H H1->Walk X.K (hid H1 O) J ds->RR J H1
noncomputable def FI(X:Cx)(tg iter:Te)(G:bC):Prop:=PI X tg iter (L7 X G)
noncomputable def qL:D->Option (List D)
 |.lst xs=>some xs
 |.tup xs=>some xs
 |_=>none
noncomputable def az(f:FX):bC:=λρ=>(f ρ).bind λd=>rO (qL d)
section
variable{X:Cx}{tg:Te}
theorem zM{K:RY}{Hd:Hp}{a:Td}{ds:List D}{vs:aK}(h:lT K Hd a vs)(g:aI K Hd ds vs):Walk K Hd (M9 K a) ds:=λHn O' i hO s=>
  have s':aR Hd Hn:=s.trans (aq Hn O')
  ⟨fun d e=>by
    obtain⟨v,ev,dv⟩:=g.get e;refine⟨⟨vs,v,s'.seq h,ev⟩,λx H2 ⟨e2,y⟩=>?_⟩;have q:=y vs (s'.seq h);rw[ev]at q;cases q;subst e2;exact⟨aR.refl _,dv.mono s⟩,
   λhl=>⟨vs,s'.seq h,by rw[<-g.length];exact Pb hl.symm⟩⟩
theorem CC{K:RY}{Hd:Hp}{a:Td}{ds:List D}{vs:aK}(h:Hd a=some (.tup vs))(g:aI K Hd ds vs):Walk K Hd (ML K a) ds:=λHn O' i hO s=>
  have s':aR Hd Hn:=s.trans (aq Hn O')
  ⟨fun d e=>by
    obtain⟨v,ev,dv⟩:=g.get e;refine⟨⟨vs,v,bK s' h,ev⟩,λx H2 ⟨e2,y⟩=>?_⟩;have q:=y vs (bK s' h);rw[ev]at q;cases q;subst e2;exact⟨aR.refl _,dv.mono s⟩,
   λhl=>⟨vs,bK s' h,by rw[<-g.length];exact Pb hl.symm⟩⟩
noncomputable def dD(lo:Int)(n:Nat):List D:=(List.range n).map λ(k:Nat)=>D.int (lo+(k:Int))
theorem qT(lo:Int)(n:Nat):(dD lo n).length=n:=by unfold dD;rw[Pa,Ql]
theorem qM{K:RY}{Hd:Hp}(lo:Int)(n:Nat):Walk K Hd (KZ lo n) (dD lo n):=λHn O' i hO s=>
  ⟨fun d e=>by
    unfold dD at e;rw[Pr]at e;cases hi:(List.range n)[i]? with
    |none=>rw[hi]at e;cases e
    |some k=>
      rw[hi]at e;cases e;have hlt:i<n:=by
        have:=(List.getElem?_eq_some_iff.mp hi).1
        rwa [Ql]at this
      have ek:k=i:=by
        rw[Qo hlt]at hi;exact(Option.some.inj hi).symm
      subst ek;exact⟨hlt,λx H2 ⟨e1,e2⟩=>by subst e1;exact⟨aR.refl _,eM.mpr e2⟩⟩,
   λhl=>by rw[qT]at hl;exact Pb hl.symm⟩
noncomputable def okR(j:Int):Bool:=decide (-(2^62)<=j/\j<2^62)
noncomputable def jm:List D->Option (List D)
 |[.int j]=>if okR j then some (dD 0 j.toNat)else none
 |_=>none
noncomputable def mM:List D->Option (List D)
 |[.int i,.int j]=>if okR i&&okR j then some (dD i (j-i).toNat)else none
 |_=>none
noncomputable def eI(f:bC):bC:=λρ=>(f ρ).bind λds=>rO (jm ds)
noncomputable def mR(f:bC):bC:=λρ=>(f ρ).bind λds=>rO (mM ds)
end
noncomputable abbrev GF:=D->aj->Option aj
noncomputable def Lb(K:RY)(g:GF):TG:=λv σ H Q=>∃O ρ d ρ',dB K O H ρ σ/\cq K (hid H O) d v/\g d ρ=some ρ'/\∀σ',dB K O H ρ' σ'->(∀(i:Nat) x,ρ'[i]?=some (some x)->(∀d,x≠.val d)->σ'[i]?=σ[i]?/\ρ[i]?=some (some x))->Q σ' H
noncomputable def FG(X:Cx)(tg:Te)(g:GF):Prop:=PG X tg (Lb X.K g)
noncomputable def setV(i:Nat)(d:D)(ρ:aj):aj:=ρ.set i (some (.val d))
theorem aH{α:Type}{l:List α}{i j:Nat}{a b:α}(h:(l.set i a)[j]?=some b):(j=i/\b=a)\/(j≠i/\l[j]?=some b):=by
 by_cases e:j=i
 ·subst e;left;have hj:j<(l.set j a).length:=(List.getElem?_eq_some_iff.mp h).1;rw[List.length_set]at hj;rw[OX hj]at h;exact⟨rfl,(Option.some.inj h).symm⟩
 ·right;rw[OY (Ne.symm e)]at h;exact⟨e,h⟩
theorem dB.setV{K:RY}{O:ax}{H:Hp}{ρ:aj}{σ:St}(E:dB K O H ρ σ){i:Nat}{d:D}{v:V}(hi:i<σ.length)(hd:cq K (hid H O) d v):dB K O H (setV i d ρ) (σ.set i (some v)):=
  ⟨fun j d' e=>by
    rcases aH e with⟨hj,eq⟩|⟨ne,eq⟩
    ·cases eq;rw[hj];exact⟨v,OX hi,hd⟩
    · obtain⟨w,e1,e2⟩:=E.val j d' eq
      exact⟨w,by rw[OY (Ne.symm ne)];exact e1,e2⟩,
   λj xs e=>by
    rcases aH e with⟨_,eq⟩|⟨ne,eq⟩
    ·cases eq
    · obtain⟨a,e1,e2⟩:=E.own j xs eq
      exact⟨a,by rw[OY (Ne.symm ne)];exact e1,e2⟩,
   λj k xs ys a e1 e2 e3 e4=>by
    rcases aH e1 with⟨_,q1⟩|⟨ne1,q1⟩
    ·cases q1
    · rcases aH e2 with⟨_,q2⟩|⟨ne2,q2⟩
      ·cases q2
      · rw[OY (Ne.symm ne1)]at e3
        rw[OY (Ne.symm ne2)]at e4;exact E.one j k xs ys a q1 q2 e3 e4,E.all⟩
section
variable{X:Cx}{pos:Pos}
noncomputable def gN(i:Nat):GF:=λd ρ=>some (setV i d ρ)
noncomputable abbrev DS:=List D->aj->Option aj
noncomputable def L4(K:RY)(g:DS):GB:=λvs σ H Q=>∃O ρ ds ρ',dB K O H ρ σ/\aI K (hid H O) ds vs/\g ds ρ=some ρ'/\∀σ',dB K O H ρ' σ'->(∀(i:Nat) x,ρ'[i]?=some (some x)->(∀d,x≠.val d)->σ'[i]?=σ[i]?/\ρ[i]?=some (some x))->Q σ' H
noncomputable def ND(X:Cx)(ts:bz)(g:DS):Prop:=J1 X ts (L4 X.K g)
noncomputable def Gx:DS:=λds ρ=>match ds with
 |[]=>some ρ
 |_=>none
noncomputable def CW(g:GF)(h:DS):DS:=λds ρ=>match ds with
 |d::r=>(g d ρ).bind λρ1=>h r ρ1
 |_=>none
noncomputable def gT(n:Nat)(g:DS):GF:=λd ρ=>match d with
 |.tup xs=>if xs.length=n then g xs ρ else none
 |_=>none
end
noncomputable def wc{α:Type}(r:R α):R α:=match r with
 |.ok a=>.ok a
 |.error _=>un
theorem DK{α:Type}{r:R α}{a:α}(h:wc r=.ok a):r=.ok a:=by
 cases r with
 |ok b=>exact h
 |error z=>cases h
noncomputable def inB(ix:gA)(ρ:aj):aj:=ix.map λo=>match o with
 |some i=>match ρ[i]? with
  |some (some (.val d))=>some (.val d)
  |_=>none
 |none=>none
noncomputable def AK(ρ:aj)(g:GF)(C:bS)(Fe:FX):List D->R (List D)
 |[]=>.ok []
 |d::ds=>(rO (g d ρ)).bind λρ1=>(wc (C ρ1)).bind λc=>if c then(wc (Fe ρ1)).bind λv=>(AK ρ g C Fe ds).bind λr=>.ok (v::r)else AK ρ g C Fe ds
theorem lU(ρ:aj)(g:GF)(C:bS)(Fe:FX)(d:D)(ds:List D):AK ρ g C Fe (d::ds)=(rO (g d ρ)).bind λρ1=>(wc (C ρ1)).bind λc=>if c then(wc (Fe ρ1)).bind λv=>(AK ρ g C Fe ds).bind λr=>.ok (v::r)else AK ρ g C Fe ds:=rfl
noncomputable def du(ix:gA)(G:bC)(g:GF)(C:bS)(Fe:FX):FX:=λρ=>(G ρ).bind λds=>if small ds.length then wc ((AK (inB ix ρ) g C Fe ds).bind λr=>.ok (.lst r))else un
noncomputable def Nx(X:Cx)(ifs:bz)(F:bS):Prop:=Hi X ifs (K8 X F)
noncomputable def bx:bS:=λ_=>.ok true
theorem mB{ix:gA}{ρ:aj}{j:Nat}{x:S}(e:(inB ix ρ)[j]?=some (some x)):∃i d,ix[j]?=some (some i)/\ρ[i]?=some (some (.val d))/\x=.val d:=by
 unfold inB at e;rw[Pr]at e;cases q:ix[j]? with
 |none=>rw[q]at e;cases e
 |some o=>
  rw[q]at e;cases o with
  |none=>cases e
  |some i=>
   have e':(match ρ[i]? with|some (some (.val d))=>some (S.val d)|_=>none)=some x:=Option.some.inj e;split at e'
   ·rename_i d hd;cases e';exact⟨i,d,rfl,hd,rfl⟩
   ·cases e'
theorem DW{K:RY}{O:ax}{H:Hp}{ρ:aj}{σ:St}(ix:gA)(E:dB K O H ρ σ):dB K O H (inB ix ρ) (inBlock ix σ):=by
 refine⟨λj d e=>?_,λj xs e=>?_,λj k xs ys a e=>?_,E.all⟩
 ·obtain⟨i,d',q1,q2,q3⟩:=mB e;cases q3;obtain⟨v,e1,e2⟩:=E.val i d q2;refine⟨v,?_,e2⟩;unfold inBlock;rw[Pr,q1];show some ((σ[i]?).getD none)=some (some v);rw[e1];rfl
 ·obtain⟨_,_,_,_,q3⟩:=mB e;cases q3
 ·obtain⟨_,_,_,_,q3⟩:=mB e;cases q3
theorem mj{H:Hp}{O:ax}{p:Td}{o:HO}(hp:H p=none):aR (hid H O) (hid (upd H p o) (p::O)):=λb u h=>by
 unfold hid at h ⊢;by_cases hb:b∈O
 ·rw[if_pos hb]at h;cases h
 ·rw[if_neg hb]at h;have ne:=aD h hp;rw[if_neg (by intro z;rcases List.mem_cons.mp z with z|z;exact ne z;exact hb z),ao ne];exact h
theorem dB.hideNew{K:RY}{O:ax}{H:Hp}{ρ:aj}{σ:St}{p:Td}{o:HO}(m:oV o)(E:dB K O H ρ σ)(hp:H p=none):dB K (p::O) (upd H p o) ρ σ:=by
 have s:aR (hid H O) (hid (upd H p o) (p::O)):=mj hp;refine⟨λi d e=>let ⟨v,a,b⟩:=E.val i d e;⟨v,a,b.mono s⟩,λi xs e=>?_,E.one,(E.all.same (bj hp o)).cons av m⟩;obtain⟨a,e1,e2,e3⟩:=E.own i xs e;obtain⟨u,hu⟩:=e3.some;exact⟨a,e1,OV _ e2,e3.mono (by rw[ao (aD hu hp)]) s⟩
theorem dB.rewrite{K:RY}{O:ax}{H:Hp}{ρ:aj}{σ:St}{p:Td}{o:HO}(m:oV o)(E:dB K O H ρ σ)(hp:p∈O)(hs:∀(i:Nat) xs,ρ[i]?=some (some (.own xs))->σ[i]?≠some (some (.ref p))):dB K O (upd H p o) ρ σ:=by
 have s:aR (hid H O) (hid (upd H p o) O):=eL hp;refine⟨λi d e=>let ⟨v,a,b⟩:=E.val i d e;⟨v,a,b.mono s⟩,λi xs e=>?_,E.one,E.all.upd hp m⟩;obtain⟨a,e1,e2,e3⟩:=E.own i xs e;have ne:a≠p:=λz=>hs i xs e (by rw[<-z];exact e1);exact⟨a,e1,e2,e3.mono (by rw[ao ne]) s⟩
theorem dB.forget{K:RY}{O:ax}{H:Hp}{ρ ρ':aj}{σ:St}(E:dB K O H ρ σ)(h:∀(i:Nat) x,ρ'[i]?=some (some x)->ρ[i]?=some (some x)):dB K O H ρ' σ:=
 ⟨λi d e=>E.val i d (h i _ e),λi xs e=>E.own i xs (h i _ e),λi j xs ys a e1 e2=>E.one i j xs ys a (h i _ e1) (h j _ e2),E.all⟩
noncomputable def Fills(ρ:aj)(g:GF):Prop:=∀d ρ1,g d ρ=some ρ1->∀(i:Nat) x,ρ[i]?=some (some x)->ρ1[i]?=some (some x)
theorem sN(ix:gA)(ρ:aj):∀(i:Nat) xs,(inB ix ρ)[i]?≠some (some (.own xs)):=by
 intro j xs e;obtain⟨_,_,_,_,q3⟩:=mB e;cases q3
theorem JN{α:Type}{o:Option α}{a:α}(h:rO o=.ok a):o=some a:=by
 cases o with
 |none=>cases h
 |some b=>cases h;rfl
end TG
namespace TG
open PySem PySem.Spec L2
variable[aA]
section
variable{X:Cx}{elt tg iter:Te}{ifs:bz}{scope:Tt}{pos:Pos}{N:ay}{ix:gA}{G:bC}{g:GF}{C:bS}{Fe:FX}
structure oW(ix:gA)(g:GF):Prop where
 fill:∀ρ,Fills (inB ix ρ) g
 own:∀ρ d ρ1,g d (inB ix ρ)=some ρ1->∀(i:Nat) xs,ρ1[i]?≠some (some (.own xs))
theorem vN{ρ:aj}{i:Nat}(h:ix[i]?=some none):∀x,(inB ix ρ)[i]?≠some (some x):=λx e=>by
 obtain⟨_,_,q,_⟩:=mB e;rw[h]at q;cases q
theorem kH{i:Nat}(h:ix[i]?=some none):oW ix (gN i):=
  ⟨fun ρ d ρ1 e j x q=>by
    cases e;by_cases z:j=i
    ·subst z;exact absurd q (vN h x)
    ·unfold setV;rw[OY (Ne.symm z)];exact q,
   λρ d ρ1 e j xs q=>by
    cases e;rcases aH q with⟨_,z⟩|⟨_,z⟩
    ·cases z
    ·exact sN ix ρ j xs z⟩
noncomputable def Fa(ix:gA)(is:List Nat):Bool:=is.all λi=>match ix[i]? with
 |some none=>true
 |_=>false
noncomputable def jL:List Nat->DS
 |[]=>Gx
 |i::is=>CW (gN i) (jL is)
theorem xW:∀(is:List Nat)(ds:List D)(ρ ρ1:aj),jL is ds ρ=some ρ1->∀(k:Nat)(x:S),ρ1[k]?=some (some x)->(k∈is/\∃d,x=.val d)\/ρ[k]?=some (some x)
 |[],ds,ρ,ρ1,h,k,x,e=>by
  cases ds with
  |nil=>cases h;exact .inr e
  |cons _ _=>cases h
 |i::is,ds,ρ,ρ1,h,k,x,e=>by
  cases ds with
  |nil=>cases h
  |cons d ds=>
   rcases xW is ds (setV i d ρ) ρ1 h k x e with⟨a,b⟩|q
   ·exact .inl ⟨OV _ a,b⟩
   ·rcases aH q with⟨z,w⟩|⟨_,w⟩
    ·exact .inl ⟨by rw[z];exact OU,d,Option.some.inj w⟩
    ·exact .inr w
theorem uJ:∀(is:List Nat)(ds:List D)(ρ ρ1:aj),jL is ds ρ=some ρ1->∀(k:Nat)(x:S),k∉is->ρ[k]?=some (some x)->ρ1[k]?=some (some x)
 |[],ds,ρ,ρ1,h,k,x,_,e=>by
  cases ds with
  |nil=>cases h;exact e
  |cons _ _=>cases h
 |i::is,ds,ρ,ρ1,h,k,x,n,e=>by
  cases ds with
  |nil=>cases h
  |cons d ds=>
   refine uJ is ds (setV i d ρ) ρ1 h k x (λz=>n (OV _ z)) ?_;unfold setV;rw[OY (λz=>n (by rw[z];exact OU))];exact e
theorem jx{is:List Nat}{n:Nat}(h:Fa ix is=true):oW ix (gT n (jL is)):=by
 have hn:∀i∈is,ix[i]?=some none:=λi hi=>by
  have:=List.all_eq_true.mp h i hi
  cases e:ix[i]? with
  |none=>rw[e]at this;cases this
  |some o=>cases o with
   |none=>rfl
   |some _=>rw[e]at this;cases this
 have shape:∀ρ d ρ1,gT n (jL is) d ρ=some ρ1->∃ds,jL is ds ρ=some ρ1:=λρ d ρ1 e=>by
  cases d with
  |tup xs=>
   have e':(if xs.length=n then jL is xs ρ else none)=some ρ1:=e;by_cases hl:xs.length=n
   ·rw[if_pos hl]at e';exact⟨xs,e'⟩
   ·rw[if_neg hl]at e';cases e'
  |_=>cases e
 refine⟨λρ d ρ1 e k x q=>?_,λρ d ρ1 e k xs q=>?_⟩
 ·obtain⟨ds,e⟩:=shape _ d ρ1 e;exact uJ is ds _ ρ1 e k x (λz=>vN (hn k z) x q) q
 ·obtain⟨ds,e⟩:=shape _ d ρ1 e;rcases xW is ds _ ρ1 e k _ q with⟨_,d,z⟩|z
  ·cases z
  ·exact sN ix ρ k xs z
structure mr(X:Cx)(scope:Tt)(N:ay)(ix:gA):Prop where
 cell:∀y∈scope.names,y.2≠.cell
 kind:scope.kind=.function
 names:∀y∈scope.names,y.2=.local->scope.names.lookup y.1=some .local
 free:∀y∈scope.names,y.2=.free->X.env.scope.names.lookup y.1=some .cell\/X.env.scope.names.lookup y.1=some .free
 ix:uf X.N N scope.names ix=true
noncomputable def kj(XS:qu)(XN:ay)(scope:Tt)(N:ay)(ix:gA):Bool:=
 scope.names.all (λy=>decide (y.2≠.cell))&&decide (scope.kind=.function)&&scope.names.all (λy=>decide (y.2≠.local)||decide (scope.names.lookup y.1=some .local)) &&
  scope.names.all (λy=>decide (y.2≠.free)||(decide (XS.lookup y.1=some .cell)||decide (XS.lookup y.1=some .free)))&&uf XN N scope.names ix
theorem mr.of(h:kj X.env.scope.names X.N scope N ix=true):mr X scope N ix:=by
 unfold kj at h;simp only[Pz]at h;obtain⟨⟨⟨⟨h1,h2⟩,h3⟩,h4⟩,h5⟩:=h;refine⟨λy hy=>of_decide_eq_true (List.all_eq_true.mp h1 y hy),of_decide_eq_true h2,λy hy e=>?_,λy hy e=>?_,h5⟩
 ·rcases Qg _ _ ▸ List.all_eq_true.mp h3 y hy with q|q
  ·exact absurd e (of_decide_eq_true q)
  ·exact of_decide_eq_true q
 ·rcases Qg _ _ ▸ List.all_eq_true.mp h4 y hy with q|q
  ·exact absurd e (of_decide_eq_true q)
  ·rcases Qg _ _ ▸ q with q|q
   ·exact .inl (of_decide_eq_true q)
   ·exact .inr (of_decide_eq_true q)
noncomputable def Np(X:Cx)(scope:Tt)(N:ay)(tg elt:Te)(ifs:bz)(g:GF)(C:bS)(Fe:FX):Prop:=
 ∀cl C' fp s H E,FG (ce X scope N cl C' fp s H E) tg g/\Nx (ce X scope N cl C' fp s H E) ifs C/\FE (ce X scope N cl C' fp s H E) elt Fe
noncomputable def Io(K:RY)(F:bS):TT:=λσ H Q=>∃O ρ b,dB K O H ρ σ/\F ρ=.ok b/\∀H',aR H H'->Q b H'
noncomputable def Nk(K:RY)(F:FX):TE:=λσ H Q=>∃O ρ d,dB K O H ρ σ/\F ρ=.ok d/\∀v H',aR H H'->cq K (hid H' O) d v->Q v H'
theorem Np.k(hb:Np X scope N tg elt ifs g C Fe):∀cl C' fp s H E,PG (ce X scope N cl C' fp s H E) tg (Lb X.K g)/\Hi (ce X scope N cl C' fp s H E) ifs (Io X.K C)/\PE (ce X scope N cl C' fp s H E) elt (Nk X.K Fe):=λcl C' fp s H E=>by
 obtain⟨h1,h2,h3⟩:=hb cl C' fp s H E;refine⟨h1,λpins s σ H Q I ⟨O,ρ,b,e1,e2,q⟩=>h2 pins s σ H Q I ⟨O,ρ,e1,by rw[e2];exact q⟩,λpins s σ H Q I ⟨O,ρ,d,e1,e2,q⟩=>h3 pins s σ H Q I ⟨O,ρ,e1,by rw[e2];exact q⟩⟩
noncomputable def M0(X:Cx)(F:FX):TE:=λσ H Q=>∃O ρ,dB X.K O H ρ σ/\gE X σ O H (F ρ) λd=>∀D H' total acc,d=.lst total->aR H H'->H D=none->H' D=some (.lst acc)->aI X.K (hid H' (D::O)) total acc->Q (.ref D) H'
theorem LO{F:FX}:∀σ H Q,tF X F σ H Q->M0 X F σ H Q:=λσ H Q ⟨O,ρ,E,hF⟩=>⟨O,ρ,E,hF.imp λd q D H' total acc e sm hD hD' dn=>by
 subst e;have DO:D∉O:=E.all.not hD;exact q _ H' sm (bX.mpr ⟨D,acc,rfl,lT.of (by rw[gh DO];exact hD'),dn.mono (fg λa ha=>OV _ ha)⟩)⟩
theorem C2(tk:oW ix g):∀σ H Q,M0 X (du ix G g C Fe) σ H Q->K9 (L7 X G) (Lb X.K g) (Io X.K C) (Nk X.K Fe) ix σ H Q:=λσ H Q ⟨O,ρ,E,hF⟩=>by
 refine⟨O,ρ,E,(gE.bind hF).imp λds hF=>?_⟩;have hz:small ds.length=true:=by
  cases e:small ds.length with
  |true=>rfl
  |false=>rw[e]at hF;exact hF.elim
 rw[hz,if_pos rfl]at hF;cases hL:AK (inB ix ρ) g C Fe ds with
 |error z=>rw[hL]at hF;exact hF.elim
 |ok total=>
 rw[hL]at hF;have q:∀D H' total' acc,TG.D.lst total=.lst total'->aR H H'->H D=none->H' D=some (.lst acc)->aI X.K (hid H' (D::O)) total' acc->Q (.ref D) H':=hF;have e2:=hL;have hfill:=tk.fill;have hown:=tk.own;refine λJ H1 s1 wk D hD=>?_;have E1:dB X.K (D::O) (upd H1 D (.lst [])) (inB ix ρ) (inBlock ix σ):=((DW ix E).same s1).hideNew trivial hD;have DO:D∉O:=(E.all.same s1).not hD;refine⟨λi m σ' H'=>m=ds.length-i/\i<=ds.length/\aR H1 H'/\dB X.K (D::O) H' (inB ix ρ) σ'/\∃acc dn rest,H' D=some (.lst acc)/\acc.length<=i/\aI X.K (hid H' (D::O)) dn acc/\AK (inB ix ρ) g C Fe (ds.drop i)=.ok rest/\dn++rest=total,
  ⟨ds.length,by rw[Qn],Ph _,bj hD _,E1,[],[],total,av,O1 _,cw.mpr rfl,by rw[P7];exact e2,rfl⟩,?_⟩
 rintro i m σ' H' ⟨rfl,hi,sm,E',acc,dn,rest,hacc,hlen,hdn,hrest,htot⟩;have sH:aR (hid H1 O) (hid H' (D::O)):=λb o h=>by
  have h2:=sm b o (aq H1 O b o h);unfold hid at h ⊢;by_cases hb:b∈O
  ·rw[if_pos hb]at h;cases h
  ·rw[if_neg hb]at h;have ne:b≠D:=aD h hD;rw[if_neg (by intro z;rcases List.mem_cons.mp z with z|z;exact ne z;exact hb z)];exact h2
 by_cases hlt:i<ds.length
 ·right;obtain⟨go,yl⟩:=(wk H' (D::O) i E'.all sH).1 ds[i] (by simp[hlt]);refine⟨go,λx H2 y=>?_⟩;obtain⟨s2,dx'⟩:=yl x H2 y;have E':=E'.same s2;have sm:=sm.trans s2;have hacc:=s2 _ _ hacc;have hdn:=hdn.mono (bi s2);rw[Qp hlt,lU]at hrest;obtain⟨ρ1,g1,hrest⟩:=pc hrest;have g1:=JN g1;obtain⟨c,c1,hrest⟩:=pc hrest;have c1:=DK c1;refine⟨D::O,inB ix ρ,ds[i],ρ1,E',dx',g1,λσ3 E3 _=>?_⟩;refine⟨D::O,ρ1,c,E3,c1,λH4 s4=>?_⟩;have E4:=E3.same s4;have back:∀{H5:Hp},dB X.K (D::O) H5 ρ1 σ3->dB X.K (D::O) H5 (inB ix ρ) σ3:=λz=>z.forget λj x e=>hfill ρ _ _ g1 j x e;cases c with
  |true=>
   refine vU ?_;rw[if_pos rfl]at hrest;obtain⟨v,v1,hrest⟩:=pc hrest;have v1:=DK v1;obtain⟨r,r1,hrest⟩:=pc hrest;cases hrest;refine⟨D::O,ρ1,v,E4,v1,λw H5 s5 dw=>?_⟩;have s45:=s4.trans s5;have ha5:H5 D=some (.lst acc):=s45 _ _ hacc;have hzl:ds.length<Tn:=Qq (of_decide_eq_true hz) (by decide);refine⟨acc,ha5,by omega,ds.length-(i+1),by omega,rfl,hlt,?_,?_,acc++[w],dn++[v],r,av,by rw[Pw,PC];omega,?_,r1,by rw[Qr];exact htot⟩
   ·intro b o h;rw[ao (aD h hD)];exact s45 _ _ (sm _ _ h)
   ·exact back ((E3.same s45).rewrite trivial OU λj xs e=>absurd e (hown ρ _ _ g1 j xs))
   ·have s6:aR (hid H5 (D::O)) (hid (upd H5 D (.lst (acc++[w]))) (D::O)):=eL OU;exact(hdn.mono ((bi s45).trans s6)).snoc (dw.mono s6)
  |false=>
   refine uW ?_;rw[if_neg O7]at hrest;exact⟨ds.length-(i+1),by omega,rfl,hlt,sm.trans s4,back E4,acc,dn,rest,s4 _ _ hacc,by omega,hdn.mono (bi s4),hrest,htot⟩
 ·left;have ei:i=ds.length:=by omega
  subst ei;refine⟨(wk H' (D::O) ds.length E'.all sH).2 rfl,?_⟩;rw[Qs]at hrest;cases hrest;rw[Pj]at htot;subst htot;exact q D H' _ acc rfl (s1.trans sm) (s1.free hD) hacc hdn
theorem GW(tk:oW ix g):∀σ H Q,tF X (du ix G g C Fe) σ H Q->K9 (L7 X G) (Lb X.K g) (Io X.K C) (Nk X.K Fe) ix σ H Q:=λσ H Q h=>C2 tk σ H Q (LO σ H Q h)
end
structure Ks where
 nx:aj->R D
 bk:aj->R D:=λ_=>un
 ct:aj->R D:=λ_=>un
 ex:Ex->aj->R D:=λx _=>.error (some x)
noncomputable abbrev bI:=Ks->aj->R D
noncomputable def o4{α:Type}(r:R α)(k:Ks)(ρ:aj)(f:α->R D):R D:=match r with
 |.ok a=>f a
 |.error (some x)=>k.ex x ρ
 |.error none=>un
structure Base(Hb:Hp)(Ob:ax)(H:Hp)(O:ax):Prop where
 same:aR Hb H
 sub:∀a∈Ob,a∈O
 new:∀a∈O,a∈Ob\/Hb a=none
noncomputable def iH(K:RY)(H:Hp)(O:ax):ax->List D->Prop
 |[],[]=>True
 |b::bs,x::xs=>cx K H O b x/\iH K H O bs xs
 |_,_=>False
noncomputable def pZ(K:RY)(H:Hp)(O:ax)(a:Td)(bs:ax)(d:D):Prop:=
 ∃xs,iH K H O bs xs/\((d=.lst xs/\H a=some (.lst (bs.map .ref)))\/(∃kvs:List (List Key×V),d=.dct (kvs.map λp=>.tup (p.1.map aY)) xs/\H a=some (.dT kvs)/\kvs.map (·.2)=bs.map .ref)\/(d=.dct [] xs/\bs=[]/\H a=some (.dK [])))
noncomputable def yA(K:RY)(Hb:Hp)(Ob O:ax)(H:Hp)(ρ:aj)(σ:St)(i:Nat)(d:D):Prop:=
 ∃a bs,σ[i]?=some (some (.ref a))/\pZ K H O a bs d/\(a::bs).Nodup/\(∀b∈a::bs,b∈O/\Hb b=none/\b∉Ob/\∀(j:Nat) d',ρ[j]?=some (some (.own d'))->σ[j]?≠some (some (.ref b)))/\∀(j:Nat) d',ρ[j]?=some (some (.nest d'))->j=i
theorem iH.mono{K:RY}{H H':Hp}{O O':ax}(s:aR (hid H O) (hid H' O')):∀{bs:ax}{xs:List D},iH K H O bs xs->(∀b∈bs,(∃o,H b=some o)->H' b=H b)->iH K H' O' bs xs
 |[],[],_,_=>trivial
 |b::bs,x::xs,h,e=>⟨h.1.mono (e b OU h.1.some).symm s,iH.mono s h.2 λb' hb=>e b' (OV _ hb)⟩
 |[],_::_,h,_=>h.elim
 |_::_,[],h,_=>h.elim
theorem iH.some{K:RY}{H:Hp}{O:ax}:∀{bs:ax}{xs:List D},iH K H O bs xs->∀b∈bs,∃o,H b=some o
 |[],_,_,_,hb=>nomatch hb
 |b::bs,x::xs,h,b',hb=>by
  rcases List.mem_cons.mp hb with z|z
  ·rw[z];exact h.1.some
  ·exact iH.some h.2 b' z
 |_::_,[],h,_,_=>h.elim
theorem pZ.some{K:RY}{H:Hp}{O:ax}{a:Td}{bs:ax}{d:D}(h:pZ K H O a bs d):∀b∈a::bs,∃o,H b=some o:=λb hb=>by
 obtain⟨xs,h1,h2⟩:=h;rcases List.mem_cons.mp hb with z|z
 ·rw[z];rcases h2 with⟨_,q⟩|⟨_,_,q,_⟩|⟨_,_,q⟩<;>exact⟨_,q⟩
 ·exact h1.some b z
theorem pZ.mono{K:RY}{H H':Hp}{O O':ax}{a:Td}{bs:ax}{d:D}(h:pZ K H O a bs d)(s:aR (hid H O) (hid H' O'))(e:∀b∈a::bs,(∃o,H b=Option.some o)->H' b=H b):pZ K H' O' a bs d:=by
 have ea:=e a OU (h.some a OU);obtain⟨xs,h1,h2⟩:=h;refine⟨xs,h1.mono s λb hb=>e b (OV _ hb),?_⟩;rw[ea];exact h2
theorem yA.to{K:RY}{Hb Hb':Hp}{Ob O O':ax}{H H':Hp}{ρ ρ':aj}{σ σ':St}{i:Nat}{d:D}(h:yA K Hb Ob O H ρ σ i d)(hσ:σ'[i]?=σ[i]?)(s:aR (hid H O) (hid H' O'))
  (k:∀b,b∈O->Hb b=none->b∉Ob->(∀(j:Nat) d',ρ[j]?=some (some (.own d'))->σ[j]?≠some (some (.ref b)))->(∃o,H b=some o)->H' b=H b/\b∈O'/\Hb' b=none/\∀(j:Nat) d',ρ'[j]?=some (some (.own d'))->σ'[j]?≠some (some (.ref b)))
  (n:∀(j:Nat) d',ρ'[j]?=some (some (.nest d'))->∃d2,ρ[j]?=some (some (.nest d2))):yA K Hb' Ob O' H' ρ' σ' i d:=by
 obtain⟨a,bs,h1,h2,h3,h4,h5⟩:=h;refine⟨a,bs,hσ.trans h1,h2.mono s λb hb ho=>?_,h3,λb hb=>?_,λj d' q=>?_⟩
 ·obtain⟨q1,q2,q3,q4⟩:=h4 b hb;exact(k b q1 q2 q3 q4 ho).1
 ·obtain⟨q1,q2,q3,q4⟩:=h4 b hb;obtain⟨_,w2,w3,w4⟩:=k b q1 q2 q3 q4 (h2.some b hb);exact⟨w2,w3,q3,w4⟩
 ·obtain⟨d2,q⟩:=n j d' q;exact h5 j d2 q
structure cX(K:RY)(Hb:Hp)(Ob O:ax)(H:Hp)(ρ:aj)(σ:St):Prop where
 env:dB K O H ρ σ
 base:Base Hb Ob H O
 mine:∀(i:Nat) xs a,ρ[i]?=some (some (.own xs))->σ[i]?=some (some (.ref a))->Hb a=none/\a∉Ob
 nst:∀(i:Nat) d,ρ[i]?=some (some (.nest d))->yA K Hb Ob O H ρ σ i d
theorem Base.same'{Hb:Hp}{Ob:ax}{H H':Hp}{O:ax}(b:Base Hb Ob H O)(s:aR H H'):Base Hb Ob H' O:=⟨b.same.trans s,b.sub,b.new⟩
theorem cX.same{K:RY}{Hb:Hp}{Ob O:ax}{H H':Hp}{ρ:aj}{σ:St}(h:cX K Hb Ob O H ρ σ)(s:aR H H'):cX K Hb Ob O H' ρ σ:=⟨h.env.same s,h.base.same' s,h.mine,λi d q=>(h.nst i d q).to rfl (bi s) (λb q1 q2 q3 q4 ⟨o,ho⟩=>⟨by rw[ho,s _ _ ho],q1,q2,q4⟩) λj d' z=>⟨d',z⟩⟩
theorem cX.after{K:RY}{Hb:Hp}{Ob O:ax}{H:Hp}{ρ ρ':aj}{σ σ':St}(S:cX K Hb Ob O H ρ σ)(E':dB K O H ρ' σ')(own:∀(i:Nat) x,ρ'[i]?=some (some x)->(∀d,x≠.val d)->σ'[i]?=σ[i]?/\ρ[i]?=some (some x)):cX K Hb Ob O H ρ' σ':=
 ⟨E',S.base,fun i xs a q1 q2=>by
  obtain⟨w1,w2⟩:=own i _ q1 (λ_ z=>nomatch z);rw[w1]at q2;exact S.mine i xs a w2 q2,λi d q=>by
  obtain⟨w1,w2⟩:=own i _ q (λ_ z=>nomatch z);refine(S.nst i d w2).to w1 (λ_ _ z=>z) (λb q1 q2 q3 q4 _=>⟨rfl,q1,q2,λl d' w=>?_⟩) λl d' w=>⟨d',(own l _ w (λ_ z=>nomatch z)).2⟩
  obtain⟨z1,z2⟩:=own l _ w (λ_ z=>nomatch z);rw[z1];exact q4 l d' z2⟩
structure K5(X:Cx)(Hb:Hp)(Ob:ax)(E:Ends)(k:Ks)(r:R D):Prop where
 ne:r≠un
 nx:∀O ρ σ H,cX X.K Hb Ob O H ρ σ->k.nx ρ=r->E.nx σ H
 bk:∀O ρ σ H,cX X.K Hb Ob O H ρ σ->k.bk ρ=r->E.bk σ H
 ct:∀O ρ σ H,cX X.K Hb Ob O H ρ σ->k.ct ρ=r->E.ct σ H
 rt:∀d O v H,r=.ok d->Base Hb Ob H O->cq X.K (hid H O) d v->E.rt v H
 ex:∀O ρ σ H x,cX X.K Hb Ob O H ρ σ->k.ex x ρ=r->Jw X σ O H x
noncomputable def L9(X:Cx)(Hb:Hp)(Ob:ax)(F:bI):TS:=λE σ H=>∃O ρ k r,cX X.K Hb Ob O H ρ σ/\F k ρ=r/\K5 X Hb Ob E k r
noncomputable def FS(X:Cx)(st:Tf)(F:bI):Prop:=∀Hb Ob,PS X st (L9 X Hb Ob F)
noncomputable def MN(X:Cx)(st:eE)(F:bI):Prop:=∀Hb Ob,vA X st (L9 X Hb Ob F)
theorem gE.on{X:Cx}{Hb:Hp}{Ob O:ax}{H:Hp}{ρ:aj}{σ:St}{E:Ends}{k:Ks}{r:R D}{α:Type}{fr:R α}{G:α->R D}{Q:α->Prop}(h:o4 fr k ρ G=r)(hk:K5 X Hb Ob E k r)(S:cX X.K Hb Ob O H ρ σ)(q:∀a,G a=r->Q a):gE X σ O H fr Q:=by
 match fr,h with
 |.ok a,h=>exact q a h
 |.error (some x),h=>exact hk.ex O ρ σ H x S h
 |.error none,h=>exact absurd h.symm hk.ne
section
variable{X:Cx}{st:Tf}{rest body:eE}{pos:Pos}
noncomputable def aV:bI:=λk ρ=>k.nx ρ
noncomputable def ai(F1 F2:bI):bI:=λk ρ=>F1 {k with nx:=F2 k} ρ
noncomputable def aJ(f:FX):bI:=λk ρ=>o4 (f ρ) k ρ .ok
noncomputable def Kt:bI:=λ_ _=>.ok .non
noncomputable def eQ(c:bS)(A B:bI):bI:=λk ρ=>o4 (c ρ) k ρ λb=>if b then A k ρ else B k ρ
noncomputable def aM(i:Nat)(f:FX):bI:=λk ρ=>o4 (f ρ) k ρ λd=>k.nx (setV i d ρ)
theorem cX.setV{K:RY}{Hb:Hp}{Ob O:ax}{H:Hp}{ρ:aj}{σ:St}(E:cX K Hb Ob O H ρ σ){i:Nat}{d:D}{v:V}(hi:i<σ.length)(hd:cq K (hid H O) d v):cX K Hb Ob O H (setV i d ρ) (σ.set i (some v)):=
  ⟨E.env.setV hi hd,E.base,fun j xs a e1 e2=>by
    rcases aH e1 with⟨_,q⟩|⟨ne,q⟩
    ·cases q
    · rw[OY (Ne.symm ne)]at e2
      exact E.mine j xs a q e2,
   λj dn e=>by
    rcases aH e with⟨_,q⟩|⟨ne,q⟩
    ·cases q
    · refine(E.nst j dn q).to (OY (Ne.symm ne)) (λ_ _ z=>z) (λb q1 q2 q3 q4 _=>⟨rfl,q1,q2,λl d' w=>?_⟩) λl d' w=>?_
      · rcases aH w with⟨_,z⟩|⟨nl,z⟩
        ·cases z
        ·rw[OY (Ne.symm nl)];exact q4 l d' z
      · rcases aH w with⟨_,z⟩|⟨_,z⟩
        ·cases z
        ·exact⟨d',z⟩⟩
theorem rZ{f:FX}{i:Nat}(hi:i<X.N.length)(h:PS X st (Du (tF X f) (tu i))):FS X st (aM i f):=λHb Ob pins s σ H E I ⟨O,ρ,k,r,S,hF,hk⟩=>
 h pins s σ H E I ⟨O,ρ,S.env,gE.on hF hk S λd e v H1 s1 d1=>hk.nx O _ _ H1 ((S.same s1).setV (by rw[I.len];exact hi) d1) e⟩
noncomputable def Ft(f:FX)(g:GF):bI:=λk ρ=>o4 (f ρ) k ρ λd=>(rO (g d ρ)).bind k.nx
noncomputable def qB:bI:=λ_ _=>un
noncomputable def kill(is:List Nat)(ρ:aj):aj:=is.foldl (λρ i=>ρ.set i none) ρ
theorem iV:∀(is:List Nat)(ρ:aj)(i:Nat)(x:S),(kill is ρ)[i]?=some (some x)->ρ[i]?=some (some x)
 |[],ρ,i,x,e=>e
 |j::is,ρ,i,x,e=>by
  rcases aH (iV is (ρ.set j none) i x e)with⟨_,q⟩|⟨_,q⟩
  ·cases q
  ·exact q
theorem cX.kill{K:RY}{Hb:Hp}{Ob O:ax}{H:Hp}{ρ:aj}{σ:St}(E:cX K Hb Ob O H ρ σ)(is:List Nat):cX K Hb Ob O H (kill is ρ) σ:=
 ⟨E.env.forget (iV is ρ),E.base,λi xs a e1 e2=>E.mine i xs a (iV is ρ i _ e1) e2,λi d q=>(E.nst i d (iV is ρ i _ q)).to rfl (λ_ _ z=>z) (λb q1 q2 q3 q4 _=>⟨rfl,q1,q2,λl d' w=>q4 l d' (iV is ρ l _ w)⟩) λl d' w=>⟨d',iV is ρ l _ w⟩⟩
noncomputable def bQ(is:List Nat)(F:bI):bI:=λk ρ=>F k (kill is ρ)
end
noncomputable def f7(g:GF)(B:bI)(k:Ks):List D->aj->R D
 |[],ρ=>k.nx ρ
 |d::ds,ρ=>(rO (g d ρ)).bind λρ1=>B ⟨f7 g B k ds,k.nx,f7 g B k ds,k.ex⟩ ρ1
noncomputable def eS(G:bC)(g:GF)(B:bI):bI:=λk ρ=>o4 (G ρ) k ρ λds=>f7 g B k ds ρ
noncomputable def lb(H:Hp)(O Ob:ax):Hp:=λb=>if b∈O/\b∉Ob then none else H b
theorem t6{H:Hp}{O Ob:ax}{b:Td}(h1:b∈O)(h2:b∉Ob):lb H O Ob b=none:=by unfold lb;rw[if_pos ⟨h1,h2⟩]
theorem Fh{H:Hp}{O Ob:ax}{b:Td}{o:HO}(h:lb H O Ob b=some o):H b=some o/\¬(b∈O/\b∉Ob):=by
 unfold lb at h;split at h
 ·cases h
 ·rename_i n;exact⟨h,n⟩
theorem Dq{H:Hp}{O Ob:ax}{b:Td}{o:HO}(h:H b=some o)(n:¬(b∈O/\b∉Ob)):lb H O Ob b=some o:=by unfold lb;rw[if_neg n];exact h
theorem Base.loop{Hb:Hp}{Ob:ax}{H:Hp}{O:ax}(b:Base Hb Ob H O):Base (lb H O Ob) Ob H O:=
 ⟨fun c o h=>(Fh h).1,b.sub,fun a ha=>by
  by_cases h:a∈Ob
  ·exact .inl h
  ·exact .inr (t6 ha h)⟩
theorem Base.back{Hb:Hp}{Ob:ax}{H H':Hp}{O O':ax}(b:Base Hb Ob H O)(b':Base (lb H O Ob) Ob H' O'):Base Hb Ob H' O':=by
 have up:aR Hb (lb H O Ob):=λc o h=>Dq (b.same c o h) λ⟨z1,z2⟩=>by
  rcases b.new c z1 with z|z
  ·exact z2 z
  ·rw[z]at h;cases h
 exact⟨up.trans b'.same,b'.sub,λa ha=>(b'.new a ha).imp id up.free⟩
theorem cX.loop{K:RY}{Hb:Hp}{Ob O:ax}{H:Hp}{ρ:aj}{σ:St}(E:cX K Hb Ob O H ρ σ):cX K (lb H O Ob) Ob O H ρ σ:=
 ⟨E.env,E.base.loop,fun i xs a e1 e2=>by
  obtain⟨_,n⟩:=E.mine i xs a e1 e2;obtain⟨a',e3,e4,_⟩:=E.env.own i xs e1;rw[e2]at e3;cases e3;exact⟨t6 e4 n,n⟩,λi d q=>(E.nst i d q).to rfl (λ_ _ z=>z) (λb q1 q2 q3 q4 _=>⟨rfl,q1,t6 q1 q3,q4⟩) λl d' w=>⟨d',w⟩⟩
theorem cX.back{K:RY}{Hb:Hp}{Ob O O':ax}{H H':Hp}{ρ':aj}{σ':St}(b:Base Hb Ob H O)(E:cX K (lb H O Ob) Ob O' H' ρ' σ'):cX K Hb Ob O' H' ρ' σ':=
 have up:aR Hb (lb H O Ob):=λc o h=>Dq (b.same c o h) λ⟨z1,z2⟩=>by
  rcases b.new c z1 with z|z
  ·exact z2 z
  ·rw[z]at h;cases h
 ⟨E.env,b.back E.base,fun i xs a e1 e2=>by
  obtain⟨z,n⟩:=E.mine i xs a e1 e2;exact⟨up.free z,n⟩,λi d q=>(E.nst i d q).to rfl (λ_ _ z=>z) (λb q1 q2 q3 q4 _=>⟨rfl,q1,up.free q2,q4⟩) λl d' w=>⟨d',w⟩⟩
theorem Dk{Hb:Hp}{Ob O O':ax}{H H':Hp}(b:Base Hb Ob H O)(b':Base (lb H O Ob) Ob H' O'):aR (hid H O) (hid H' O'):=λc o h=>by
 unfold hid at h ⊢;by_cases hc:c∈O
 ·rw[if_pos hc]at h;cases h
 ·rw[if_neg hc]at h;have h1:lb H O Ob c=some o:=Dq h λz=>hc z.1;rw[if_neg]
  ·exact b'.same _ _ h1
  ·intro z;rcases b'.new c z with z|z
   ·exact hc (b.sub c z)
   ·rw[h1]at z;cases z
theorem K5.loop{X:Cx}{Hb:Hp}{Ob O:ax}{H:Hp}{E E':Ends}{k k':Ks}{r:R D}(hk:K5 X Hb Ob E k r)(b:Base Hb Ob H O)(hn:∀O' ρ' σ' H',cX X.K (lb H O Ob) Ob O' H' ρ' σ'->k'.nx ρ'=r->E'.nx σ' H')(hc:∀O' ρ' σ' H',cX X.K (lb H O Ob) Ob O' H' ρ' σ'->k'.ct ρ'=r->E'.ct σ' H')
    (eb:k'.bk=k.nx) (ee:k'.ex=k.ex) (Eb:E'.bk=E.nx) (Er:E'.rt=E.rt):K5 X (lb H O Ob) Ob E' k' r:=
  ⟨hk.ne,hn,fun O' ρ' σ' H' S e=>by rw [Eb]; exact hk.nx O' ρ' σ' H' (S.back b) (by rw [<- eb]; exact e),hc,fun d O' v H' e b' dv=>by rw [Er]; exact hk.rt d O' v H' e (b.back b') dv,
   λO' ρ' σ' H' x S e=>hk.ex O' ρ' σ' H' x (S.back b) (by rw[<-ee];exact e)⟩
section
variable{X:Cx}{st:Tf}{rest body:eE}{pos:Pos}
end
end TG
namespace TG
open PySem PySem.Spec L2
variable[aA]
theorem cX.setO{K:RY}{Hb:Hp}{Ob O:ax}{H:Hp}{ρ:aj}{σ:St}(E:cX K Hb Ob O H ρ σ){i:Nat}{d d':D}{a:Td}{o:HO}(hi:ρ[i]?=some (some (.own d)))(ha:σ[i]?=some (some (.ref a)))(m:oV o)(new:cx K (upd H a o) O a d'):
  cX K Hb Ob O (upd H a o) (ρ.set i (some (.own d'))) σ:=by
 obtain⟨a',ha',haO,hat⟩:=E.env.own i d hi;rw[ha]at ha';cases ha';obtain⟨m1,m2⟩:=E.mine i d a hi ha;have s:aR (hid H O) (hid (upd H a o) O):=eL haO;have own:∀(j:Nat) ys,(ρ.set i (some (.own d')))[j]?=some (some (.own ys))->∃ys',ρ[j]?=some (some (.own ys')):=λj ys q=>by
  rcases aH q with⟨hj,_⟩|⟨_,q⟩
  ·rw[hj];exact⟨d,hi⟩
  ·exact⟨ys,q⟩
 refine⟨⟨λj d1 e=>?_,λj ys e=>?_,λj l ys zs b q1 q2 q3 q4=>?_,E.env.all.upd haO m⟩,⟨λb u h=>?_,E.base.sub,E.base.new⟩,λj ys b q1 q2=>?_,λj dn q=>?_⟩
 ·rcases aH e with⟨_,q⟩|⟨ne,q⟩
  ·cases q
  ·obtain⟨w,q1,q2⟩:=E.env.val j d1 q;exact⟨w,q1,q2.mono s⟩
 ·rcases aH e with⟨hj,q⟩|⟨ne,q⟩
  ·cases q;rw[hj];exact⟨a,ha,haO,new⟩
  ·obtain⟨b,q1,q2,q3⟩:=E.env.own j ys q;have nb:b≠a:=λz=>ne (E.env.one j i ys d a q hi (by rw[<-z];exact q1) ha);exact⟨b,q1,q2,q3.mono (by rw[ao nb]) s⟩
 ·obtain⟨_,q1'⟩:=own j ys q1;obtain⟨_,q2'⟩:=own l zs q2;exact E.env.one j l _ _ b q1' q2' q3 q4
 ·have nb:b≠a:=λz=>by rw[z,m1]at h;cases h
  rw[ao nb];exact E.base.same b u h
 ·obtain⟨ys',q⟩:=own j ys q1;exact E.mine j ys' b q q2
 ·have q:ρ[j]?=some (some (.nest dn)):=by
   rcases aH q with⟨_,z⟩|⟨_,z⟩
   ·cases z
   ·exact z
  refine(E.nst j dn q).to rfl s (λb q1 q2 q3 q4 _=>⟨ao λz=>q4 i d hi (by rw[z];exact ha),q1,q2,λl d1 w=>?_⟩) λl d1 w=>?_
  ·obtain⟨_,w'⟩:=own l d1 w;exact q4 l _ w'
  ·rcases aH w with⟨_,z⟩|⟨_,z⟩
   ·cases z
   ·exact⟨d1,z⟩
theorem cX.setNew{K:RY}{Hb:Hp}{Ob O:ax}{H H':Hp}{ρ:aj}{σ:St}(E:cX K Hb Ob O H ρ σ){i:Nat}{d:D}{p:Td}(hi:i<σ.length)(sm:aR H H')(hp:H p=none)(m:∃o,H' p=some o/\oV o)(new:cx K H' (p::O) p d):
  cX K Hb Ob (p::O) H' (ρ.set i (some (.own d))) (σ.set i (some (.ref p))):=by
 have hpO:p∉O:=E.env.all.not hp;have s:aR (hid H O) (hid H' (p::O)):=λb o h=>by
  unfold hid at h ⊢;by_cases hb:b∈O
  ·rw[if_pos hb]at h;cases h
  ·rw[if_neg hb]at h;have ne:=aD h hp;rw[if_neg (by intro z;rcases List.mem_cons.mp z with z|z;exact ne z;exact hb z)];exact sm _ _ h
 have other:∀(j:Nat) xs,ρ[j]?=some (some (.own xs))->σ[j]?≠some (some (.ref p)):=λj xs e z=>by
  obtain⟨a,e1,e2,e3⟩:=E.env.own j xs e;rw[z]at e1;cases e1;obtain⟨o,e3⟩:=e3.some;rw[hp]at e3;cases e3
 refine⟨⟨λj d' e=>?_,λj xs e=>?_,λj k xs ys a e1 e2 e3 e4=>?_,⟨(E.env.all.same sm).1,λa ha=>?_⟩⟩,⟨E.base.same.trans sm,λa ha=>OV _ (E.base.sub a ha),λa ha=>?_⟩,λj xs a e1 e2=>?_,λj dn e=>?_⟩
 ·rcases aH e with⟨_,q⟩|⟨ne,q⟩
  ·cases q
  ·obtain⟨v,q1,q2⟩:=E.env.val j d' q;exact⟨v,by rw[OY (Ne.symm ne)];exact q1,q2.mono s⟩
 ·rcases aH e with⟨hj,q⟩|⟨ne,q⟩
  ·cases q;rw[hj];exact⟨p,OX hi,OU,new⟩
  ·obtain⟨a,q1,q2,q3⟩:=E.env.own j xs q;obtain⟨o,ho⟩:=q3.some;exact⟨a,by rw[OY (Ne.symm ne)];exact q1,OV _ q2,q3.mono (o5 sm ho) s⟩
 ·rcases aH e1 with⟨hj,q1⟩|⟨nj,q1⟩
  ·rcases aH e2 with⟨hk,q2⟩|⟨nk,q2⟩
   ·exact hj.trans hk.symm
   ·rw[hj,OX hi]at e3;cases e3;rw[OY (Ne.symm nk)]at e4;exact absurd e4 (other k ys q2)
  ·rcases aH e2 with⟨hk,q2⟩|⟨nk,q2⟩
   ·rw[hk,OX hi]at e4;cases e4;rw[OY (Ne.symm nj)]at e3;exact absurd e3 (other j xs q1)
   ·rw[OY (Ne.symm nj)]at e3;rw[OY (Ne.symm nk)]at e4;exact E.env.one j k xs ys a q1 q2 e3 e4
 ·rcases List.mem_cons.mp ha with rfl|ha
  ·exact m
  ·exact(E.env.all.same sm).2 a ha
 ·rcases List.mem_cons.mp ha with rfl|ha
  ·exact .inr (E.base.same.free hp)
  ·exact E.base.new a ha
 ·rcases aH e1 with⟨hj,q1⟩|⟨nj,q1⟩
  ·rw[hj,OX hi]at e2;cases e2;exact⟨E.base.same.free hp,λz=>hpO (E.base.sub p z)⟩
  ·rw[OY (Ne.symm nj)]at e2;exact E.mine j xs a q1 e2
 ·rcases aH e with⟨_,q⟩|⟨ne,q⟩
  ·cases q
  ·refine(E.nst j dn q).to (OY (Ne.symm ne)) s (λb q1 q2 q3 q4 ⟨o,ho⟩=>⟨by rw[ho,sm _ _ ho],OV _ q1,q2,λl d1 w=>?_⟩) λl d1 w=>?_
   ·rcases aH w with⟨hl,z⟩|⟨nl,z⟩
    ·rw[hl,OX hi];intro z;cases z;rw[hp]at ho;cases ho
    ·rw[OY (Ne.symm nl)];exact q4 l d1 z
   ·rcases aH w with⟨_,z⟩|⟨_,z⟩
    ·cases z
    ·exact⟨d1,z⟩
noncomputable def ME(X:Cx)(F:FX):TE:=λσ H Q=>∃O ρ,dB X.K O H ρ σ/\gE X σ O H (F ρ) λd=>∀p H',aR H H'->H p=none->(∃o,H' p=some o/\oV o)->cx X.K H' (p::O) p d->Q (.ref p) H'
noncomputable def FN(X:Cx)(e:Te)(F:FX):Prop:=PE X e (ME X F)
section
variable{X:Cx}{pos:Pos}
theorem jQ{K:RY}{H:Hp}{O:ax}{p:Td}{ds:List D}{vs:aK}(hp:H p=none)(d:aI K (hid H O) ds vs):cx K (upd H p (.lst vs)) (p::O) p (.lst ds):=⟨_,vs,av,rfl,d.mono (mj hp)⟩
noncomputable def oH:FX:=λ_=>.ok (.dct [] [])
theorem Cj:FN X (.Dict [] [] pos) oH:=PE.weak CL λσ H Q ⟨O,ρ,E,q⟩ p hp=>q p _ (bj hp _) hp ⟨_,av,trivial⟩ ⟨_,[],av,cw.mpr rfl,.inr ⟨[],rfl,rfl,rfl⟩⟩
noncomputable def iC(i:Nat)(f:FX):bI:=λk ρ=>o4 (f ρ) k ρ λd=>k.nx (ρ.set i (some (.own d)))
theorem sJ{st:Tf}{f:FX}{i:Nat}(hi:i<X.N.length)(h:PS X st (Du (ME X f) (tu i))):FS X st (iC i f):=λHb Ob pins s σ H E I ⟨O,ρ,k,r,S,hF,hk⟩=>
 h pins s σ H E I ⟨O,ρ,S.env,gE.on hF hk S λd e p H1 s1 hp m o=>hk.nx _ _ _ H1 (S.setNew (by rw[I.len];exact hi) s1 hp m o) e⟩
end
theorem GV{X:Cx}{F:FX}:∀σ H Q,ME X F σ H Q->M0 X F σ H Q:=λσ H Q ⟨O,ρ,E,hF⟩=>⟨O,ρ,E,hF.imp λd q D H' total acc e sm hD hD' dn=>by
 subst e;exact q D H' sm hD ⟨_,hD',trivial⟩ ⟨_,acc,hD',rfl,dn⟩⟩
noncomputable def xR(i:Nat)(u:List D->List D->Option (List D))(f:bC):bI:=λk ρ=>match ρ[i]? with
 |some (some (.own (.lst xs)))=>o4 (f ρ) k ρ λds=>(rO (u xs ds)).bind λys=>k.nx (ρ.set i (some (.own (.lst ys))))
 |_=>un
noncomputable def Gq(K:RY)(r:V->aK->Hp->VK->Prop)(u:List D->List D->Option (List D)):Prop:=
 ∀(H:Hp)(O:ax)(a:Td)(xs ys as:List D)(ws vs:aK)(Q:VK),dL H O->a∈O->H a=some (.lst ws)->aI K (hid H O) xs ws->aI K (hid H O) as vs->u xs as=some ys->(∀ws' v,aI K (hid H O) ys ws'->Q v (upd H a (.lst ws')))->r (.ref a) vs H Q
theorem oy{K:RY}{H:Hp}{O:ax}{a:Td}{ys:List D}{ws:aK}(ha:a∈O)(h:aI K (hid H O) ys ws):cx K (upd H a (.lst ws)) O a (.lst ys):=⟨_,ws,av,rfl,h.mono (eL ha)⟩
noncomputable def eG(xs:List D)(ds:List D):Option (List D):=match ds with
 |[y]=>if small (xs.length+1)then some (xs++[y])else none
 |_=>none
theorem yV{K:RY}:Gq K tY eG:=λH O a xs ys as ws vs Q hO haO ha dx da hu q=>by
 unfold eG at hu;split at hu
 ·rename_i y;obtain⟨h1,h2⟩:=bA hu;subst h2;obtain⟨v,rfl,dv⟩:=da.one
  have:=dN h1
  rw[dx.length]at this;exact⟨a,ws,v,rfl,rfl,ha,by omega,q _ _ (dx.snoc dv)⟩
 ·cases hu
noncomputable def frz(i:Nat)(ρ:aj):aj:=match ρ[i]? with
 |some (some (.own d))=>setV i d ρ
 |_=>ρ
theorem dB.frz{K:RY}{O:ax}{H:Hp}{ρ:aj}{σ:St}(E:dB K O H ρ σ)(i:Nat):∃O',dB K O' H (frz i ρ) σ/\(∀b∈O',b∈O)/\∀b∈O,b∉O'->∃d,ρ[i]?=some (some (.own d))/\σ[i]?=some (some (.ref b)):=by
 unfold TG.frz;split
 ·rename_i d hd;obtain⟨a,ha,haO,hat⟩:=E.own i d hd;have sub:∀b∈O.filter (λb=>decide (b≠a)),b∈O:=λb hb=>(List.mem_filter.mp hb).1;have s:aR (hid H O) (hid H (O.filter λb=>decide (b≠a))):=fg sub;have na:a∉O.filter λb=>decide (b≠a):=λz=>absurd rfl (of_decide_eq_true (List.mem_filter.mp z).2);refine⟨O.filter λb=>decide (b≠a),⟨λj d' e=>?_,λj ys e=>?_,λj l ys zs b q1 q2 q3 q4=>?_,⟨E.all.1,λb hb=>E.all.2 b (sub b hb)⟩⟩,sub,λb hb nb=>?_⟩
  ·rcases aH e with⟨hj,q⟩|⟨ne,q⟩
   ·cases q;rw[hj];exact⟨.ref a,ha,hat.den s na⟩
   ·obtain⟨w,q1,q2⟩:=E.val j d' q;exact⟨w,q1,q2.mono s⟩
  ·rcases aH e with⟨_,q⟩|⟨ne,q⟩
   ·cases q
   ·obtain⟨b,q1,q2,q3⟩:=E.own j ys q;have nb:b≠a:=λz=>ne (E.one j i ys d a q hd (by rw[<-z];exact q1) ha);exact⟨b,q1,List.mem_filter.mpr ⟨q2,decide_eq_true nb⟩,q3.mono rfl s⟩
  ·rcases aH q1 with⟨_,q⟩|⟨_,q⟩
   ·cases q
   ·rcases aH q2 with⟨_,q'⟩|⟨_,q'⟩
    ·cases q'
    ·exact E.one j l ys zs b q q' q3 q4
  ·by_cases z:b=a
   ·exact⟨d,hd,by rw[z];exact ha⟩
   ·exact absurd (List.mem_filter.mpr ⟨hb,decide_eq_true z⟩) nb
 ·exact⟨O,E,λ_ z=>z,λb hb nb=>absurd hb nb⟩
theorem cX.frz{K:RY}{Hb:Hp}{Ob O:ax}{H:Hp}{ρ:aj}{σ:St}(E:cX K Hb Ob O H ρ σ)(i:Nat):∃O',cX K Hb Ob O' H (frz i ρ) σ:=by
 obtain⟨O',E',sub,gone⟩:=E.env.frz i;refine⟨O',E',⟨E.base.same,λa ha=>?_,λa ha=>E.base.new a (sub a ha)⟩,λj xs a q1 q2=>?_,λj dn q1=>?_⟩
 ·by_cases z:a∈O'
  ·exact z
  ·obtain⟨d,e1,e2⟩:=gone a (E.base.sub a ha) z;exact absurd ha (E.mine i d a e1 e2).2
 ·have q:ρ[j]?=some (some (.own xs)):=by
   unfold TG.frz at q1;split at q1
   ·rcases aH q1 with⟨_,q⟩|⟨_,q⟩
    ·cases q
    ·exact q
   ·exact q1
  exact E.mine j xs a q q2
 ·have bk:∀(l:Nat) x,(TG.frz i ρ)[l]?=some (some x)->(∀d,x≠.val d)->ρ[l]?=some (some x):=λl x e nv=>by
   unfold TG.frz at e;split at e
   ·rcases aH e with⟨_,q⟩|⟨_,q⟩
    ·cases q;exact absurd rfl (nv _)
    ·exact q
   ·exact e
  refine(E.nst j dn (bk j _ q1 (λ_ z=>nomatch z))).to rfl (fg sub) (λb w1 w2 w3 w4 _=>⟨rfl,?_,w2,λl d1 w=>w4 l d1 (bk l _ w (λ_ z=>nomatch z))⟩) λl d1 w=>⟨d1,bk l _ w (λ_ z=>nomatch z)⟩
  by_cases z:b∈O'
  ·exact z
  ·obtain⟨d,e1,e2⟩:=gone b w1 z;exact absurd e2 (w4 i d e1)
noncomputable def eT(i:Nat)(F:bI):bI:=λk ρ=>F k (frz i ρ)
noncomputable def frzs(is:List Nat)(ρ:aj):aj:=is.foldl (λρ i=>frz i ρ) ρ
theorem dB.frzs{K:RY}{H:Hp}{σ:St}:∀(is:List Nat){O:ax}{ρ:aj},dB K O H ρ σ->∃O',dB K O' H (frzs is ρ) σ
 |[],O,_,E=>⟨O,E⟩
 |i::is,_,_,E=>by
  obtain⟨O',E',_⟩:=E.frz i;exact dB.frzs is E'
noncomputable def j6(is:List Nat)(f:bS):bS:=λρ=>wc (f (frzs is ρ))
end TG
namespace TG
open PySem PySem.Spec L2
variable[aA]
noncomputable def y8(K:RY)(n:Nat)(g:cT):Sp:=λvs H Q E=>∃O ds,vs.length=n/\dL H O/\aI K (hid H O) ds vs/\match g ds with
 |.ok d=>∀v H',aR H H'->cq K (hid H' O) d v->Q v H'
 |.error (some x)=>MB K H O x E
 |.error none=>False
section
variable{X:Cx}{k:Nat}{f C:Td}{fd:T6}{ps:ay}{sp:Sp}{x m:Str}{p pos apos:Pos}{e o:Te}{es:bz}{ta:TE}{t:TA}
theorem uj{pins:bc}{σ:St}{H:Hp}{s:Tg}{Q:VK}{E:XK}{us:aU}{vs:aK}(F:gS X.prog X.w X.K X.mg X.base (j4 X.prog X.w) k f fd ps sp)(hr:eY k X.A)(hb:Binds X.K fd ps [])(hx:jX (j4 X.prog X.w) X σ E)
  (I:Inv X pins σ H s) (r:Vals vs us) (h:sp vs H Q E):Tu (model X.prog X.w) X.A (call (.ref f) us) (EP X pins σ Q) X.xe s:=by
 have hl:(us++[]).length=ps.length:=by rw[Pj,<-r.length];exact F.len _ _ _ _ h
 have hb':=hb s us I.kIn hl;rw[Pj]at hb';refine wpAny_call (T8 (F.run X.A X.stack s H ⟨us,[]⟩ us vs Q E hr I.env0 hb' r h) λr s' hq=>?_);cases r with
 |error e=>exact hx pins H s e s' I hq
 |ok fl=>
  cases fl with
  |ret u=>exact I.after hq
  |next=>exact False.elim hq
  |brk=>exact False.elim hq
  |cont=>exact False.elim hq
noncomputable def Bb(X:Cx)(sp:Sp)(t:TA):TE:=λσ H Q=>t σ H λvs H1=>∃E,jX (j4 X.prog X.w) X σ E/\sp vs H1 Q E
theorem Cv(F:gS X.prog X.w X.K X.mg X.base (j4 X.prog X.w) k f fd ps sp)(hr:eY k X.A)(hg:Gl X x)(hm:X.mg x=some (.ref f))(hk:Sd X.K (.ref f)=true)(hb:Binds X.K fd ps [])
  (ha:PA X (e::es) t) (hdb:(x==("__debug__":Str))=false:=by decide) (he:Tv (e::es) X.env=(false,eval e X.env)::Tv es X.env:=by rfl) (hpl:(backTo pos (Tv es X.env)).any (·.1)=false:=by rfl):
  PE X (.Call (.Name x p) (e::es) [] pos) (Bb X sp t):=by
 intro pins s σ H Q I h;refine T9 (yr I hg hm ?_ hdb);refine Se (h₀:=X.base) I.ok.mod.kin hk (cM (ha pos pins s σ H _ I h) λus s1 ⟨vs,H1,I1,r,E,hx,q⟩=>⟨I1.kIn,?_⟩) he hpl;exact uj F hr hb hx I1 r q
theorem zt{n:Nat}{g:cT}{f:bC}(hn:∀ds,g ds≠un->ds.length=n):∀σ H Q,tF X (fR g f) σ H Q->Bb X (y8 X.K n g) (Lq X f) σ H Q:=λσ H Q ⟨O,ρ,E,hF⟩=>
 ⟨O,ρ,E,(gE.bind hF).imp fun ds hF vs H1 s1 d1=>by
  cases hg:g ds with
  |ok d=>
   rw[hg]at hF;refine⟨E0,yG,O,ds,by rw[<-d1.length];exact hn ds (by rw[hg];intro z;cases z),E.all.same s1,d1,?_⟩;rw[hg];exact λv H2 s2 d2=>hF v H2 (s1.trans s2) d2
  |error z=>
   rw[hg]at hF;cases z with
   |none=>exact hF.elim
   |some x=>
    refine⟨yw X O H1 x,yd (Jw.mono hF s1),O,ds,by rw[<-d1.length];exact hn ds (by rw[hg];intro z;cases z),E.all.same s1,d1,?_⟩;rw[hg];exact uO⟩
end
noncomputable def Callee(P:Ti)(w:Th)(K:RY)(mg:cj)(base:Tl)(k:Nat)(x:Str)(ps:ay)(g:cT):Prop:=
 ∃f fd,gS P w K mg base (j4 P w) k f fd ps (y8 K ps.length g)/\Binds K fd ps []/\Sd K (.ref f)=true/\mg x=some (.ref f)
noncomputable def Ar(n:Nat)(g:cT):Prop:=∀ds,g ds≠un->ds.length=n
noncomputable def K0:Ks:={nx:=λ_=>.ok .non}
noncomputable def env0(n:Nat)(ds:List D):aj:=ds.map (λd=>some (.val d))++List.replicate (n-ds.length) none
noncomputable def aG(B:bI)(np n:Nat):cT:=λds=>if ds.length=np then B K0 (env0 n ds)else un
theorem hJ{B:bI}{np n:Nat}:Ar np (aG B np n):=λds h=>by
 unfold aG at h;split at h
 ·assumption
 ·exact absurd rfl h
theorem gX{n:Nat}{ds:List D}(i:Nat)(x:S)(e:(env0 n ds)[i]?=some (some x)):∃d,ds[i]?=some d/\x=.val d:=by
 unfold env0 at e;by_cases hi:i<ds.length
 ·rw[Pq (by rw[Pa];exact hi),Pr,Qd hi]at e;have e':some (S.val ds[i])=some x:=Option.some.inj e;exact⟨ds[i],by rw[Qd hi],(Option.some.inj e').symm⟩
 ·rw[Pn (by rw[Pa];omega),Pa,Pp]at e;split at e
  ·cases e
  ·cases e
theorem qz{K:RY}{O:ax}{H:Hp}{N:ay}{ds:List D}{vs:aK}(hO:dL H O)(h:aI K (hid H O) ds vs):dB K O H (env0 N.length ds) (L2.start N vs):=by
 refine⟨λi d e=>?_,λi xs e=>?_,λi j xs ys a e=>?_,hO⟩
 ·obtain⟨d',e1,e2⟩:=gX i _ e;cases e2;obtain⟨v,e3,e4⟩:=h.get e1;refine⟨v,?_,e4⟩;unfold L2.start;have hi:i<vs.length:=(List.getElem?_eq_some_iff.mp e3).1;rw[Pq (by rw[Pa];exact hi),Pr,e3];rfl
 ·obtain⟨d',_,e2⟩:=gX i _ e;cases e2
 ·obtain⟨d',_,e2⟩:=gX i _ e;cases e2
section
variable{P:Ti}{w:Th}{K:RY}{mg:cj}{base:Tl}
structure BodyOk(P:Ti)(w:Th)(K:RY)(mg:cj)(base:Tl)(k:Nat)(N:ay)(qual:Str)(st:Tf)(f:Td)(B:bI):Prop where
 h:∀(cdv:S9)(A:Ts)(outer:List Env)(s:Tg)(H:Hp)(E:XK),eY k (A.deeper (SN qual (aw st) s.heap.objs.size f cdv))->TK (model P w) (A.deeper (SN qual (aw st) s.heap.objs.size f cdv)) (SN qual (aw st) s.heap.objs.size f cdv) (g9 (j4 P w) P w K mg base N qual (aw st) f cdv A outer s H E).xe->
  MN (g9 (j4 P w) P w K mg base N qual (aw st) f cdv A outer s H E) (dG st) B
theorem L6{x qual:Str}{st:Tf}{f:Td}{fd:T6}{N ps:ay}{k:Nat}{sp:Sp}{CX:xQ}(F:uF K x qual st f fd)(S:dJ N ps (aw st))(len:∀vs H Q E,sp vs H Q E->vs.length=ps.length)
  (hbody:∀ (cdv:S9) (A:Ts) (outer:List Env) (s:Tg) (H:Hp) (vs:aK) (Q:VK) (E:XK),eY k (A.deeper (SN qual (aw st) s.heap.objs.size f cdv))->sp vs H Q E ->
   ∃t,vA (g9 CX P w K mg base N qual (aw st) f cdv A outer s H E) (dG st) t/\t {nx:=λ_ H'=>Q .non H',rt:=Q} (L2.start N vs) H):gS P w K mg base CX (k+1) f fd ps sp:=by
 obtain⟨oc,od,kV,doc,pm,an,cdv,ct,osl,rfl,lk,hcd⟩:=F.ex;exact Dy lk hcd S len λA outer s H vs Q E hr hsp=>hbody cdv A outer s H vs Q E hr hsp
theorem gS.any{CX:xQ}{k:Nat}{f:Td}{fd:T6}{ps:ay}{sp:Sp}(F:gS P w K mg base Lp k f fd ps sp):gS P w K mg base CX k f fd ps sp:=
 ⟨F.len,fun A outer s H args us vs Q E hr he hb hv hs=>T8 (F.run A outer s H args us vs Q E hr he hb hv hs) fun r s' h=>by
  cases r with
  |error e=>exact False.elim h
  |ok fl=>cases fl<;>exact h⟩
theorem uq{x qual:Str}{st:Tf}{f:Td}{fd:T6}{N ps:ay}{k:Nat}{B:bI}(F:uF K x qual st f fd)(SC:dJ N ps (aw st))(hb:BodyOk P w K mg base k N qual st f B):
  gS P w K mg base (j4 P w) (k+1) f fd ps (y8 K ps.length (aG B ps.length N.length)):=by
 refine L6 F SC (λvs H Q E h=>?_) λcdv A outer s H vs Q E hr h=>?_
 ·obtain⟨O,ds,h1,_⟩:=h;exact h1
 ·obtain⟨O,ds,h1,h2,h3,h4⟩:=h;have hl:ds.length=ps.length:=h3.length.trans h1;have e4:aG B ps.length N.length ds=B K0 (env0 N.length ds):=by unfold aG;rw[if_pos hl]
  rw[e4]at h4;refine⟨_,hb.h cdv A outer s H E hr PassesOwn.leaving H O,O,env0 N.length ds,K0,_,⟨qz h2 h3,⟨aR.refl H,λ_ z=>z,λa z=>.inl z⟩,λi xs a e=>?_,λi d e=>by obtain⟨d',_,e2⟩:=gX i _ e;cases e2⟩,rfl,?_⟩
  ·obtain⟨d',_,e2⟩:=gX i _ e;cases e2
  ·generalize B K0 (env0 N.length ds)=r at h4;refine⟨λz=>by rw[z]at h4;exact h4,λO' ρ' σ' H' S e=>?_,λO' ρ' σ' H' S e=>?_,λO' ρ' σ' H' S e=>?_,λd O' v H' e b dv=>?_,λO' ρ' σ' H' x S e=>?_⟩
   ·have e:(.ok .non:R D)=r:=e;subst e;exact h4 .non H' S.base.same (jp.mpr rfl)
   ·have e:(un:R D)=r:=e;subst e;exact h4.elim
   ·have e:(un:R D)=r:=e;subst e;exact h4.elim
   ·subst e;exact h4 v H' b.same (dv.mono (fg b.sub))
   ·have e:(.error (some x):R D)=r:=e;subst e;exact C6 h4 S.base.same S.base.sub
theorem zc{x qual:Str}{st:Tf}{f:Td}{fd:T6}{N ps:ay}{k:Nat}{B:bI}(F:uF K x qual st f fd)(b:Binds K fd ps [])(m:mg x=some (.ref f))(SC:dJ N ps (aw st))(hb:BodyOk P w K mg base k N qual st f B):
  Callee P w K mg base (k+1) x ps (aG B ps.length N.length):=⟨f,fd,uq F SC hb,b,F.kp,m⟩
theorem vP{x qual:Str}{st:Tf}{f:Td}{fd:T6}{ps:ay}(k:Nat)(F:uF K x qual st f fd)(b:Binds K fd ps [])(m:mg x=some (.ref f)):Callee P w K mg base k x ps (λ_=>un):=by
 have no:∀vs H Q E,¬y8 K ps.length (λ_=>un) vs H Q E:=λvs H Q E ⟨O,ds,_,_,_,e⟩=>e;exact⟨f,fd,⟨λvs H Q E h=>absurd h (no vs H Q E),λA outer s H args us vs Q E _ _ _ _ h=>absurd h (no vs H Q E)⟩,b,F.kp,m⟩
end
theorem pB{K:RY}{T:String}(h1:Sl K (.type "NoneType") (.type T)=some (T=="NoneType"))(h2:Sl K (.type "bool") (.type T)=some (T=="bool"||T=="int"))(h3:Sl K (.type "int") (.type T)=some (T=="int"))(h4:Sl K (.type "str") (.type T)=some (T=="str"))
  (h5:Sl K (.type "tuple") (.type T)=some (T=="tuple")) (h6:Sl K (.type "list") (.type T)=some (T=="list")):wJ K T:=λd hd=>by
 cases d with
 |dct _ _=>cases hd
 |obj _ _ _=>cases hd
 |exc _ _ _=>cases hd
 |non=>exact h1
 |bl _=>exact h2
 |int _=>exact h3
 |str _=>exact h4
 |tup _=>exact h5
 |lst _=>exact h6
theorem CM{K:RY}:wJ K "int":=pB rfl rfl rfl rfl rfl rfl
theorem zB{K:RY}:wJ K "bool":=pB rfl rfl rfl rfl rfl rfl
theorem CG{K:RY}:wJ K "str":=pB rfl rfl rfl rfl rfl rfl
theorem xP{K:RY}:wJ K "tuple":=pB rfl rfl rfl rfl rfl rfl
end TG
namespace TG
open PySem PySem.Spec L2
variable[aA]
section
variable{X:Cx}{a b c:Te}{fa fb fc:FX}{pos:Pos}
theorem Hv{r:V->Hp->VK->Prop}{g:D->bF}(s:EG X.K r g):∀σ H Q,tF X (f1 g fa) σ H Q->Nw r (tF X fa) σ H Q:=λσ H Q ⟨O,ρ,E,hF⟩=>⟨O,ρ,E,(gE.bind hF).imp λa hF x H1 s1 d1=>by
 obtain⟨d,e,q⟩:=gE.rO hF;exact s a d x O H1 Q (E.all.same s1) e d1 λv H2 s2 d2=>q v H2 (s1.trans s2) d2⟩
noncomputable def lQ(g g':D->D->bF)(fa fb fc:FX):FX:=λρ=>(fa ρ).bind λx=>(fb ρ).bind λy=>(rO (g x y)).bind λz=>wH z ((fc ρ).bind λw=>rO (g' y w))
theorem sQ{r r':R2}{g g':D->D->bF}(s:cS X.K r g)(s':cS X.K r' g'):∀σ H Q,tF X (lQ g g' fa fb fc) σ H Q->xK r r' (tF X fa) (tF X fb) (tF X fc) σ H Q:=λσ H Q ⟨O,ρ,E,hF⟩=>
 ⟨O,ρ,E,(gE.bind hF).imp fun x hF v1 H1 s1 d1=>⟨O,ρ,E.same s1,((gE.bind hF).mono s1).imp fun y hF v2 H2 s2 d2=>by
  obtain⟨z,e3,hF⟩:=gE.rO (gE.bind hF);refine s x y z v1 v2 O H2 _ (E.all.same (s1.trans s2)) e3 (d1.mono (bi s2)) d2 λv3 H3 s3 d3=>?_;cases z with
  |bl k=>
   refine⟨k,js.mp d3,?_⟩;cases k with
   |false=>exact uW (hF _ H3 ((s1.trans s2).trans s3) (js.mpr rfl))
   |true=>
    refine vU ⟨O,ρ,E.same ((s1.trans s2).trans s3),((gE.bind (show gE X σ O H ((fc ρ).bind λw=>rO (g' y w)) _ from hF)).mono ((s1.trans s2).trans s3)).imp λw hF v4 H4 s4 d4=>?_⟩;obtain⟨d,e5,q⟩:=gE.rO hF;exact s' y w d v2 v4 O H4 Q (E.all.same (((s1.trans s2).trans s3).trans s4)) e5 (d2.mono (bi (s3.trans s4))) d4 λv5 H5 s5 d5=>q v5 H5 ((((s1.trans s2).trans s3).trans s4).trans s5) d5
  |_=>exact hF.elim⟩⟩
noncomputable def Jm:D->bF
 |.int i=>some (.int (-i))
 |_=>none
noncomputable def lP(f:FX):FX:=f1 Jm f
noncomputable def Oe:List D->bF
 |[.int i]=>if decide (i.natAbs.log2<1920)then some (.str (toString i))else none
 |_=>none
noncomputable def BM:D->bF
 |.str x=>if small x.length then some (.str (Txt.upper x))else none
 |_=>none
noncomputable def HG(f:FX):FX:=f1 BM f
noncomputable def Ib:D->bF
 |.lst xs=>some (.lst xs.reverse)
 |.tup xs=>some (.tup xs.reverse)
 |_=>none
noncomputable def LN(f:FX):FX:=f1 Ib f
noncomputable def allB:List D->Option Bool
 |[]=>some true
 |.bl b::r=>(allB r).bind λc=>some (b&&c)
 |_=>none
noncomputable def uG:List D->bF
 |[.lst xs]=>(allB xs).bind λb=>some (.bl b)
 |_=>none
theorem uN:∀{xs:List D}{b:Bool},allB xs=some b->∃bs:bM,xs=bs.map .bl/\b=bs.all id
 |[],b,h=>by cases h;exact⟨[],rfl,rfl⟩
 |.bl x::r,b,h=>by
  obtain⟨c,e1,e2⟩:=bind_some (show((allB r).bind λc=>some (x&&c))=some b from h);cases e2;obtain⟨bs,e3,e4⟩:=uN e1;exact⟨x::bs,by rw[O9,e3],by rw[Qa,e4];rfl⟩
 |.non::_,_,h=>by cases h
 |.int _::_,_,h=>by cases h
 |.str _::_,_,h=>by cases h
 |.tup _::_,_,h=>by cases h
 |.lst _::_,_,h=>by cases h
 |.dct _ _::_,_,h=>by cases h
 |.obj _ _ _::_,_,h=>by cases h
 |.exc _ _ _::_,_,h=>by cases h
theorem pL{K:RY}{H:Hp}:∀{bs:bM}{vs:aK}{us:aU},aI K H (bs.map .bl) vs->Vals vs us->us=bs.map Value.bool
 |[],vs,us,h,r=>by
  rw[PF,cw]at h;subst h;cases r;rfl
 |b::bs,vs,us,h,r=>by
  rw[O9,bb]at h;obtain⟨v,r',e,h1,h2⟩:=h;subst e;cases r with
  |cons q1 q2=>
   rw[js]at h1;subst h1;cases q1;rw[O9,pL h2 q2]
theorem range_all(bs:bM):((List.range bs.length).all λi=>(bs[i]?).getD true)=bs.all id:=by
 induction bs with
 |nil=>rfl
 |cons b bs ih=>
  rw[O8,Qb,Qa,Qc,Qa,<-ih];rfl
theorem Aw(hc:X.calm=true):dS X (.builtin "all") (xj X.K uG):=by
 rintro pins s σ H xs us Q I r ⟨O,ds,d,hO,hd,hg,q⟩;unfold uG at hg;split at hg
 ·rename_i ys;obtain⟨bv,e1,e2⟩:=bind_some hg;cases e2;obtain⟨bs,eb,ev⟩:=uN e1;subst eb ev;obtain⟨v,evv,h1⟩:=hd.one;subst evv;obtain⟨p,vs,ep,g1,g2⟩:=bX.mp h1;subst ep;obtain⟨u,eu,ru⟩:=vals1 r;subst eu;cases ru;obtain⟨its,rv,pl,hz⟩:=I.list ((aq H O).seq g1);have ei:=pL g2 rv;have hl:=pl.isList;have hlt:p<s.heap.objs.size:=by obtain⟨_,e,_⟩:=hl;exact Sx e
  refine call_all_walk (TJ hl ?_);refine⟨s.heap.objs.size,[s.heap.objs.size,p],[s.heap.objs.size],its.toArray.size,_,_,λi=>(bs[i]?).getD true,rfl,Walks.list (A:=X.A.in1) (I.ok.hd hc) _ p (OO hlt) its.toArray,
   ⟨⟨_,SD _ rfl,rfl,rfl⟩,hl.push _⟩,λi v s' Q' E' hP hQ=>?_,λh' tk hk=>?_⟩
  ·have e:bs[i]?.map Value.bool=some v:=by
    rw[<-Pr,<-ei]
    simpa using hP
   cases eb:bs[i]? with
   |none=>rw[eb]at e;cases e
   |some b=>
    rw[eb]at e;cases e;simp only[eb,Qt]at hQ;exact TB hQ
  ·have e:((List.range its.toArray.size).all λi=>(bs[i]?).getD true)=bs.all id:=by
    have:its.toArray.size=bs.length:=(by rw[O6,ei,Pa]);rw[this];exact range_all bs
   rw[e];have k:∀b x,s.heap.get? b=some x->h'.get? b=some x:=λb x e=>hk b x (λhm=>by rw[List.mem_singleton.mp hm]at e;exact OM _ (Sx e)) (SA _ e);exact⟨.bl _,H,I.kept k,rfl,q _ H (aR.refl H) (js.mpr rfl)⟩
 ·cases hg
end
end TG
namespace ZI
open PySem PySem.Spec PyProof.Rows
section
variable{prog:Ti}{w:Th}{A:Ts}{E:S9->Tg->Prop}{s:Tg}
theorem xu{it t:Td}{i:Nat}{its:Array S9}{x:S9}{Q:S9->Tg->Prop}(hit:s.heap.IsTupleIter it t i)(ht:s.heap.IsTuple t its)(hx:its[i]?=some x)
  (hQ:∀g,g.IsTupleIter it t (i+1)->Sz it s.heap g->Q x {s with heap:=g}):Tu (model prog w) A (Builtin.SmallTypes.nextOf (.ref it)) Q E s:=by
 obtain⟨ob,h1,h2,h3⟩:=id hit;obtain⟨ol,g1,_,n,g2⟩:=ht;unfold Builtin.SmallTypes.nextOf;refine TH (Ui (name:=Str.ofString "__next__") hit.typeIs F.slot_tuple_iterator_next (Uj F.slot_tuple_iterator_next hit.typeIs F.entry_tuple_iterator_next ?_ (F.args_tuple_iterator_next_1 _)));show Tu _ _ (field (.ref it) 0 >>= _) _ _ s;refine TH (Ug h1 h3 (x:=.ref t) rfl ?_);show Tu _ _ (if(Value.ref t==Value.none)=true then _ else _) _ _ s;rw[if_neg (show¬((Value.ref t==Value.none)=true)from λz=>O7 z)];show Tu _ _ (field (.ref it) 1 >>= _) _ _ s;refine TH (Ug h1 h3 (x:=.int i 0) rfl ?_);show Tu _ _ (seqItems? (.ref t) >>= _) _ _ s;refine TH (Uy g1 g2 ?_);simp only[Px,hx];refine TH (Uz h1 h3 (by simp) (TF ⟨x,rfl,TF (hQ _ ⟨_,SF _ h1 (Obj.isFreed_of_fields (Obj.data_mapFields h3 _)),(Obj.cls_mapFields ..).trans h2,by rw[Obj.data_mapFields h3];simp[rawInt]⟩ (Heap.SameBut.update ..))⟩))
theorem Ay{it t:Td}{i:Nat}{its:Array S9}{Q:S9->Tg->Prop}(hh:A.handled=none)(hit:s.heap.IsTupleIter it t i)(ht:s.heap.IsTuple t its)(hx:its[i]?=none)
  (hE:∀g e,SG it s.heap g->(∃o,g.get? e=some o/\o.cls=.type "StopIteration")->E (.ref e) {s with heap:=g}):Tu (model prog w) A (Builtin.SmallTypes.nextOf (.ref it)) Q E s:=by
 obtain⟨ob,h1,h2,h3⟩:=id hit;obtain⟨ol,g1,_,n,g2⟩:=ht;unfold Builtin.SmallTypes.nextOf;refine TH (Ui (name:=Str.ofString "__next__") hit.typeIs F.slot_tuple_iterator_next (Uj F.slot_tuple_iterator_next hit.typeIs F.entry_tuple_iterator_next ?_ (F.args_tuple_iterator_next_1 _)));show Tu _ _ (field (.ref it) 0 >>= _) _ _ s;refine TH (Ug h1 h3 (x:=.ref t) rfl ?_);show Tu _ _ (if(Value.ref t==Value.none)=true then _ else _) _ _ s;rw[if_neg (show¬((Value.ref t==Value.none)=true)from λz=>O7 z)];show Tu _ _ (field (.ref it) 1 >>= _) _ _ s;refine TH (Ug h1 h3 (x:=.int i 0) rfl ?_);show Tu _ _ (seqItems? (.ref t) >>= _) _ _ s;refine TH (Uy g1 g2 ?_);simp only[Px,hx];refine TH (Uv (TH (Uz h1 h3 (by simp) ?_)));show Tu _ _ (newExc (.type "StopIteration") [] >>= _) _ _ _;refine TH ?_;simp only[newExc,newTuple];refine TH (Ul ?_ (by size_fits));refine TH (m:=firstArgMember _ _) (wpAny_of_eq (a:=Value.none) (by first|rfl|(simp only[firstArgMember];rfl)) ?_);refine Ul ?_ (by size_fits);simp only[raiseNew];refine TH (UA ?_)
 first|rw[show A.in1.handled=none from hh]|rw[hh]
 refine TH (TF (wpAny_throw ?_));exact hE _ _ (((Heap.SameBut.update ..).extBut.push _).push _) ⟨_,SD _ rfl,rfl⟩
end
theorem Im{prog:Ti}{w:Th}{A:Ts}(hh:A.handled=none)(it t:Td)(hne:t≠it)(its:Array S9):Draws prog w A it [it,t] its.size (λi v=>its[i]?=some v) (λi h=>h.IsTupleIter it t i/\h.IsTuple t its)where
 live:=λi h ⟨⟨o,e,_⟩,_⟩=>⟨o,e⟩
 frame:=λi h h' ⟨x,y⟩ k=>⟨x.at λo e=>k it (by simp) o e,let ⟨o,e,r⟩:=y;⟨o,k t (by simp) o e,r⟩⟩
 item:=λi s Q E hi ⟨x,y⟩ hQ=>xu x y (Array.getElem?_eq_getElem hi) λg hg hs=>hQ _ g s.toks (Array.getElem?_eq_getElem hi) ⟨hg,let ⟨o,e,r⟩:=y;⟨o,(hs.2 t hne).trans e,r⟩⟩ hs
 done:=λs Q E ⟨x,y⟩ hE=>Ay hh x y (by simp) hE
structure Apart(z TI TO i1 i2:Td)(fp1 fp2:List Td):Prop where
 a1:TI≠z
 a2:TO≠z
 a3:TI≠TO
 b1:z∉fp1
 b2:TO∉fp1
 b3:i2∉fp1
 c1:z∉fp2
 c2:TO∉fp2
 c3:i1∉fp2
 d1:TI≠i1
 d2:TI≠i2
 e1:i1∈fp1
 e2:i2∈fp2
section
variable{prog:Ti}{w:Th}{A:Ts}{E:S9->Tg->Prop}{s:Tg}{z TI TO i1 i2:Td}{fp1 fp2:List Td}{n1 n2 i:Nat}{P1 P2:Nat->S9->Prop}{S1 S2:Nat->Tl->Prop}{a b:S9}
theorem next_item{Q:S9->Tg->Prop}(Ap:Apart z TI TO i1 i2 fp1 fp2)(D1:Draws prog w A i1 fp1 n1 P1 S1)(D2:Draws prog w A i2 fp2 n2 P2 S2)(hz:UB s.heap z TI TO .none)(hTI:UC s.heap TI (.ref i1) (.ref i2))(hTO:UC s.heap TO a b)(st1:S1 i s.heap)(st2:S2 i s.heap)(l1:i<n1)(l2:i<n2)
  (hQ:∀ x y g tk,P1 i x->P2 i y->UB g z TI TO (rawInt s.heap.objs.size)->UC g TO x y->S1 (i+1) g->S2 (i+1) g->UC g s.heap.objs.size x y->g.objs.size=s.heap.objs.size+1 ->
   (∀c o,c≠z->c≠TO->c≠i1->c≠i2->s.heap.get? c=some o->g.get? c=some o)->Q (.ref s.heap.objs.size) {s with heap:=g,toks:=tk}):
  Tu (model prog w) A (Builtin.«zip.__next__» ⟨[.ref z],[]⟩) (λfin s'=>∃v,fin=.done (.ret v)/\Q v s') E s:=by
 have n1z:i1≠z:=λe=>Ap.b1 (e ▸ Ap.e1);have n2z:i2≠z:=λe=>Ap.c1 (e ▸ Ap.e2);have n1T:i1≠TO:=λe=>Ap.b2 (e ▸ Ap.e1);have n2T:i2≠TO:=λe=>Ap.c2 (e ▸ Ap.e2);show Tu _ _ (field (.ref z) 2 >>= _) _ _ _;refine TH (Ug hz rfl (x:=.bool false) rfl ?_);show Tu _ _ (field (.ref z) 3 >>= _) _ _ _;refine TH (Ug hz rfl (x:=.ref TI) rfl ?_);refine TH (Uy hTI rfl ?_);show Tu _ _ (Builtin.SmallTypes.ownedTupleIsFree (.ref z) >>= _) _ _ _;refine TH ?_;unfold Builtin.SmallTypes.ownedTupleIsFree;refine TH (Ug hz rfl (x:=.none) rfl (TF ?_));simp only[if_true];refine TH (Uv ?_);refine TH (Ug hz rfl (x:=.ref TO) rfl ?_);refine TH (UD hz (by simp) λg1 hz1 k1=>?_);have hz1:UB g1 z TI TO .ellipsis:=hz1;refine TH ?_;simp only[Qu,List.zipIdx_nil,PX,List.forIn_nil];refine TH (TH (UE ?_));show Tu _ _ (Builtin.SmallTypes.nextOf (.ref i1) >>= _) _ _ _;have q1:S1 i g1:=D1.frame _ _ _ st1 λb hb o e=>k1.extBut _ _ (λz'=>Ap.b1 (z' ▸ hb)) e;refine TH (D1.item i {s with heap:=g1} _ _ l1 q1 λx g2 tk2 p1 q2 k2=>TF ?_);have t2:UC g2 TO a b:=k2.extBut _ _ n1T.symm (k1.extBut _ _ Ap.a2 hTO);refine TH (Uy t2 rfl ?_);refine TH (UG t2 λg3 t3 k3=>?_);have t3:UC g3 TO x b:=t3;refine TH (UH (TF ?_));refine TH (TH (UE ?_));show Tu _ _ (Builtin.SmallTypes.nextOf (.ref i2) >>= _) _ _ _;have q3:S2 i g3:=D2.frame _ _ _ st2 λb hb o e=>k3.extBut _ _ (λz'=>Ap.c2 (z' ▸ hb)) (k2.extBut _ _ (λz'=>Ap.c3 (z' ▸ hb)) (k1.extBut _ _ (λz'=>Ap.c1 (z' ▸ hb)) e));refine TH (D2.item i {s with heap:=g3,toks:=tk2} _ _ l2 q3 λy g4 tk4 p2 q4 k4=>TF ?_);have t4:UC g4 TO x b:=k4.extBut _ _ n2T.symm t3;refine TH (Uy t4 rfl ?_);refine TH (UG t4 λg5 t5 k5=>?_);have t5:UC g5 TO x y:=t5;refine TH (UH (TF (TF ?_)));refine TH (Uy t5 rfl ?_);refine TH (UI ?_);have hsz:g5.objs.size=s.heap.objs.size:=by rw[k5.1,k4.1,k3.1,k2.1,k1.1]
 have hz5:UB g5 z TI TO .ellipsis:=k5.extBut _ _ Ap.a2.symm (k4.extBut _ _ n2z.symm (k3.extBut _ _ Ap.a2.symm (k2.extBut _ _ n1z.symm hz1)));have k15:∀c o,c≠z->c≠TO->c≠i1->c≠i2->s.heap.get? c=some o->g5.get? c=some o:=λc o c1 c2 c3 c4 e=>k5.extBut _ _ c2 (k4.extBut _ _ c4 (k3.extBut _ _ c2 (k2.extBut _ _ c3 (k1.extBut _ _ c1 e))));have r1:S1 (i+1) g5:=D1.frame _ _ _ q2 λb hb o e=>k5.extBut _ _ (λz'=>Ap.b2 (z' ▸ hb)) (k4.extBut _ _ (λz'=>Ap.b3 (z' ▸ hb)) (k3.extBut _ _ (λz'=>Ap.b2 (z' ▸ hb)) e));have r2:S2 (i+1) g5:=D2.frame _ _ _ q4 λb hb o e=>k5.extBut _ _ (λz'=>Ap.c2 (z' ▸ hb)) e;have lz:z<g5.objs.size:=Sx hz5;show Tu _ _ (Builtin.SmallTypes.ownedTupleHandOut (.ref z) (.ref g5.objs.size) >>= _) _ _ _;refine TH ?_;unfold Builtin.SmallTypes.ownedTupleHandOut;have hz6:UB (g5.push {cls:=.type "tuple",data:=.seq #[x,y]}) z TI TO .ellipsis:=SA _ hz5;refine TH (UD hz6 (by simp) λg7 hz7 k7=>?_);have hz7:UB g7 z TI TO (rawInt g5.objs.size):=hz7;refine UD hz7 (by simp) λg8 hz8 k8=>?_;have hz8:UB g8 z TI TO (rawInt g5.objs.size):=hz8;have up:∀c o,c≠z->g5.get? c=some o->g8.get? c=some o:=λc o c1 e=>k8.extBut _ _ c1 (k7.extBut _ _ c1 (SA _ e));have t8:UC g8 g5.objs.size x y:=k8.extBut _ _ (OZ lz) (k7.extBut _ _ (OZ lz) (SD _ rfl));have s8:g8.objs.size=g5.objs.size+1:=by rw[k8.1,k7.1,SE]
 rw[hsz]at hz8 t8 s8;refine TF ⟨_,rfl,?_⟩;show Q (.ref g5.objs.size) _;rw[hsz];exact hQ x y g8 tk4 p1 p2 hz8 (up _ _ Ap.a2 t5) (D1.frame _ _ _ r1 λb hb o e=>up b o (λz'=>Ap.b1 (z' ▸ hb)) e) (D2.frame _ _ _ r2 λb hb o e=>up b o (λz'=>Ap.c1 (z' ▸ hb)) e) t8 s8 λc o c1 c2 c3 c4 e=>up c o c1 (k15 c o c1 c2 c3 c4 e)
theorem next_end{Q:Fin->Tg->Prop}(Ap:Apart z TI TO i1 i2 fp1 fp2)(D1:Draws prog w A i1 fp1 n1 P1 S1)(D2:Draws prog w A i2 fp2 n2 P2 S2)(hz:UB s.heap z TI TO .none)(hTI:UC s.heap TI (.ref i1) (.ref i2))(hTO:UC s.heap TO a b)(st1:S1 i s.heap)(st2:S2 i s.heap)(hend:i=n1\/(i<n1/\i=n2))
  (hE:∀g e tk,(∀c o,c≠z->c≠TO->c≠i1->c≠i2->s.heap.get? c=some o->g.get? c=some o)->(∃o,g.get? e=some o/\o.cls=.type "StopIteration")->E (.ref e) {s with heap:=g,toks:=tk}):
  Tu (model prog w) A (Builtin.«zip.__next__» ⟨[.ref z],[]⟩) Q E s:=by
 have n1z:i1≠z:=λe=>Ap.b1 (e ▸ Ap.e1);have n2z:i2≠z:=λe=>Ap.c1 (e ▸ Ap.e2);have n1T:i1≠TO:=λe=>Ap.b2 (e ▸ Ap.e1);show Tu _ _ (field (.ref z) 2 >>= _) _ _ _;refine TH (Ug hz rfl (x:=.bool false) rfl ?_);show Tu _ _ (field (.ref z) 3 >>= _) _ _ _;refine TH (Ug hz rfl (x:=.ref TI) rfl ?_);refine TH (Uy hTI rfl ?_);show Tu _ _ (Builtin.SmallTypes.ownedTupleIsFree (.ref z) >>= _) _ _ _;refine TH ?_;unfold Builtin.SmallTypes.ownedTupleIsFree;refine TH (Ug hz rfl (x:=.none) rfl (TF ?_));simp only[if_true];refine TH (Uv ?_);refine TH (Ug hz rfl (x:=.ref TO) rfl ?_);refine TH (UD hz (by simp) λg1 hz1 k1=>?_);have hz1:UB g1 z TI TO .ellipsis:=hz1;refine TH ?_;simp only[Qu,List.zipIdx_nil,PX,List.forIn_nil];refine TH (TH (UE ?_));show Tu _ _ (Builtin.SmallTypes.nextOf (.ref i1) >>= _) _ _ _;have q1:S1 i g1:=D1.frame _ _ _ st1 λb hb o e=>k1.extBut _ _ (λz'=>Ap.b1 (z' ▸ hb)) e;rcases hend with hend|⟨l1,hend⟩
 ·subst hend;refine TH (D1.done {s with heap:=g1} _ _ q1 λg2 e k2 he=>?_);obtain⟨oe,hoe,hce⟩:=he;have hz2:UB g2 z TI TO .ellipsis:=k2 _ _ n1z.symm hz1;have hez:e≠z:=λx=>by rw[x,hz2]at hoe;cases hoe;simp at hce
  exact UD hz2 (by simp) λg3 _ k3=>hE g3 e s.toks (λc o c1 _ c3 _ x=>k3.extBut _ _ c1 (k2 _ _ c3 (k1.extBut _ _ c1 x))) ⟨oe,k3.extBut _ _ hez hoe,hce⟩
 ·refine TH (D1.item i {s with heap:=g1} _ _ l1 q1 λx g2 tk2 p1 q2 k2=>TF ?_);have t2:UC g2 TO a b:=k2.extBut _ _ n1T.symm (k1.extBut _ _ Ap.a2 hTO);refine TH (Uy t2 rfl ?_);refine TH (UG t2 λg3 t3 k3=>?_);refine TH (UH (TF ?_));refine TH (TH (UE ?_));show Tu _ _ (Builtin.SmallTypes.nextOf (.ref i2) >>= _) _ _ _;have q3:S2 i g3:=D2.frame _ _ _ st2 λb hb o e=>k3.extBut _ _ (λz'=>Ap.c2 (z' ▸ hb)) (k2.extBut _ _ (λz'=>Ap.c3 (z' ▸ hb)) (k1.extBut _ _ (λz'=>Ap.c1 (z' ▸ hb)) e));subst hend;refine TH (D2.done {s with heap:=g3,toks:=tk2} _ _ q3 λg4 e k4 he=>?_);obtain⟨oe,hoe,hce⟩:=he;have hz4:UB g4 z TI TO .ellipsis:=k4 _ _ n2z.symm (k3.extBut _ _ Ap.a2.symm (k2.extBut _ _ n1z.symm hz1));have hez:e≠z:=λx=>by rw[x,hz4]at hoe;cases hoe;simp at hce
  exact UD hz4 (by simp) λg5 _ k5=>hE g5 e tk2 (λc o c1 c2 c3 c4 x=>k5.extBut _ _ c1 (k4 _ _ c4 (k3.extBut _ _ c2 (k2.extBut _ _ c3 (k1.extBut _ _ c1 x))))) ⟨oe,k5.extBut _ _ hez hoe,hce⟩
end
noncomputable def SQ(b:Bool)(h:Tl)(l:Td)(xs:Array S9):Prop:=if b then h.IsList l xs else h.IsTuple l xs
noncomputable def SI(b:Bool)(h:Tl)(i l:Td)(k:Nat):Prop:=if b then h.IsListIter i l k else h.IsTupleIter i l k
noncomputable def K7(b:Bool):String:=if b then"list_iterator"else"tuple_iterator"
theorem SQ.keep{b:Bool}{h h':Tl}{l:Td}{xs:Array S9}(x:SQ b h l xs)(k:∀o,h.get? l=some o->h'.get? l=some o):SQ b h' l xs:=by
 cases b with
 |true=>exact Heap.IsList.at x k
 |false=>obtain⟨o,e,r⟩:=(show h.IsTuple l xs from x);exact(show h'.IsTuple l xs from⟨o,k o e,r⟩)
theorem SI.keep{b:Bool}{h h':Tl}{i l:Td}{n:Nat}(x:SI b h i l n)(k:∀o,h.get? i=some o->h'.get? i=some o):SI b h' i l n:=by
 cases b with
 |true=>exact Heap.IsListIter.at x k
 |false=>exact Heap.IsTupleIter.at x k
theorem SQ.lt{b:Bool}{h:Tl}{l:Td}{xs:Array S9}(x:SQ b h l xs):l<h.objs.size:=by
 cases b with
 |true=>obtain⟨o,e,_⟩:=(show h.IsList l xs from x);exact Sx e
 |false=>obtain⟨o,e,_⟩:=(show h.IsTuple l xs from x);exact Sx e
theorem SI.get{b:Bool}{h:Tl}{i l:Td}{n:Nat}(x:SI b h i l n):∃o,h.get? i=some o/\∀v,o.data≠.cell v:=by
 cases b with
 |true=>obtain⟨o,e,_,d⟩:=(show h.IsListIter i l n from x);exact⟨o,e,λv z=>by rw[d]at z;cases z⟩
 |false=>obtain⟨o,e,_,d⟩:=(show h.IsTupleIter i l n from x);exact⟨o,e,λv z=>by rw[d]at z;cases z⟩
theorem SI.new{b:Bool}{h:Tl}{l:Td}:SI b (h.push {cls:=.type (K7 b),data:=.fields #[.ref l,.int 0 0]}) h.objs.size l 0:=by
 cases b with
 |true=>exact⟨_,SD _ rfl,rfl,rfl⟩
 |false=>exact⟨_,SD _ rfl,rfl,rfl⟩
theorem pQ{b:Bool}{prog:Ti}{w:Th}{A:Ts}{E:S9->Tg->Prop}{s:Tg}{l:Td}{xs:Array S9}{Q:S9->Tg->Prop}(h:SQ b s.heap l xs)
  (hQ:Q (.ref s.heap.objs.size) {s with heap:=s.heap.push {cls:=.type (K7 b),data:=.fields #[.ref l,.int 0 0]}}):Tu (model prog w) A (pyIter (.ref l)) Q E s:=by
 cases b with
 |true=>exact TJ h hQ
 |false=>exact wpAny_pyIter_tuple h hQ
theorem kn{prog:Ti}{w:Th}{A:Ts}(b:Bool)(hh:A.handled=none)(it l:Td)(hne:l≠it)(its:Array S9):Draws prog w A it [it,l] its.size (λi v=>its[i]?=some v) (λi h=>SI b h it l i/\SQ b h l its):=by
 cases b with
 |true=>exact Draws.list hh it l hne its
 |false=>exact Im hh it l hne its
noncomputable abbrev AO(b1:Bool)(h:Tl)(l1:Td):Tl:=h.push {cls:=.type (K7 b1),data:=.fields #[.ref l1,.int 0 0]}
noncomputable abbrev JY(b1 b2:Bool)(h:Tl)(l1 l2:Td):Tl:=(AO b1 h l1).push {cls:=.type (K7 b2),data:=.fields #[.ref l2,.int 0 0]}
noncomputable abbrev Lr(b1 b2:Bool)(h:Tl)(l1 l2:Td):Tl:=(JY b1 b2 h l1 l2).push {cls:=.type "tuple",data:=.seq #[.ref h.objs.size,.ref (AO b1 h l1).objs.size]}
noncomputable abbrev Lg(b1 b2:Bool)(h:Tl)(l1 l2:Td):Tl:=(Lr b1 b2 h l1 l2).push {cls:=.type "tuple",data:=.seq #[.none,.none]}
noncomputable abbrev Gm(b1 b2:Bool)(h:Tl)(l1 l2:Td):Tl:=(Lg b1 b2 h l1 l2).push {cls:=.type "zip",data:=.fields #[.none,.bool false,.bool false,.ref (JY b1 b2 h l1 l2).objs.size,.ref (Lr b1 b2 h l1 l2).objs.size]}
theorem Bl(b1 b2:Bool)(l1 l2:Td)(xs ys:Array S9):Meets (Builtin.«zip.__new__» ⟨[.type "zip",.ref l1,.ref l2],[]⟩) (λ_ R s=>SQ b1 s.heap l1 xs/\SQ b2 s.heap l2 ys/\R (.ok (.ret (.ref (Lg b1 b2 s.heap l1 l2).objs.size))) {s with heap:=Gm b1 b2 s.heap l1 l2}):=
 .of_wp λprog w A R s h=>by
  obtain⟨hp,g,d,tk,os⟩:=s;obtain⟨q1,q2,h⟩:=h;have hsub:=sub_zip;have e1:SQ b1 (Shared.heap ⟨hp,g,d,tk,os⟩) l1 xs:=q1;have e2:SQ b2 (Shared.heap ⟨AO b1 hp l1,g,d,tk,os⟩) l2 ys:=q2.keep λo e=>SA _ e
  wp_walk using pQ e1,pQ e2
  exact⟨_,rfl,h⟩
theorem BZ{prog:Ti}{w:Th}{A:Ts}{E:S9->Tg->Prop}{s:Tg}{b1 b2:Bool}{l1 l2:Td}{xs ys:Array S9}{Q:S9->Tg->Prop}(h1:SQ b1 s.heap l1 xs)(h2:SQ b2 s.heap l2 ys)
  (h:∀ g,UB g (s.heap.objs.size+4) (s.heap.objs.size+2) (s.heap.objs.size+3) .none->UC g (s.heap.objs.size+2) (.ref s.heap.objs.size) (.ref (s.heap.objs.size+1))->UC g (s.heap.objs.size+3) .none .none->SI b1 g s.heap.objs.size l1 0->SI b2 g (s.heap.objs.size+1) l2 0 ->
   (∀c o,s.heap.get? c=some o->g.get? c=some o)->Q (.ref (s.heap.objs.size+4)) {s with heap:=g}):Tu (model prog w) A (call (.type "zip") [.ref l1,.ref l2]) Q E s:=by
 refine callType_new F.called_zip (by decide) (F.typeCall_zip_2 _ _) (F.newCall_zip_2 _ _) (λobj=>F.args_object_init_3 obj _ _) F.entry_zip_new (Bl b1 b2 l1 l2 xs ys) ⟨h1,h2,?_⟩;have z1:(AO b1 s.heap l1).objs.size=s.heap.objs.size+1:=SE ..
 have z2:(JY b1 b2 s.heap l1 l2).objs.size=s.heap.objs.size+2:=by rw[SE,z1]
 have z3:(Lr b1 b2 s.heap l1 l2).objs.size=s.heap.objs.size+3:=by rw[SE,z2]
 have z4:(Lg b1 b2 s.heap l1 l2).objs.size=s.heap.objs.size+4:=by rw[SE,z3]
 have u1:∀c o,(AO b1 s.heap l1).get? c=some o->(Gm b1 b2 s.heap l1 l2).get? c=some o:=λc o e=>SA _ (SA _ (SA _ (SA _ e)));have u2:∀c o,(JY b1 b2 s.heap l1 l2).get? c=some o->(Gm b1 b2 s.heap l1 l2).get? c=some o:=λc o e=>SA _ (SA _ (SA _ e));have g5:(Gm b1 b2 s.heap l1 l2).get? (Lg b1 b2 s.heap l1 l2).objs.size=some _:=SD _ rfl;have g4:(Gm b1 b2 s.heap l1 l2).get? (Lr b1 b2 s.heap l1 l2).objs.size=some _:=SA _ (SD _ rfl);have g3:(Gm b1 b2 s.heap l1 l2).get? (JY b1 b2 s.heap l1 l2).objs.size=some _:=SA _ (SA _ (SD _ rfl));have g2:SI b2 (Gm b1 b2 s.heap l1 l2) (AO b1 s.heap l1).objs.size l2 0:=SI.keep (SI.new (h:=AO b1 s.heap l1)) λo e=>u2 _ o e;have g1:SI b1 (Gm b1 b2 s.heap l1 l2) s.heap.objs.size l1 0:=SI.keep SI.new λo e=>u1 _ o e;show _/\_;rw[z2,z3,z4]at g5;rw[z1,z2]at g3;rw[z3]at g4;rw[z1]at g2;rw[z4];exact⟨⟨_,g5,rfl⟩,h _ g5 g3 g4 g1 g2 λc o e=>u1 c o (SA _ e)⟩
theorem zW(b : Bool)(l : Td)(xs : Array S9): Meets (Builtin.«enumerate.__new__» ⟨[.type "enumerate", .ref l], []⟩) (fun _ R s => SQ b s.heap l xs /\
      R (.ok (.ret (.ref (AO b s.heap l).objs.size))) {s with heap:=(AO b s.heap l).push {cls:=.type "enumerate",data:=.fields #[.none,.bool false,.ref s.heap.objs.size,rawInt 0,.none,.none]}}):=
  .of_wp λprog w A R s h=>by
    obtain⟨hp,g,d,tk,os⟩:=s;obtain⟨q1,h⟩:=h;have hsub:=sub_enumerate;have e1:SQ b (Shared.heap ⟨hp,g,d,tk,os⟩) l xs:=q1
    wp_walk using pQ e1
    refine wpAny_stack_any λst=>TF ?_;split
    · rename_i c _ _ _ _ _
      cases(c==Value.type "enumerate")<;>(wp_walk using pQ e1;exact⟨_,rfl,h⟩)
    · wp_walk using pQ e1
      exact⟨_,rfl,h⟩
end ZI
namespace TG
open PySem PySem.Spec L2 ZI
variable[aA]
section
variable{X:Cx}{pins:bc}{σ:St}{H:Hp}{s:Tg}{h':Tl}
theorem Inv.turnedL{ch:ax}{p:Td}{o:HO}{t':Nat}(I:Inv X pins σ H s)(hf:∀b∈ch,qV X pins H b)(k:∀b u,b∉ch->s.heap.get? b=some u->h'.get? b=some u)(hp:s.heap.objs.size<=p)(new:b7 X.prog X.w (upd H p o) h' p o):
  Inv X pins σ (upd H p o) {s with heap:=h',toks:=t'}:=by
 have hn:=I.hok.fresh hp;have nch:∀b u,H b=some u->b∉ch:=λb u e z=>by rw[(hf b z).1]at e;cases e
 refine I.step (g':=s.gens) (d':=s.drawn) (ch:=ch) (λb hb=>?_) (λb o _ _ hc e _=>k b o hc e) (λb o _ _ hc e _=>⟨o.slots,k b o hc e⟩) (λb u _ q n=>by rw[ao (OO (OL (Sx q) hp))];exact n)
  (λb o hc e=>⟨o,k b o hc e⟩) (λb xs q=>by rw[ao (aD q hn)];exact q) (λb u xs q=>by rw[ao (aD q hn)];exact q) (λb ps q=>⟨#[],by rw[ao (aD q hn),q];simp⟩) (λm hm=>?_) (λb u e=>?_) I.bare
 ·obtain⟨_,f1,_,f3,f4,f5⟩:=hf b hb;exact⟨f3,f1,f4,f5⟩
 ·obtain⟨o,es,ep,ho,r⟩:=hm;exact⟨o,es,ep,k _ o (λz=>(hf _ z).2.1 rfl) ho,r⟩
 ·by_cases hb:b=p
  ·subst hb;rw[av]at e;cases e;exact new
  ·rw[ao hb]at e;refine(I.hok b u e).stay (λc v hc q=>k c v ?_ q) (λc q=>by rw[ao (aD q hn)];exact q) λc xs q=>by rw[ao (aD q hn)];exact q
   rcases hc with z|z
   ·rw[z];exact nch b u e
   ·exact nch c _ z
theorem Inv.turned0{ch:ax}{t':Nat}(I:Inv X pins σ H s)(hf:∀b∈ch,qV X pins H b)(k:∀b u,b∉ch->s.heap.get? b=some u->h'.get? b=some u):Inv X pins σ H {s with heap:=h',toks:=t'}:=by
 have nch:∀b u,H b=some u->b∉ch:=λb u e z=>by rw[(hf b z).1]at e;cases e
 refine I.step (g':=s.gens) (d':=s.drawn) (ch:=ch) (λb hb=>?_) (λb o _ _ hc e _=>k b o hc e) (λb o _ _ hc e _=>⟨o.slots,k b o hc e⟩) (λ_ _ _ _ n=>n)
  (λb o hc e=>⟨o,k b o hc e⟩) (λ_ _ e=>e) (λ_ _ _ e=>e) (λb ps e=>⟨#[],by rw[e];simp⟩) (λm hm=>?_) (λb u e=>?_) I.bare
 ·obtain⟨_,f1,_,f3,f4,f5⟩:=hf b hb;exact⟨f3,f1,f4,f5⟩
 ·obtain⟨o,es,ep,ho,r⟩:=hm;exact⟨o,es,ep,k _ o (λz=>(hf _ z).2.1 rfl) ho,r⟩
 ·refine(I.hok b u e).stay (λc v hc q=>k c v ?_ q) (λ_ q=>q) λ_ _ q=>q;rcases hc with z|z
  ·rw[z];exact nch b u e
  ·exact nch c _ z
end
noncomputable def SX(K:RY)(b:Bool)(H:Hp)(a:Td)(xs:aK):Prop:=if b then lT K H a xs else nX K H a xs
theorem SX.same{K:RY}{b:Bool}{H H':Hp}{a:Td}{xs:aK}(e:aR H H')(h:SX K b H a xs):SX K b H' a xs:=by
 cases b with
 |true=>exact e.seq (show lT K H a xs from h)
 |false=>exact zS e (show nX K H a xs from h)
section
variable{X:Cx}{pins:bc}{σ:St}{H:Hp}{s:Tg}
theorem Inv.sx(I:Inv X pins σ H s){b:Bool}{a:Td}{xs:aK}(h:SX X.K b H a xs):∃its:aU,Vals xs its/\SQ b s.heap a its.toArray/\xs.length<=Tn:=by
 cases b with
 |true=>obtain⟨its,r,p,z⟩:=I.list (show lT X.K H a xs from h);exact⟨its,r,p.isList,z⟩
 |false=>obtain⟨its,r,p,z⟩:=I.tuple (show nX X.K H a xs from h);exact⟨its,r,p,z⟩
theorem Inv.sx_inj(I:Inv X pins σ H s){b:Bool}{a:Td}{xs ys:aK}(h:SX X.K b H a xs)(h':SX X.K b H a ys):xs=ys:=by
 cases b with
 |true=>exact I.list_inj h h'
 |false=>exact I.tuple_inj h h'
end
noncomputable def Nz(K:RY)(b1 b2:Bool)(a1 a2:Td):It:=
  ⟨fun i H=>∃ xs ys,SX K b1 H a1 xs/\SX K b2 H a2 ys/\i < xs.length/\i < ys.length,
   λi H v H'=>∃p x y,v=.ref p/\H p=none/\H'=upd H p (.tup [x,y])/\(∀xs,SX K b1 H a1 xs->xs[i]?=some x)/\∀ys,SX K b2 H a2 ys->ys[i]?=some y,
   λi H=>∃xs ys,SX K b1 H a1 xs/\SX K b2 H a2 ys/\(i=xs.length\/(i<xs.length/\i=ys.length))⟩
theorem C1{P:Ti}{w:Th}{K:RY}{es:bz}{k:Nat}{pos:Pos}{b1 b2:Bool}{a1 a2 z TI TO i1 i2:Td}(Ap:Apart z TI TO i1 i2 [i1,a1] [i2,a2])(n1:a1≠i1)(n2:a2≠i2)(n3:z≠i1)(n4:z≠i2):Turn P w K (.Tuple es k pos) (Nz K b1 b2 a1 a2) [z,TI,TO,i1,i2] z
  (λi h=>UB h z TI TO .none/\UC h TI (.ref i1) (.ref i2)/\(∃a b,UC h TO a b)/\SI b1 h i1 a1 i/\SI b2 h i2 a2 i)where
 mem:=by simp
 obj:=λi h ⟨hz,hI,⟨a,b,hO⟩,s1,s2⟩ c hc=>by
  simp only[Qv,Qw,or_false]at hc;rcases hc with rfl|rfl|rfl|rfl|rfl
  ·exact⟨_,hz,λv q=>by cases q⟩
  ·exact⟨_,hI,λv q=>by cases q⟩
  ·exact⟨_,hO,λv q=>by cases q⟩
  ·exact s1.get
  ·exact s2.get
 keep:=λi h h' ⟨hz,hI,⟨a,b,hO⟩,s1,s2⟩ kp=>⟨kp z (by simp) _ hz,kp TI (by simp) _ hI,⟨a,b,kp TO (by simp) _ hO⟩,s1.keep λo e=>kp i1 (by simp) o e,s2.keep λo e=>kp i2 (by simp) o e⟩
 item:=by
  rintro X hP hw hK hc i pins s σ H E I hf ⟨hz,hI,⟨a,b,hO⟩,s1,s2⟩ hg;subst hP hw hK;obtain⟨xs,ys,g1,g2,l1,l2⟩:=hg;obtain⟨its1,r1,q1,z1⟩:=Inv.sx I g1;obtain⟨its2,r2,q2,z2⟩:=Inv.sx I g2;have hh:X.A.in1.handled=none:=I.ok.hd hc;have hT:s.TypeIs (.ref z) "zip":=⟨_,hz,rfl⟩
  unfold pyNext;refine TH (UJ (Ui (name:=Str.ofString "__next__") hT F.slot_zip_next (Uj F.slot_zip_next hT F.entry_zip_next
   (next_item Ap (kn (A:=X.A.in1) b1 hh i1 a1 n1 its1.toArray) (kn (A:=X.A.in1) b2 hh i2 a2 n2 its2.toArray) hz hI hO ⟨s1,q1⟩ ⟨s2,q2⟩ (by rw[O6,<-r1.length];exact l1) (by rw[O6,<-r2.length];exact l2) λu v g tk p1 p2 hz' hO' t1 t2 hp sz kp=>?_) (F.args_zip_next_1 _))))
  have e1:its1[i]?=some u:=by simpa using p1
  have e2:its2[i]?=some v:=by simpa using p2
  have hx:∃x,xs[i]?=some x/\RelV x u:=by
   obtain⟨u',hu,ru⟩:=r1.get (i:=i) (x:=xs[i]) (by simp[l1]);rw[e1]at hu;cases hu;exact⟨xs[i],by simp[l1],ru⟩
  have hy:∃y,ys[i]?=some y/\RelV y v:=by
   obtain⟨u',hu,ru⟩:=r2.get (i:=i) (x:=ys[i]) (by simp[l2]);rw[e2]at hu;cases hu;exact⟨ys[i],by simp[l2],ru⟩
  obtain⟨x,ex,rx⟩:=hx;obtain⟨y,ey,ry⟩:=hy;refine TF ⟨_,rfl,?_⟩;refine wpAny_letOwnedTupleGo_zip hz' λg' hz2 sb=>?_;have hpz:s.heap.objs.size≠z:=OZ (Sx hz);have hp':UC g' s.heap.objs.size u v:=sb.extBut _ _ hpz hp;have I':Inv X pins σ (upd H s.heap.objs.size (.tup [x,y])) {s with heap:=g',toks:=tk}:=Inv.turnedL (ch:=[z,TI,TO,i1,i2]) I hf (λc o hc e=>by
   simp only[Qv,Qw,or_false,not_or]at hc;exact sb.extBut _ _ hc.1 (kp c o hc.1 hc.2.2.1 hc.2.2.2.1 hc.2.2.2.2 e)) (O1 _) ⟨by show 2<=Tn;decide,[u,v],.cons rx (.cons ry .nil),_,hp',rfl,_,rfl⟩
  have fr:H s.heap.objs.size=none:=I.fresh;have ne:∀c∈[z,TI,TO,i1,i2],c≠s.heap.objs.size:=λc hc e=>by
   simp only[Qv,Qw,or_false]at hc;rcases hc with rfl|rfl|rfl|rfl|rfl
   ·exact hpz e.symm
   ·exact absurd (Sx hI) (by rw[e];exact OM _)
   ·exact absurd (Sx hO) (by rw[e];exact OM _)
   ·obtain⟨o,q,_⟩:=s1.get;exact absurd (Sx q) (by rw[e];exact OM _)
   ·obtain⟨o,q,_⟩:=s2.get;exact absurd (Sx q) (by rw[e];exact OM _)
  refine⟨.ref s.heap.objs.size,_,I',rfl,⟨_,x,y,rfl,fr,rfl,λxs' h=>by rw[Inv.sx_inj I h g1];exact ex,λys' h=>by rw[Inv.sx_inj I h g2];exact ey⟩,⟨hz2,?_,⟨u,v,sb.extBut _ _ Ap.a2 hO'⟩,?_,?_⟩,λc hc=>by rw[ao (ne c hc)];exact(hf c hc).1⟩
  ·exact sb.extBut _ _ Ap.a1 (kp TI _ Ap.a1 Ap.a3 Ap.d1 Ap.d2 hI)
  ·exact t1.1.keep λo e=>sb.extBut _ _ n3.symm e
  ·exact t2.1.keep λo e=>sb.extBut _ _ n4.symm e
 done:=by
  rintro X hP hw hK hc i pins s σ H E I hf ⟨hz,hI,⟨a,b,hO⟩,s1,s2⟩ hg;subst hP hw hK;obtain⟨xs,ys,g1,g2,hl⟩:=hg;obtain⟨its1,r1,q1,z1⟩:=Inv.sx I g1;obtain⟨its2,r2,q2,z2⟩:=Inv.sx I g2;have hh:X.A.in1.handled=none:=I.ok.hd hc;have hT:s.TypeIs (.ref z) "zip":=⟨_,hz,rfl⟩
  unfold pyNext;refine TH (UJ (Ui (name:=Str.ofString "__next__") hT F.slot_zip_next (Uj F.slot_zip_next hT F.entry_zip_next
   (next_end (i:=i) Ap (kn (A:=X.A.in1) b1 hh i1 a1 n1 its1.toArray) (kn (A:=X.A.in1) b2 hh i2 a2 n2 its2.toArray) hz hI hO ⟨s1,q1⟩ ⟨s2,q2⟩ (by rw[O6,O6,<-r1.length,<-r2.length];exact hl) λg e tk kp he=>?_) (F.args_zip_next_1 _))))
  obtain⟨o,ho,hce⟩:=he;refine TH (UK (T:="StopIteration") (b:=true) ⟨o,ho,hce⟩ UL ?_);refine TF ⟨rfl,Inv.turned0 (ch:=[z,TI,TO,i1,i2]) I hf λc o hc e=>?_⟩;simp only[Qv,Qw,or_false,not_or]at hc;exact kp c o hc.1 hc.2.2.1 hc.2.2.2.1 hc.2.2.2.2 e
 self:=λ_ _ _ _ _ ⟨hz,_⟩ h=>wpAny_pyIter_zip hz h
noncomputable def Ek:D->Option (Bool×List D)
 |.lst xs=>some (true,xs)
 |.tup xs=>some (false,xs)
 |_=>none
theorem pI{K:RY}{H:Hp}{d:D}{b:Bool}{xs:List D}{v:V}(e:Ek d=some (b,xs))(h:cq K H d v):∃a vs,v=.ref a/\SX K b H a vs/\aI K H xs vs:=by
 cases d with
 |lst ys=>cases e;exact bX.mp h
 |tup ys=>cases e;obtain⟨a,vs,e1,e2,e3⟩:=bW.mp h;exact⟨a,vs,e1,nX.of e2,e3⟩
 |_=>cases e
noncomputable def gG:List D->List D->List D
 |x::xs,y::ys=>.tup [x,y]::gG xs ys
 |_,_=>[]
theorem ow:∀xs ys:List D,(gG xs ys).length=min xs.length ys.length
 |[],_=>by simp[gG]
 |_::_,[]=>by simp[gG]
 |x::xs,y::ys=>by
  rw[gG,O8,ow xs ys,O8,O8];omega
theorem u6:∀{xs ys:List D}{i:Nat}{d:D},(gG xs ys)[i]?=some d->∃x y,xs[i]?=some x/\ys[i]?=some y/\d=.tup [x,y]
 |[],_,i,d,h=>by simp[gG]at h
 |_::_,[],i,d,h=>by simp[gG]at h
 |x::xs,y::ys,0,d,h=>by
  rw[gG,Qx]at h;cases h;exact⟨x,y,rfl,rfl,rfl⟩
 |x::xs,y::ys,i+1,d,h=>by
  rw[gG,Qy]at h;obtain⟨a,b,h1,h2,h3⟩:=u6 h;exact⟨a,b,by rw[Qy];exact h1,by rw[Qy];exact h2,h3⟩
theorem Bo{K:RY}{Hd:Hp}{b1 b2:Bool}{a1 a2:Td}{ds es:List D}{vs ws:aK}(h1:SX K b1 Hd a1 vs)(g1:aI K Hd ds vs)(h2:SX K b2 Hd a2 ws)(g2:aI K Hd es ws):Walk K Hd (Nz K b1 b2 a1 a2) (gG ds es):=λHn O' i hO sm=>
  have s':aR Hd Hn:=sm.trans (aq Hn O')
  ⟨fun d e=>by
    obtain⟨x,y,e1,e2,rfl⟩:=u6 e;have l1:i<ds.length:=(List.getElem?_eq_some_iff.mp e1).1;have l2:i<es.length:=(List.getElem?_eq_some_iff.mp e2).1;obtain⟨v,ev,dv⟩:=g1.get e1;obtain⟨w,ew,dw⟩:=g2.get e2;refine⟨⟨vs,ws,h1.same s',h2.same s',by rw[<-g1.length];exact l1,by rw[<-g2.length];exact l2⟩,λu H2 ⟨p,x',y',eu,hp,eH,q1,q2⟩=>?_⟩;have z1:=q1 vs (h1.same s');rw[ev]at z1;cases z1;have z2:=q2 ws (h2.same s');rw[ew]at z2;cases z2;subst eH eu;exact⟨bj hp _,dY hO hp (bb.mpr ⟨v,_,rfl,dv.mono sm,bb.mpr ⟨w,_,rfl,dw.mono sm,cw.mpr rfl⟩⟩)⟩,
   λhl=>by
    rw[ow]at hl;refine⟨vs,ws,h1.same s',h2.same s',?_⟩;rw[<-g1.length,<-g2.length]
    omega⟩
noncomputable def rh:List D->Option (List D)
 |[a,b]=>(Ek a).bind λx=>(Ek b).bind λy=>some (gG x.2 y.2)
 |_=>none
noncomputable def oT(f:bC):bC:=λρ=>(f ρ).bind λds=>rO (rh ds)
section
variable{X:Cx}
theorem HK{a b c:Td}(h1:a≠b)(h2:a≠c):a∉[b,c]:=λh=>by
 rcases List.mem_cons.mp h with z|z
 ·exact h1 z
 ·exact h2 (List.mem_singleton.mp z)
theorem z7{n a1 a2:Td}(h1:a1<n)(h2:a2<n):Apart (n+4) (n+2) (n+3) n (n+1) [n,a1] [n+1,a2]:=by
 have lt:∀{a b:Nat},a<b->(b:Td)≠(a:Td):=λh=>OZ h;have lt':∀{a b:Nat},a<b->(a:Td)≠(b:Td):=λh=>OO h;have g:∀k:Nat,a1<n+k:=λk=>OL h1 (Qz _ _);have g':∀k:Nat,a2<n+k:=λk=>OL h2 (Qz _ _);have p:∀{j k:Nat},j<k->n+j<n+k:=λh=>QA h n;have p0:∀{k:Nat},0<k->n<n+k:=λh=>QB h;exact⟨lt' (p (by decide)),lt' (p (by decide)),lt' (p (by decide)),HK (lt (p0 (by decide))) (lt (g 4)),HK (lt (p0 (by decide))) (lt (g 3)),HK (lt (p0 (by decide))) (lt (g 1)),
  HK (lt (p (by decide))) (lt (g' 4)),HK (lt (p (by decide))) (lt (g' 3)),HK (lt' (p0 (by decide))) (lt h2),lt (p0 (by decide)),lt (p (by decide)),OU,OU⟩
theorem Jr{pins:bc}{s:Tg}{σ:St}{H:Hp}{O:ax}{es:bz}{k:Nat}{tpos:Pos}{ds r:List D}{vs:aK}{us:aU}{RR:It->Hp->Prop}(I:Inv X pins σ H s)(hc:rh ds=some r)(d1:aI X.K (hid H O) ds vs)(rv:Vals vs us)(q:∀J,Walk X.K (hid H O) J r->RR J H):
  Tu (model X.prog X.w) X.A (call (.type "zip") us) (λv s1=>Tu (model X.prog X.w) X.A (pyIter v) (PIE X pins σ (.Tuple es k tpos) RR) X.xe s1) X.xe s:=by
 unfold rh at hc;split at hc
 ·rename_i a b;obtain⟨⟨b1,xs⟩,e1,hc⟩:=bind_some hc;obtain⟨⟨b2,ys⟩,e2,hc⟩:=bind_some hc;cases hc;obtain⟨va,vb,rfl,da,db⟩:=d1.two;obtain⟨u1,u2,rfl,r1,r2⟩:=vals2 rv;obtain⟨a1,ws1,rfl,x1,y1⟩:=pI e1 da;obtain⟨a2,ws2,rfl,x2,y2⟩:=pI e2 db;cases r1;cases r2;obtain⟨its1,rr1,q1,_⟩:=Inv.sx I (x1.same (aq H O));obtain⟨its2,rr2,q2,_⟩:=Inv.sx I (x2.same (aq H O));refine BZ q1 q2 λg hz hI hO s1 s2 kp=>wpAny_pyIter_zip hz ?_;have Ap:=z7 q1.lt q2.lt;refine⟨_,_,_,_,H,rfl,I.kept (t':=s.toks) kp,C1 (b1:=b1) (b2:=b2) Ap (OO q1.lt) (OO (OL q2.lt (Qz _ 1))) (OZ (QB (by decide))) (OZ (QA (by decide) _)),⟨hz,hI,⟨_,_,hO⟩,s1,s2⟩,λb hb=>?_,q _ (Bo x1 y1 x2 y2)⟩;have le:s.heap.objs.size<=b:=by
   simp only[Qv,Qw,or_false]at hb;rcases hb with rfl|rfl|rfl|rfl|rfl
   ·exact Qz _ _
   ·exact Qz _ _
   ·exact Qz _ _
   ·exact O1 _
   ·exact Qz _ _
  exact I.fpOk le (I.hok.fresh le)
 ·cases hc
end
noncomputable def Nn(K:RY)(b:Bool)(a:Td):It:=
  ⟨fun i H=>∃ xs,SX K b H a xs/\i < xs.length,
   λi H v H'=>∃p x,v=.ref p/\H p=none/\H'=upd H p (.tup [.int i,x])/\∀xs,SX K b H a xs->xs[i]?=some x,
   λi H=>∃xs,SX K b H a xs/\i=xs.length⟩
theorem zg{P:Ti}{w:Th}{K:RY}{es:bz}{k:Nat}{pos:Pos}{b:Bool}{a e it:Td}(n1:a≠it)(n2:e≠it)(n3:e≠a):Turn P w K (.Tuple es k pos) (Nn K b a) [e,it] e (λi h=>(∃old,IsEnum h e it i old)/\SI b h it a i)where
 mem:=by simp
 obj:=λi h ⟨⟨old,he⟩,s1⟩ c hc=>by
  simp only[Qv,Qw,or_false]at hc;rcases hc with rfl|rfl
  ·exact⟨_,he,λv q=>by cases q⟩
  ·exact s1.get
 keep:=λi h h' ⟨⟨old,he⟩,s1⟩ kp=>⟨⟨old,kp e (by simp) _ he⟩,s1.keep λo q=>kp it (by simp) o q⟩
 item:=by
  rintro X hP hw hK hc i pins s σ H E I hf ⟨⟨old,he⟩,s1⟩ hg;subst hP hw hK;obtain⟨xs,g1,l1⟩:=hg;obtain⟨its,r1,q1,z1⟩:=Inv.sx I g1;have hh:X.A.in1.handled=none:=I.ok.hd hc;refine wpAny_pyNext_enum_itemD (kn (A:=X.A.in1) b hh it a n1 its.toArray) he ⟨s1,q1⟩ (by rw[O6,<-r1.length];exact l1) n2 (HK n2 n3) λu g tk p1 ho t1 hp sz kp=>?_;have e1:its[i]?=some u:=by simpa using p1
  obtain⟨u',hu,ru⟩:=r1.get (i:=i) (x:=xs[i]) (by simp[l1]);rw[e1]at hu;cases hu;refine⟨_,rfl,wpAny_letOwnedTupleGo_enum ho λg' he' sb=>?_⟩;have hpe:s.heap.objs.size≠e:=OZ (Sx he);have hp':=sb.extBut _ _ hpe hp;have I':Inv X pins σ (upd H s.heap.objs.size (.tup [.int i,xs[i]])) {s with heap:=g',toks:=tk+1}:=Inv.turnedL (ch:=[e,it]) I hf (λc o hc q=>by
   simp only[Qv,Qw,or_false,not_or]at hc;exact sb.extBut _ _ hc.1 (kp c o hc.1 hc.2 q)) (O1 _) ⟨by show 2<=Tn;decide,[.int i tk,u],.cons ⟨_,rfl⟩ (.cons ru .nil),_,hp',rfl,_,rfl⟩
  have ne:∀c∈[e,it],c≠s.heap.objs.size:=λc hc q=>by
   simp only[Qv,Qw,or_false]at hc;rcases hc with rfl|rfl
   ·exact hpe q.symm
   ·obtain⟨o,q',_⟩:=s1.get;exact absurd (Sx q') (by rw[q];exact OM _)
  refine⟨.ref s.heap.objs.size,_,I',rfl,⟨_,xs[i],rfl,I.fresh,rfl,λxs' h=>by rw[Inv.sx_inj I h g1];simp[l1]⟩,⟨⟨u,?_⟩,t1.1.keep λo q=>sb.extBut _ _ n2.symm q⟩,λc hc=>by rw[ao (ne c hc)];exact(hf c hc).1⟩;have ei:((i+1:Nat):Int)=(i:Int)+1:=by omega
  rw[ei];exact he'
 done:=by
  rintro X hP hw hK hc i pins s σ H E I hf ⟨⟨old,he⟩,s1⟩ hg;subst hP hw hK;obtain⟨xs,g1,l1⟩:=hg;obtain⟨its,r1,q1,z1⟩:=Inv.sx I g1;have hh:X.A.in1.handled=none:=I.ok.hd hc;have el:i=its.toArray.size:=by rw[O6,<-r1.length];exact l1
  refine wpAny_pyNext_enum_endD (kn (A:=X.A.in1) b hh it a n1 its.toArray) he ⟨by rw[<-el];exact s1,q1⟩ λg kp=>⟨rfl,Inv.turned0 (ch:=[e,it]) I hf λc o hc q=>?_⟩
  simp only[Qv,Qw,or_false,not_or]at hc;exact kp c o hc.2 q
 self:=λ_ _ _ _ _ ⟨⟨old,he⟩,_⟩ h=>wpAny_pyIter_enum he h
noncomputable def jF(i:Nat):List D->List D
 |[]=>[]
 |x::xs=>.tup [.int i,x]::jF (i+1) xs
theorem mD:∀(i:Nat)(xs:List D),(jF i xs).length=xs.length
 |_,[]=>rfl
 |i,x::xs=>by rw[jF,O8,mD (i+1) xs,O8]
theorem sL:∀{xs:List D}{k i:Nat}{d:D},(jF k xs)[i]?=some d->∃x,xs[i]?=some x/\d=.tup [.int ((k+i:Nat):Int),x]
 |[],k,i,d,h=>by simp[jF]at h
 |x::xs,k,0,d,h=>by
  rw[jF,Qx]at h;cases h;exact⟨x,rfl,rfl⟩
 |x::xs,k,i+1,d,h=>by
  rw[jF,Qy]at h;obtain⟨y,h1,h2⟩:=sL h;refine⟨y,by rw[Qy];exact h1,?_⟩;rw[h2];congr 4;omega
theorem zD{K:RY}{Hd:Hp}{b:Bool}{a:Td}{ds:List D}{vs:aK}(h1:SX K b Hd a vs)(g1:aI K Hd ds vs):Walk K Hd (Nn K b a) (jF 0 ds):=λHn O' i hO sm=>
  have s':aR Hd Hn:=sm.trans (aq Hn O')
  ⟨fun d e=>by
    obtain⟨x,e1,rfl⟩:=sL e;have l1:i<ds.length:=(List.getElem?_eq_some_iff.mp e1).1;obtain⟨v,ev,dv⟩:=g1.get e1;refine⟨⟨vs,h1.same s',by rw[<-g1.length];exact l1⟩,λu H2 ⟨p,x',eu,hp,eH,q1⟩=>?_⟩;have z1:=q1 vs (h1.same s');rw[ev]at z1;cases z1;subst eH eu;rw[QC];exact⟨bj hp _,dY hO hp (bb.mpr ⟨.int i,_,rfl,eM.mpr rfl,bb.mpr ⟨v,_,rfl,dv.mono sm,cw.mpr rfl⟩⟩)⟩,
   λhl=>by
    rw[mD]at hl;exact⟨vs,h1.same s',by rw[<-g1.length];exact hl⟩⟩
noncomputable def sR:List D->Option (List D)
 |[a]=>(Ek a).bind λx=>some (jF 0 x.2)
 |_=>none
noncomputable def fU(f:bC):bC:=λρ=>(f ρ).bind λds=>rO (sR ds)
section
variable{X:Cx}
theorem AI{prog:Ti}{w:Th}{A:Ts}{E:bq}{s:Tg}{b:Bool}{l:Td}{xs:eD}{Q:bq}(h1:SQ b s.heap l xs)
  (h:∀g,IsEnum g (s.heap.objs.size+1) s.heap.objs.size 0 .none->SI b g s.heap.objs.size l 0->(∀c o,s.heap.get? c=some o->g.get? c=some o)->Q (.ref (s.heap.objs.size+1)) {s with heap:=g}):Tu (model prog w) A (call (.type "enumerate") [.ref l]) Q E s:=by
 refine callType_new F.called_enumerate (by decide) (F.typeCall_enumerate_1 _) (F.newCall_enumerate_1 _) (λobj=>F.args_object_init_2 obj _) F.entry_enumerate_new (zW b l xs) ⟨h1,?_⟩;have z1:(AO b s.heap l).objs.size=s.heap.objs.size+1:=SE ..
 have g2:=SD (AO b s.heap l) (o:={cls:=.type "enumerate",data:=.fields #[.none,.bool false,.ref s.heap.objs.size,rawInt 0,.none,.none]}) rfl;have g1:SI b ((AO b s.heap l).push {cls:=.type "enumerate",data:=.fields #[.none,.bool false,.ref s.heap.objs.size,rawInt 0,.none,.none]}) s.heap.objs.size l 0:=SI.keep SI.new λo e=>SA _ e;show _/\_;rw[z1]at g2 ⊢;exact⟨⟨_,g2,rfl⟩,h _ g2 g1 λc o e=>SA _ (SA _ e)⟩
theorem Ej{pins:bc}{s:Tg}{σ:St}{H:Hp}{O:ax}{es:bz}{k:Nat}{tpos:Pos}{ds r:List D}{vs:aK}{us:aU}{RR:It->Hp->Prop}(I:Inv X pins σ H s)(hc:sR ds=some r)(d1:aI X.K (hid H O) ds vs)(rv:Vals vs us)(q:∀J,Walk X.K (hid H O) J r->RR J H):
  Tu (model X.prog X.w) X.A (call (.type "enumerate") us) (λv s1=>Tu (model X.prog X.w) X.A (pyIter v) (PIE X pins σ (.Tuple es k tpos) RR) X.xe s1) X.xe s:=by
 unfold sR at hc;split at hc
 ·rename_i a;obtain⟨⟨b1,xs⟩,e1,hc⟩:=bind_some hc;cases hc;obtain⟨va,rfl,da⟩:=d1.one;obtain⟨u1,rfl,r1⟩:=vals1 rv;obtain⟨a1,ws1,rfl,x1,y1⟩:=pI e1 da;cases r1;obtain⟨its1,rr1,q1,_⟩:=Inv.sx I (x1.same (aq H O));refine AI q1 λg he s1 kp=>wpAny_pyIter_enum he ?_;refine⟨_,_,_,_,H,rfl,I.kept (t':=s.toks) kp,zg (b:=b1) (OO q1.lt) (OZ (QB (by decide))) (OZ (OL q1.lt (Qz _ 1))),⟨⟨_,he⟩,s1⟩,λb hb=>?_,q _ (zD x1 y1)⟩;have le:s.heap.objs.size<=b:=by
   simp only[Qv,Qw,or_false]at hb;rcases hb with rfl|rfl
   ·exact Qz _ _
   ·exact O1 _
  exact I.fpOk le (I.hok.fresh le)
 ·cases hc
end
end TG
namespace TG
open PySem PySem.Spec L2
variable[aA]
theorem zo{K:RY}{c:Str}{C C':Td}(h:clsAt K c C)(h':clsAt K c C'):C=C':=by
 unfold clsAt at h h';rw[h]at h';cases h';rfl
theorem sX{f:Str}:∀{fs:ay}{vs:aK},fs.contains f=false->(fs.zip vs).lookup f=none
 |[],_,_=>by simp
 |_::_,[],_=>by simp
 |g::fs,x::vs,h=>by
  rw[QD,QE]at h;rw[QF,PV,h.1];exact sX h.2
noncomputable def Ow(f:Str)(cs:ay)(d:D):bF:=match d with
 |.obj c fs vs=>if cs.contains c then(fs.zip vs).lookup f else none
 |_=>none
section
variable{X:Cx}{a o e:Te}{es:bz}{fa fo:FX}{fas:bC}{f m x:Str}{cs:ay}{pos apos p:Pos}{k k':Nat}{ps:ay}
noncomputable def MethAt(P:Ti)(w:Th)(K:RY)(mg:cj)(base:Tl)(k:Nat)(c m:Str)(ps:ay)(g:cT):Prop:=
 ∃C f fd,clsAt K c C/\zh K C/\Meth K C m f/\gS P w K mg base (j4 P w) k f fd ps (y8 K ps.length g)/\Binds K fd ps []
noncomputable def jc(m:Str)(tbl:List (Str×(cT)))(fo:FX)(fas:bC):FX:=λρ=>(fo ρ).bind λo=>match o with
 |.obj c fs vs=>match tbl.lookup c with
  |some g=>if fs.contains m then un else(fas ρ).bind λas=>g (o::as)
  |none=>un
 |_=>un
noncomputable def qf(P:Ti)(w:Th)(K:RY)(mg:cj)(base:Tl)(k:Nat)(m:Str)(ps:ay)(tbl:List (Str×(cT))):Prop:=
 ∀c g,tbl.lookup c=some g->MethAt P w K mg base k c m ps g/\Ar ps.length g
theorem E8{P:Ti}{w:Th}{K:RY}{mg:cj}{base:Tl}:qf P w K mg base k m ps []:=λ_ _ h=>nomatch h
theorem DE{P:Ti}{w:Th}{K:RY}{mg:cj}{base:Tl}{c:Str}{g:cT}{tbl:List (Str×(cT))}(h:MethAt P w K mg base k c m ps g)(hn:Ar ps.length g)(t:qf P w K mg base k m ps tbl):qf P w K mg base k m ps ((c,g)::tbl):=λc' g' e=>by
 rw[PV]at e;cases hc:c'==c with
 |true=>
  rw[hc]at e;cases e
  have:c'=c:=by simpa using hc
  subst this;exact⟨h,hn⟩
 |false=>rw[hc]at e;exact t c' g' e
theorem MethAt.mono{P:Ti}{w:Th}{K:RY}{mg:cj}{base:Tl}{c:Str}{g:cT}(h:MethAt P w K mg base k c m ps g)(hk:k<=k'):MethAt P w K mg base k' c m ps g:=by
 obtain⟨C,f,fd,h1,h2,h3,h4,h5⟩:=h;exact⟨C,f,fd,h1,h2,h3,h4.mono hk,h5⟩
theorem vZ{tbl:List (Str×(cT))}{args:bz}{pl:Sem Bool}(tb:qf X.prog X.w X.K X.mg X.base k m ps tbl)(hr:eY k X.A)(ho:FE X o fo)
  (hc:∀ (pins:bc) (s1:Tg) (σ:St) (H1:Hp) (O:ax) (ρ:aj) (a f:Td) (od:D) (Q:VK) (g:cT) (fd:T6) (w0:V),Sd X.K (.ref f)=true->gS X.prog X.w X.K X.mg X.base (j4 X.prog X.w) k f fd ps (y8 X.K ps.length g)->Binds X.K fd ps []->Ar ps.length g->Inv X pins σ H1 s1->dB X.K O H1 ρ σ->cq X.K (hid H1 O) od (.ref a) ->
   (gE X σ O H1 ((fas ρ).bind λas=>g (od::as)) λd=>∀v H',aR H1 H'->cq X.K (hid H' O) d v->Q v H')->
   Tu (model X.prog X.w) X.A (T1 pos (.ref f) [.ref a] (backTo pos (Tv args X.env)) (backToKw pos (T2 [] X.env))) (EP X pins σ Q) X.xe s1)
  (ht:eval (.Call (.Attribute o m apos) args [] pos) X.env=(do
   let ov<-eval o X.env
   standAt apos.atName
   let (f,first)<-holding [ov] (getMethod ov m pl)
   T1 pos f first (backTo pos (Tv args X.env)) (backToKw pos (T2 [] X.env)))):
  FE X (.Call (.Attribute o m apos) args [] pos) (jc m tbl fo fas):=by
 rintro pins s σ H Q I ⟨O,ρ,E,hF⟩;refine vv ho I ?_ ht;refine⟨O,ρ,E,(gE.bind hF).imp λd hF v H1 s1 d1=>?_⟩;cases d with
 |obj c fs vs=>
  have hF':gE X σ O H (match tbl.lookup c with|some g=>if fs.contains m then un else(fas ρ).bind λas=>g (.obj c fs vs::as)|none=>un) _:=hF;cases hg:tbl.lookup c with
  |none=>rw[hg]at hF';exact hF'.elim
  |some g=>
   rw[hg]at hF';have hF2:gE X σ O H (if fs.contains m then un else(fas ρ).bind λas=>g (.obj c fs vs::as)) _:=hF';cases hm:fs.contains m with
   |true=>rw[hm]at hF2;exact hF2.elim
   |false=>
    rw[hm]at hF2;have hF3:gE X σ O H ((fas ρ).bind λas=>g (.obj c fs vs::as)) _:=hF2;have d0:=d1;obtain⟨a,ws,ev,g1,g2,C,dx,g3,g4⟩:=Lh.mp d1;obtain⟨⟨C',f,fd,m1,m2,m3,m4,m5⟩,ar⟩:=tb c g hg;have eC:=zo g3 m1;subst eC;subst ev;refine⟨a,C,dx,_,f,rfl,aq H1 O _ _ g4,m2,m3,sX hm,λs2 I2=>?_⟩;exact hc pins s2 σ H1 O ρ a f _ Q g fd (.ref a) m3.kp m4 m5 ar I2 (E.same s1) d0 ((hF3.mono s1).imp λd q v H2 s2 d2=>q v H2 (s1.trans s2) d2)
 |_=>exact hF.elim
theorem pY{σ:St}{O:ax}{H:Hp}{g:cT}{ds:List D}{vs:aK}{Q:VK}{n:Nat}(ar:Ar n g)(hO:dL H O)(d1:aI X.K (hid H O) ds vs)(h:gE X σ O H (g ds) λd=>∀v H',aR H H'->cq X.K (hid H' O) d v->Q v H'):∃E,jX (j4 X.prog X.w) X σ E/\y8 X.K n g vs H Q E:=by
 cases hg:g ds with
 |ok d=>
  rw[hg]at h;refine⟨E0,yG,O,ds,by rw[<-d1.length];exact ar ds (by rw[hg];intro z;cases z),hO,d1,?_⟩;rw[hg];exact h
 |error z=>
  rw[hg]at h;cases z with
  |none=>exact h.elim
  |some x=>
   refine⟨yw X O H x,yd h,O,ds,by rw[<-d1.length];exact ar ds (by rw[hg];intro z;cases z),hO,d1,?_⟩;rw[hg];exact uO
theorem Ai{P:Ti}{w:Th}{K:RY}{mg:cj}{base:Tl}{c y qual:Str}{C f:Td}{fd:T6}{st:Tf}{N:ay}{B:bI}(h1:clsAt K c C)(h2:zh K C)(h3:Meth K C m f)(F:uF K y qual st f fd)(b:Binds K fd ps [])(SC:dJ N ps (aw st))(hb:BodyOk P w K mg base k N qual st f B):
  MethAt P w K mg base (k+1) c m ps (aG B ps.length N.length):=⟨C,f,fd,h1,h2,h3,uq F SC hb,b⟩
noncomputable def OD(C:Td)(fs:ay):Sp:=λvs H Q _=>∃x dx as,vs=.ref x::as/\as.length=fs.length/\H x=some (.ins C dx [])/\Q .non (upd H x (.ins C dx (fs.zip as)))
noncomputable def ub(P:Ti)(w:Th)(K:RY)(mg:cj)(base:Tl)(k:Nat)(c:Str)(ps fs:ay):Prop:=
 ∃C f fd,clsAt K c C/\Mk K C f/\gS P w K mg base (j4 P w) k f fd ps (OD C fs)/\Binds K fd ps []/\mg c=some (.ref C)
noncomputable def fNew(c:Str)(fs:ay)(fas:bC):FX:=λρ=>(fas ρ).bind λas=>if as.length=fs.length then .ok (.obj c fs as)else un
theorem vi{K:RY}{H1:Hp}{O:ax}{c:Str}{fs:ay}{as:List D}{vs:aK}{C x dx:Td}(hc:clsAt K c C)(hl:as.length=fs.length)(d1:aI K (hid H1 O) as vs)(hO:dL H1 O)(hx:H1 x=none)(hd:H1 dx=none)(ne:dx≠x):
  aR H1 (upd (upd (upd H1 dx (.own x)) x (.ins C dx [])) x (.ins C dx (fs.zip vs)))/\cq K (hid (upd (upd (upd H1 dx (.own x)) x (.ins C dx [])) x (.ins C dx (fs.zip vs))) O) (.obj c fs as) (.ref x):=by
 have sm:aR H1 (upd (upd (upd H1 dx (.own x)) x (.ins C dx [])) x (.ins C dx (fs.zip vs))):=λb o h=>by
  have n1:=aD h hx;have n2:=aD h hd;rw[ao n1,ao n1,ao n2];exact h
 exact⟨sm,Lh.mpr ⟨x,vs,rfl,d1.mono (bi sm),by rw[<-d1.length,hl],C,dx,hc,by rw[gh (hO.not hx),av]⟩⟩
theorem Kg{X:Cx}:wN (j4 X.prog X.w) X E0:=λ_ _ _ _ _ _ _ h=>by
 obtain⟨_,_,_,_,_,_,_,_,_,_,_,_,_,z⟩:=h;exact z.elim
theorem vF(f:Str)(v:V):∀{fs:List (Str×V)},(fs.map (·.1)).contains f=false->jM f v fs=fs++[(f,v)]
 |[],_=>rfl
 |(g,w)::fs,h=>by
  rw[O9,QD,QE]at h;have ne:¬g=f:=λz=>by
   have:=h.1
   rw[z]at this;simp at this
  have:=vF f v (fs:=fs) h.2
  unfold jM;simp only[ne,if_false,this,P0]
noncomputable def GL(X:Cx)(cs:ay)(body:eE)(fs:ay)(i:Nat):Prop:=
 ∃t,vA X body t/\∀(D:Ends)(σ:St)(H:Hp)(x dx C:Td)(done:List (Str×V))(as:aK),σ[0]?=some (some (.ref x))->(∀j v,as[j]?=some v->σ[i+j]?=some (some v))->as.length=fs.length->zh X.K C->(∀f∈fs,nz X.K C f)->done.length+fs.length<1000->(done.map (·.1)++fs).Nodup->H x=some (.ins C dx done)->
  D.nx σ (upd H x (.ins C dx (done++fs.zip as)))->t D σ H
theorem zV{st:Tf}{f:Str}{i:Nat}{o v:Te}{p1 p2:Pos}(hst:st=.Assign [.Attribute o f p1] v p2)(ho:PE X o (Dr 0))(hv:PE X v (Dr i))(hs:swapsWith v (some (.Attribute o f p1)) p2.line X.env=pure false):GL X cs [st] [f] i:=by
 subst hst;refine⟨_,yj (Hk ho hv hs),λD σ H x dx C done as h0 ha hl cl na hz nd hx q=>?_⟩;obtain⟨a,rfl⟩:∃a,as=[a]:=by
  match as,hl with
  |[a],_=>exact⟨a,rfl⟩
 refine⟨a,ha 0 a rfl,.ref x,h0,x,C,dx,done,rfl,hx,cl,na f (List.mem_singleton.mpr rfl),by simp at hz;omega,?_⟩;rw[vF f a (by
  have:=nd
  rw[QG]at this;have h3:=this.2.2;cases hc:(done.map (·.1)).contains f with
  |false=>rfl
  |true=>exact absurd rfl (h3 f (List.contains_iff_mem.mp hc) f (List.mem_singleton.mpr rfl)))]
 exact q
theorem zi{P:Ti}{w:Th}{K:RY}{mg:cj}{base:Tl}{c qual:Str}{C f:Td}{fd:T6}{st:Tf}{fs:ay}(h1:clsAt K c C)(hM:Mk K C f)(cl:zh K C)(na:∀g∈fs,nz K C g)(F:uF K "__init__" qual st f fd)(b:Binds K fd ps [])(hmg:mg c=some (.ref C))(SC:dJ ps ps (aw st))(hps:ps.length=fs.length+1)(hnd:fs.Nodup)(hlen:fs.length<1000)
  (hb:∀(cdv:S9)(A:Ts)(outer:List Env)(s:Tg)(H:Hp)(E:XK),GL (g9 Lp P w K mg base ps qual (aw st) f cdv A outer s H E).nox [] (dG st) fs 1):ub P w K mg base (k+1) c ps fs:=by
 refine⟨C,f,fd,h1,hM,?_,b,hmg⟩;refine gS.any (F.ok SC (λvs H Q E h=>?_) λcdv A outer s H vs Q E hr h=>?_)
 ·obtain⟨x,dx,as,rfl,hl,_⟩:=h;rw[O8,hl,hps]
 ·obtain⟨t,ht,hq⟩:=hb cdv A outer s H E;obtain⟨x,dx,as,rfl,hl,hx,q⟩:=h;have hst:L2.start ps (.ref x::as)=(.ref x::as).map some:=by
   unfold L2.start;rw[O8,hl,hps,QH,QI,Pj]
  refine⟨t,ht,hq _ _ H x dx C [] as (by rw[hst];rfl) (λj v e=>?_) hl cl na (by simpa using hlen) (by simpa using hnd) hx q⟩;rw[hst,Nat.add_comm,O9,Qy,Pr,e];rfl
end
end TG
namespace TG
open PySem PySem.Spec L2
variable[aA]
section
variable{X:Cx}
noncomputable def NT:D->Option Str
 |.str z=>some z
 |_=>none
noncomputable def Nb(a b:D):bF:=match a,b with
 |.bl c,.bl d=>some (.bl (c==d))
 |_,_=>none
noncomputable def Fk(a b:D):bF:=match a,b with
 |.bl c,.bl d=>some (.bl (!(c==d)))
 |_,_=>none
end
section
variable{X:Cx}{C:Td}{pins:bc}{σ:St}{H:Hp}{s:Tg}{Q:VK}
end
end TG
namespace TG
open PySem PySem.Spec PyProof.Rows L2
variable[aA]
noncomputable def cK:List D->List D->Option Bool
 |[],[]=>some false
 |[],_::_=>some true
 |_::_,[]=>some false
 |a::as,b::bs=>match a,b with
  |.int i,.int j=>if i=j then cK as bs else some (decide (i<j))
  |.str x,.str y=>if x=y then cK as bs else some (decide (x.cps.toList<y.cps.toList))
  |_,_=>none
inductive fA:aU->List D->Prop where
 |nil:fA [] []
 |int (i:Int) (t:Tok) {vs:aU} {ds:List D} (h:fA vs ds):fA (.int i t::vs) (.int i::ds)
 |str (x:Str) (t:Tok) {vs:aU} {ds:List D} (h:fA vs ds):fA (.str x t::vs) (.str x::ds)
theorem fA.length:∀{vs:aU}{ds:List D},fA vs ds->vs.length=ds.length
 |_,_,.nil=>rfl
 |_,_,.int _ _ h=>by rw[O8,O8,h.length]
 |_,_,.str _ _ h=>by rw[O8,O8,h.length]
theorem GD(A:Ts)(s:Tg)(a:Int)(t:Tok)(c:Int)(u:Tok):∃e,SeqAt.EqAt A s (.int a t) (.int c u) e/\(e=true↔a=c):=
 ⟨(a==c),SeqAt.EqAt.int_int a t c u,by simp⟩
theorem Gz(A:Ts)(s:Tg)(a:Str)(t:Tok)(c:Str)(u:Tok):∃e,SeqAt.EqAt A s (.str a t) (.str c u) e/\(e=true↔a=c):=
 ⟨(a==c),SeqAt.EqAt.str_str a t c u,by simp⟩
theorem J6(A:Ts)(s:Tg)(a:Str)(t:Tok)(c:Str)(u:Tok)(prog:Ti)(w:Th)(E:bq)(Q:bq)(h:Q (.bool (decide (a.cps.toList<c.cps.toList))) s):
  Tu (model prog w) A (richCompare .Lt (.str a t) (.str c u)) Q E s:=
 (PySem.P.lt_str h:Tu (model prog w) A (TR .Lt (.str a t) (.str c u)) Q E s)
section
open PySem.SeqAt
open PySem.AutoSeq1 (wpAny_loadPart')
open PySem.MeetsSeq PySem.MeetsSeq2 PySem.MeetsSeq3
set_option maxHeartbeats 1000000 in
theorem qX(l b:Td)(items items2:eD)(n n2:Nat)(dd dd2:Option Td)(sl sl2:Array (Option S9))(ns ms:List D)(r:Bool)(hi:fA items.toList ns)(hj:fA items2.toList ms)(hr:cK ns ms=some r):
  Meets (Builtin.«tuple.__lt__» ⟨[.ref l,.ref b],[]⟩)
   (fun _ R s=>s.heap.get? l=some { cls:=.type "tuple",dict:=dd,data:=.seq items n,slots:=sl }/\s.heap.get? b=some { cls:=.type "tuple",dict:=dd2,data:=.seq items2 n2,slots:=sl2 } /\
    R (.ok (.ret (.bool r))) s):=
 .of_wp λprog w A R s h=>by
  obtain⟨hp,g,d,tk,os⟩:=s;obtain⟨hl,hb,h⟩:=h;have f2:=AutoSeq1.sub_tuple_tuple;have z1:items.size=ns.length:=by rw[<-hi.length];simp
  have z2:items2.size=ms.length:=by rw[<-hj.length];simp
  wp_walk using wpAny_loadPart' hl,wpAny_loadPart' hb,wpAny_forIn_list _ (λrest b s'=>b.1=none/\s'=⟨hp,g,d,tk,os⟩/\∃(vs ws:aU)(ns' ms':List D),rest=vs.zip ws/\
   fA vs ns'/\fA ws ms'/\ns'.length+items2.size=ms'.length+items.size/\cK ns' ms'=some r/\R (.ok (.ret (.bool r))) ⟨hp,g,d,tk,os⟩) _
  case turn=>
   rintro⟨y,x⟩ rest b s' ⟨hb',rfl,vs,ws,ns',ms',hz,hvi,hwi,hlen,hL,hR⟩;cases hvi with
   |nil=>rw[List.zip_nil_left]at hz;cases hz
   |int a t hvi'=>
    cases hwi with
    |nil=>rw[QJ]at hz;cases hz
    |str c u hwi'=>cases hL
    |int c u hwi'=>
     rw[QF]at hz;injection hz with hyx hrest;injection hyx with hy hx;subst hy hx;have hL':(if a=c then cK _ _ else some (decide (a<c)))=some r:=hL;simp only[O8]at hlen;obtain⟨e,he,hiff⟩:=GD A.in1 ⟨hp,g,d,tk,os⟩ a t c u;refine TH (he prog w _ _ ?_);cases e with
     |true=>
      rw[if_pos (hiff.mp rfl)]at hL'
      wp_walk
      exact⟨rfl,rfl,_,_,_,_,hrest,hvi',hwi',by omega,hL',hR⟩
     |false=>
      rw[if_neg (λq=>absurd (hiff.mpr q) O7)]at hL';cases hL';have hri:=HT.J7 A.in1 ⟨hp,g,d,tk,os⟩ a t c u prog w
      wp_walk using hri
      exact⟨_,rfl,by simpa using hR⟩
   |str a t hvi'=>
    cases hwi with
    |nil=>rw[QJ]at hz;cases hz
    |int c u hwi'=>cases hL
    |str c u hwi'=>
     rw[QF]at hz;injection hz with hyx hrest;injection hyx with hy hx;subst hy hx;have hL':(if a=c then cK _ _ else some (decide (a.cps.toList<c.cps.toList)))=some r:=hL;simp only[O8]at hlen;obtain⟨e,he,hiff⟩:=Gz A.in1 ⟨hp,g,d,tk,os⟩ a t c u;refine TH (he prog w _ _ ?_);cases e with
     |true=>
      rw[if_pos (hiff.mp rfl)]at hL'
      wp_walk
      exact⟨rfl,rfl,_,_,_,_,hrest,hvi',hwi',by omega,hL',hR⟩
     |false=>
      rw[if_neg (λq=>absurd (hiff.mpr q) O7)]at hL';cases hL';have hri:=J6 A.in1 ⟨hp,g,d,tk,os⟩ a t c u prog w
      wp_walk using hri
      exact⟨_,rfl,by simpa using hR⟩
  case fin=>
   rintro⟨b1,b2⟩ s' ⟨hb',rfl,vs,ws,ns',ms',hz,hvi,hwi,hlen,hL,hR⟩;simp only at hb';subst hb';have hv:r=decide (items.size<items2.size):=by
    have l1:=hvi.length;have l2:=hwi.length;cases ns' with
    |nil=>
     cases ms' with
     |nil=>
      simp only[PN]at hlen;cases hL;exact(decide_eq_false ‹0›).symm
     |cons c u=>
      simp only[PN,O8]at hlen;cases hL;exact(decide_eq_true ‹0›).symm
    |cons a t=>
     cases ms' with
     |nil=>
      simp only[PN,O8]at hlen;cases hL;exact(decide_eq_false ‹0›).symm
     |cons c u=>
      have:=congrArg List.length hz
      simp only[PN,List.length_zip,l1,l2,O8]at this;omega
   rw[hv]at hR
   wp_walk
   exact⟨_,rfl,by simpa [Builtin.Tuple.tupleCompareSizes]using hR⟩
  case h=>
   exact⟨rfl,rfl,items.toList,items2.toList,ns,ms,rfl,hi,hj,by omega,hr,h⟩
end
section
variable{X:Cx}
theorem rK{α:Type}{c:Bool}{o:Option α}{a:α}(h:(if c then o else none)=some a):c=true/\o=some a:=by
 cases c with
 |true=>exact⟨rfl,h⟩
 |false=>cases h
theorem wM{prog:Ti}{w:Th}{A:Ts}{E:bq}{s:Tg}{l b:Td}{items items2:eD}{ns ms:List D}{r:Bool}{Q:bq}(hl:To s.heap l items)(hb:To s.heap b items2)(hi:fA items.toList ns)(hj:fA items2.toList ms)(hr:cK ns ms=some r)
  (hu:A.units<T5) (h:Q (.bool r) s):Tu (model prog w) A (TR .Lt (.ref l) (.ref b)) Q E s:=by
 obtain⟨⟨cls,dd,data,sl⟩,ho,hc,n,hd⟩:=id hl;obtain⟨⟨cls2,dd2,data2,sl2⟩,ho2,hc2,n2,hd2⟩:=id hb;simp only at hc hd hc2 hd2;subst hc hd hc2 hd2;exact richCompare_meets_room (op:=.Lt) ⟨_,ho,rfl⟩ ⟨_,ho2,rfl⟩ PySem.F.slot_tuple_lt PySem.F.entry_tuple_lt (PySem.F.args_tuple_lt_2 _ _) (qX l b items items2 n n2 dd dd2 sl sl2 ns ms r hi hj hr)
  ⟨ho,ho2,show Value.bool r≠Value.notImplemented/\Q (.bool r) s from⟨(λx=>nomatch x),h⟩⟩ hu
noncomputable def lx:List D->Bool
 |[]=>true
 |.int _::r=>lx r
 |.str _::r=>lx r
 |_=>false
theorem i7{K:RY}{H:Hp}:∀{ds:List D}{vs:aK}{us:aU},lx ds=true->aI K H ds vs->Vals vs us->fA us ds
 |[],vs,us,_,h,r=>by
  rw[cw]at h;subst h;cases r;exact .nil
 |d::ds,vs,us,hf,h,r=>by
  obtain⟨v,r',e,h1,h2⟩:=bb.mp h;subst e;cases r with
  |cons q1 q2=>
   cases d with
   |int i=>
    rw[eM]at h1;subst h1;obtain⟨t,rfl⟩:=q1;exact .int i t (i7 hf h2 q2)
   |str x=>
    rw[eN]at h1;subst h1;obtain⟨t,rfl⟩:=q1;exact .str x t (i7 hf h2 q2)
   |_=>cases hf
noncomputable def lm(a b:D):bF:=match a,b with
 |.int i,.int j=>some (.bl (decide (i<j)))
 |.str x,.str y=>some (.bl (decide (x.cps.toList<y.cps.toList)))
 |.tup xs,.tup ys=>if lx xs&&lx ys then(cK xs ys).bind λr=>some (.bl r)else none
 |_,_=>none
theorem B9(hu:X.A.units+64<T5):iG X (TR .Lt) (rD X.K lm):=by
 rintro pins s σ H x y u v Q I rx ry ⟨O,a,b,d,hO,ha,hb,hg,q⟩;cases a with
 |int i=>
  cases b with
  |int j=>
   cases hg;exact Kj pins s σ H x y u v Q I rx ry ⟨i,j,eM.mp ha,eM.mp hb,q _ H (aR.refl H) (js.mpr rfl)⟩
  |_=>cases hg
 |str i=>
  cases b with
  |str j=>
   cases hg;exact AA pins s σ H x y u v Q I rx ry ⟨i,j,eN.mp ha,eN.mp hb,q _ H (aR.refl H) (js.mpr rfl)⟩
  |_=>cases hg
 |tup xs=>
  cases b with
  |tup ys=>
   obtain⟨h1,h2⟩:=rK hg;obtain⟨r,e1,e2⟩:=bind_some h2;cases e2;rw[Pz]at h1;obtain⟨p,vs,ex,g1,g2⟩:=bW.mp ha;obtain⟨p',vs',ey,g1',g2'⟩:=bW.mp hb;subst ex ey;cases rx;cases ry;obtain⟨its,r1,t1,_⟩:=I.tuple (bK (aq H O) g1);obtain⟨its2,r2,t2,_⟩:=I.tuple (bK (aq H O) g1');exact wM t1 t2 (i7 h1.1 g2 r1) (i7 h1.2 g2' r2) e1 ‹0› (AX I (q _ H (aR.refl H) (js.mpr rfl)) rfl)
  |_=>cases hg
 |_=>cases hg
end
end TG
namespace TG
open PySem PySem.Spec L2
variable[aA]
noncomputable def iR(x:Str)(n:Int):Str:=if(n==1||x.length==0)=true then x else⟨(List.replicate n.toNat x.cps).foldl (·++·) #[]⟩
theorem foldl_size:∀(n:Nat)(c a:Array Nat),((List.replicate n c).foldl (·++·) a).size=a.size+n*c.size
 |0,_,a=>by simp
 |n+1,c,a=>by
  rw[QK,QL,foldl_size n c,Array.size_append,Nat.succ_mul];omega
theorem vX{x:Str}{n:Int}(h:1<=n):(iR x n).length=n.toNat*x.length:=by
 unfold iR;split
 ·rename_i q;rw[Qg]at q;rcases q with q|q
  ·have:n=1:=(by simpa using q);rw[this];simp
  ·have:x.length=0:=(by simpa using q);rw[this];simp
 ·show((List.replicate n.toNat x.cps).foldl (·++·) #[]).size=n.toNat*x.cps.size;rw[foldl_size];simp
noncomputable def oF(a b:D):bF:=match a,b with
 |.int i,.int j=>lr (.int i) (.int j)
 |.str x,.int n=>if decide (1<=n/\n<=1000/\x.length<=1000)then some (.str (iR x n))else none
 |_,_=>none
section
variable{X:Cx}
theorem Et:iG X (TQ .Mult) (rD X.K oF):=by
 rintro pins s σ H x y u v Q I rx ry ⟨O,a,b,d,hO,ha,hb,hg,q⟩;cases a with
 |int i=>
  cases b with
  |int j=>exact C0 pins s σ H x y u v Q I rx ry (Bu (.int i) (.int j) d x y O H Q hO hg ha hb q)
  |_=>cases hg
 |str z=>
  cases b with
  |int n=>
   obtain⟨h1,h2⟩:=bA hg;subst h2;obtain⟨n1,n2,zl⟩:=of_decide_eq_true h1;rw[eN]at ha;rw[eM]at hb;subst ha hb;obtain⟨t,rfl⟩:=rx;obtain⟨t',rfl⟩:=ry;have zn:z.length*n.toNat<=1000*1000:=Nat.mul_le_mul zl ‹0›;refine P.mul_str (by rw[decide_eq_false ‹0›,decide_eq_false ‹0›];rfl) (λ_ _=>?_) (λ_ _=>?_) ?_
   ·have:(2^63-1:Int)/n>=(2^63-1)/1000:=by
     rw[ge_iff_le,Int.le_ediv_iff_mul_le ‹0›];have h3:(2^63-1:Int)/1000*n<=(2^63-1)/1000*1000:=Int.mul_le_mul_of_nonneg_left n2 (by decide);have h4:(2^63-1:Int)/1000*1000<=2^63-1:=(by decide);omega
    have h5:(2^63-1:Int)/1000=9223372036854775:=(by decide);omega
   ·unfold Builtin.Str.tooLong;rw[decide_eq_false];rw[TY];omega
   ·rw[if_neg ‹0›];have fin:∀tk,EP X pins σ Q (.str (iR z n) tk) {s with toks:=s.toks+1}/\EP X pins σ Q (.str (iR z n) tk) s:=λtk=>⟨⟨.str (iR z n),H,I.tok _,⟨_,rfl⟩,q _ H (aR.refl H) (eN.mpr rfl)⟩,⟨.str (iR z n),H,I,⟨_,rfl⟩,q _ H (aR.refl H) (eN.mpr rfl)⟩⟩
    by_cases e:(n==1||z.length==0)=true
    ·rw[if_pos e]
     have:iR z n=z:=(by unfold iR;rw[if_pos e]);rw[this]at fin;exact(fin t).2
    ·rw[if_neg e];have e2:iR z n=⟨(List.replicate n.toNat z.cps).foldl (·++·) #[]⟩:=(by unfold iR;rw[if_neg e]);rw[e2]at fin;refine⟨?_,(fin _).1⟩;have rl:=vX (x:=z) (n:=n) ‹0›;rw[e2]at rl;rw[rl,TY,Nat.mul_comm];omega
  |_=>cases hg
 |_=>cases hg
end
end TG
namespace TG
open PySem PySem.Spec PyProof.Rows PySem.W L2
variable[aA]
theorem qK:∀a:List Nat,¬a<a
 |[]=>QM _
 |x::xs=>λh=>by
  rcases List.cons_lt_cons_iff.mp h with h|⟨_,h⟩
  ·omega
  ·exact qK xs h
theorem jZ:∀{a b c:List Nat},a<b->b<c->a<c
 |_,_,[],_,h=>absurd h (QM _)
 |_,[],_::_,h,_=>absurd h (QM _)
 |[],_::_,_::_,_,_=>QN _ _
 |x::xs,y::ys,z::zs,h,h'=>by
  rw[QO]at h h' ⊢;rcases h with h|⟨e,h⟩<;>rcases h' with h'|⟨e',h'⟩
  ·exact .inl ‹0›
  ·exact .inl ‹0›
  ·exact .inl ‹0›
  ·exact .inr ⟨by omega,jZ h h'⟩
theorem Dj:∀a b:List Nat,a<b\/a=b\/b<a
 |[],[]=>.inr (.inl rfl)
 |[],_::_=>.inl (QN _ _)
 |_::_,[]=>.inr (.inr (QN _ _))
 |x::xs,y::ys=>by
  rw[QO,QO];rcases QP x y with h|h|h
  ·exact .inl (.inl h)
  ·rcases Dj xs ys with q|q|q
   ·exact .inl (.inr ⟨h,q⟩)
   ·exact .inr (.inl (by rw[h,q]))
   ·exact .inr (.inr (.inr ⟨h.symm,q⟩))
  ·exact .inr (.inr (.inl h))
theorem CN{x y:Str}(h:x.cps.toList=y.cps.toList):x=y:=by
 cases x;cases y;congr 1;exact Array.toList_inj.mp h
inductive Sh:bM->List D->Prop where
 |nil:Sh [] []
 |int (i:Int) {bs:bM} {ds:List D} (h:Sh bs ds):Sh (true::bs) (.int i::ds)
 |str (x:Str) {bs:bM} {ds:List D} (h:Sh bs ds):Sh (false::bs) (.str x::ds)
theorem Sh.length:∀{σ:bM}{a:List D},Sh σ a->a.length=σ.length
 |_,_,.nil=>rfl
 |_,_,.int _ h=>by rw[O8,O8,h.length]
 |_,_,.str _ h=>by rw[O8,O8,h.length]
theorem kR:∀{σ:bM}{a:List D},Sh σ a->lx a=true
 |_,_,.nil=>rfl
 |_,_,.int i h=>by
  unfold lx;exact kR h
 |_,_,.str i h=>by
  unfold lx;exact kR h
theorem qE(i j:Int)(as bs:List D):cK (.int i::as) (.int j::bs)=if i=j then cK as bs else some (decide (i<j)):=by rw[cK]
theorem qI(x y:Str)(as bs:List D):cK (.str x::as) (.str y::bs)=if x=y then cK as bs else some (decide (x.cps.toList<y.cps.toList)):=by rw[cK]
theorem DP:cK [] []=some false:=by rw[cK]
theorem ju:∀{σ:bM}{a:List D},Sh σ a->cK a a=some false
 |_,_,.nil=>DP
 |_,_,.int i h=>by rw[qE,if_pos rfl];exact ju h
 |_,_,.str x h=>by rw[qI,if_pos rfl];exact ju h
theorem mI{σ:bM}{a b:List D}(h1:Sh σ a)(h2:Sh σ b):(cK a b=some true/\cK b a=some false/\a≠b)\/a=b\/(cK b a=some true/\cK a b=some false/\a≠b):=by
 induction h1 generalizing b with
 |nil=>cases h2;exact .inr (.inl rfl)
 |int i h ih=>
  cases h2 with|int j h'=>
  rw[qE,qE];by_cases e:i=j
  ·subst e;rw[if_pos rfl,if_pos rfl];rcases ih h' with⟨q1,q2,q3⟩|q|⟨q1,q2,q3⟩
   ·exact .inl ⟨q1,q2,λz=>q3 (by injection z)⟩
   ·exact .inr (.inl (by rw[q]))
   ·exact .inr (.inr ⟨q1,q2,λz=>q3 (by injection z)⟩)
  ·rw[if_neg e,if_neg (λz=>e z.symm)];rcases Int.lt_or_gt_of_ne e with q|q
   ·exact .inl ⟨by rw[decide_eq_true q],by rw[decide_eq_false ‹0›],λz=>e (by injection z with z1;injection z1)⟩
   ·exact .inr (.inr ⟨by rw[decide_eq_true q],by rw[decide_eq_false ‹0›],λz=>e (by injection z with z1;injection z1)⟩)
 |str x h ih=>
  cases h2 with|str y h'=>
  rw[qI,qI];by_cases e:x=y
  ·subst e;rw[if_pos rfl,if_pos rfl];rcases ih h' with⟨q1,q2,q3⟩|q|⟨q1,q2,q3⟩
   ·exact .inl ⟨q1,q2,λz=>q3 (by injection z)⟩
   ·exact .inr (.inl (by rw[q]))
   ·exact .inr (.inr ⟨q1,q2,λz=>q3 (by injection z)⟩)
  ·rw[if_neg e,if_neg (λz=>e z.symm)];rcases Dj x.cps.toList y.cps.toList with q|q|q
   ·exact .inl ⟨by rw[decide_eq_true q],by rw[decide_eq_false λz=>qK _ (jZ q z)],λz=>e (by injection z with z1;injection z1)⟩
   ·exact absurd (CN q) e
   ·exact .inr (.inr ⟨by rw[decide_eq_true q],by rw[decide_eq_false λz=>qK _ (jZ q z)],λz=>e (by injection z with z1;injection z1)⟩)
theorem rX{σ:bM}{a b c:List D}(h1:Sh σ a)(h2:Sh σ b)(h3:Sh σ c)(q:cK a b=some true)(q':cK b c=some true):cK a c=some true:=by
 induction h1 generalizing b c with
 |nil=>cases h2;rw[DP]at q;cases q
 |int i h ih=>
  cases h2 with|int j h'=>
  cases h3 with|int k h''=>
  rw[qE]at q q' ⊢;by_cases e:i=j
  ·subst e;rw[if_pos rfl]at q;by_cases e':i=k
   ·subst e';rw[if_pos rfl]at q' ⊢;exact ih h' h'' q q'
   ·rw[if_neg e']at q' ⊢;exact q'
  ·rw[if_neg e]at q;have q1:=of_decide_eq_true (Option.some.inj q);by_cases e':j=k
   ·subst e';rw[if_neg e,decide_eq_true q1]
   ·rw[if_neg e']at q';have q2:=of_decide_eq_true (Option.some.inj q');rw[if_neg ‹0›,decide_eq_true ‹0›]
 |str i h ih=>
  cases h2 with|str j h'=>
  cases h3 with|str k h''=>
  rw[qI]at q q' ⊢;by_cases e:i=j
  ·subst e;rw[if_pos rfl]at q;by_cases e':i=k
   ·subst e';rw[if_pos rfl]at q' ⊢;exact ih h' h'' q q'
   ·rw[if_neg e']at q' ⊢;exact q'
  ·rw[if_neg e]at q;have q1:=of_decide_eq_true (Option.some.inj q);by_cases e':j=k
   ·subst e';rw[if_neg e,decide_eq_true q1]
   ·rw[if_neg e']at q';have q2:=of_decide_eq_true (Option.some.inj q');rw[if_neg (show¬i=k from λz=>by rw[z]at q1;exact qK _ (jZ q1 q2)),decide_eq_true (jZ q1 q2)]
theorem A1{σ:bM}{a b:List D}(h:Sh σ a)(h':Sh σ b)(q:cK a b=some true):cK b a=some false:=by
 rcases mI h h' with⟨_,q2,_⟩|e|⟨_,q2,_⟩
 ·exact q2
 ·subst e;rw[ju h]at q;cases q
 ·rw[q2]at q;cases q
noncomputable def kLt(a b:List D):Bool:=cK a b==some true
theorem EY{a b:List D}:kLt a b=true↔cK a b=some true:=by unfold kLt;simp
section
variable{α:Type}
noncomputable def Ax(key:α->List D)(x:α):List α->List α
 |[]=>[x]
 |y::ys=>if kLt (key x) (key y)then x::y::ys else y::Ax key x ys
noncomputable def gP(key:α->List D):List α->List α
 |[]=>[]
 |x::xs=>Ax key x (gP key xs)
theorem nG(key:α->List D)(x:α):∀ys:List α,(Ax key x ys).Perm (x::ys)
 |[]=>.refl _
 |y::ys=>by
  unfold Ax;split
  ·exact .refl _
  ·exact(List.Perm.cons y (nG key x ys)).trans (.swap x y ys)
theorem eP(key:α->List D):∀xs:List α,(gP key xs).Perm xs
 |[]=>.refl _
 |x::xs=>(nG key x _).trans (.cons x (eP key xs))
noncomputable def u9(key:α->List D)(xs:List α):Prop:=xs.Pairwise λx y=>cK (key x) (key y)=some true
theorem vt{key:α->List D}{σ:bM}{x:α}(hx:Sh σ (key x)):∀{ys:List α},(∀y∈ys,Sh σ (key y)/\key x≠key y)->u9 key ys->u9 key (Ax key x ys)
 |[],_,_=>QQ _ _
 |y::ys,h,p=>by
  have p':=List.pairwise_cons.mp p;obtain⟨hy,ne⟩:=h y OU;unfold Ax;split
  ·rename_i q;have q:=EY.mp q;refine List.pairwise_cons.mpr ⟨λz hz=>?_,p⟩;rcases List.mem_cons.mp hz with rfl|hz
   ·exact q
   ·exact rX hx hy (h z (OV _ hz)).1 q (p'.1 z hz)
  ·rename_i q;have q:cK (key y) (key x)=some true:=by
    rcases mI hx hy with⟨z,_⟩|z|⟨z,_⟩
    ·exact absurd (EY.mpr z) q
    ·exact absurd z ne
    ·exact z
   refine List.pairwise_cons.mpr ⟨λz hz=>?_,vt hx (λz hz=>h z (OV _ hz)) p'.2⟩;rcases List.mem_cons.mp ((nG key x ys).mem_iff.mp hz)with rfl|hz
   ·exact q
   ·exact p'.1 z hz
theorem kT{key:α->List D}{σ:bM}:∀{xs:List α},(∀x∈xs,Sh σ (key x))->xs.Pairwise (λx y=>key x≠key y)->u9 key (gP key xs)
 |[],_,_=>List.Pairwise.nil
 |x::xs,h,p=>by
  have p':=List.pairwise_cons.mp p;refine vt (h x OU) (λy hy=>?_) (kT (λy hy=>h y (OV _ hy)) p'.2);have hy:=(eP key xs).mem_iff.mp hy;exact⟨h y (OV _ hy),p'.1 y hy⟩
theorem xX{key:α->List D}{σ:bM}:∀{xs ys:List α},(∀x∈xs,Sh σ (key x))->u9 key xs->u9 key ys->xs.Perm ys->xs=ys
 |[],ys,_,_,_,e=>(List.perm_nil.mp e.symm).symm
 |x::xs,[],_,_,_,e=>List.perm_nil.mp e
 |x::xs,y::ys,h,p,q,e=>by
  have p':=List.pairwise_cons.mp p;have q':=List.pairwise_cons.mp q;have exy:x=y:=by
   rcases List.mem_cons.mp (e.mem_iff.mp OU)with z|z
   ·exact z
   ·have w1:=q'.1 x z;rcases List.mem_cons.mp (e.symm.mem_iff.mp OU)with z'|z'
    ·exact z'.symm
    ·have w2:=p'.1 y z'
     have:=A1 (h x OU) (h y (OV _ z')) w2
     rw[w1]at this;cases this
  subst exy;rw[xX (λz hz=>h z (OV _ hz)) p'.2 q'.2 (List.Perm.cons_inv e)]
theorem mN{key:α->List D}{σ:bM}{xs ys:List α}(h:∀x∈xs,Sh σ (key x))(p:xs.Pairwise λx y=>key x≠key y)(q:u9 key ys)(e:ys.Perm xs):gP key xs=ys:=
 xX (λx hx=>h x ((eP key xs).mem_iff.mp hx)) (kT h p) q ((eP key xs).trans e.symm)
noncomputable def rank(ks:aE)(i:Nat):Nat:=(ks.filter λk=>kLt k (ks.getD i [])).length
theorem oX{ks:aE}{σ:bM}(h:∀k∈ks,Sh σ k){i j:Nat}(hi:i<ks.length)(hj:j<ks.length):decide (rank ks i<rank ks j)=kLt (ks.getD i []) (ks.getD j []):=by
 have gi:ks.getD i []=ks[i]:=by simp[hi]
 have gj:ks.getD j []=ks[j]:=by simp[hj]
 have mono:∀a b:List D,Sh σ a->Sh σ b->cK a b=some true->∀l:aE,(∀k∈l,Sh σ k)->(l.filter λk=>kLt k a).length<=(l.filter λk=>kLt k b).length/\(a∈l->(l.filter λk=>kLt k a).length<(l.filter λk=>kLt k b).length):=by
  intro a b ha hb hab l
  induction l with
  |nil=>exact λ_=>⟨O1 _,λz=>nomatch z⟩
  |cons k l ih=>
   intro hl;obtain⟨i1,i2⟩:=ih λz hz=>hl z (OV _ hz);have hk:=hl k OU;by_cases q:kLt k a=true
   ·have q':kLt k b=true:=EY.mpr (rX hk ha hb (EY.mp q) hab);rw[QR (p:=λk=>kLt k a) q,QR (p:=λk=>kLt k b) q',O8,O8];refine⟨by omega,λz=>?_⟩;rcases List.mem_cons.mp z with rfl|z
    ·rw[EY,ju ha]at q;cases q
    ·have:=i2 z;omega
   ·rw[QS (p:=λk=>kLt k a) q];by_cases q':kLt k b=true
    ·rw[QR (p:=λk=>kLt k b) q',O8];exact⟨by omega,λ_=>by omega⟩
    ·rw[QS (p:=λk=>kLt k b) q'];refine⟨i1,λz=>?_⟩;rcases List.mem_cons.mp z with rfl|z
     ·exact absurd (EY.mpr hab) q'
     ·exact i2 z
 unfold rank;rw[gi,gj];have hi':=h _ (QT hi);have hj':=h _ (QT hj);rcases mI hi' hj' with⟨z,_⟩|z|⟨z,z',_⟩
 ·rw[EY.mpr z];exact decide_eq_true ((mono _ _ hi' hj' z ks h).2 (QT hi))
 ·rw[z]
  have:kLt ks[j] ks[j]=false:=by unfold kLt;rw[ju hj'];rfl
  rw[this];exact decide_eq_false (OM _)
 ·have e:kLt ks[i] ks[j]=false:=by unfold kLt;rw[z'];rfl
  rw[e];exact decide_eq_false (Nat.not_lt.mpr (mono _ _ hj' hi' z ks h).1)
end
section
variable{cmp:Nat->Nat->(Bool->cQ)->cQ}{r:Nat->Nat}{N:Nat}
noncomputable def jR(cmp:Nat->Nat->(Bool->cQ)->cQ)(r:Nat->Nat)(N:Nat)(s:Tg):Prop:=∀(i j:Nat)(C:Bool->cQ),i<N->j<N->C (decide (r i<r j)) s->cmp i j C s
noncomputable def PM(N:Nat)(p:Array Nat):Prop:=p.Perm (List.toArray (List.range N))
theorem PM.size{p:Array Nat}(h:PM N p):p.size=N:=by
 have:=h.size_eq;simpa using this
theorem PM.lt{p:Array Nat}(h:PM N p){i:Nat}(hi:i<N):p.getD i 0<N:=by
 have hs:=h.size;have e:p.getD i 0=p[i]'‹0›:=by simp[Array.getD,hs,hi]
 rw[e];have m:p[i]'‹0›∈p:=Array.getElem_mem _
 have:=(h.mem_iff (a:=p[i]'‹0›)).mp m
 simpa using this
theorem PM.rev{p:Array Nat}(h:PM N p)(i j:Nat):PM N (kas_rev p i j):=(mirror_perm p i j _).trans h
noncomputable abbrev Rk(r:Nat->Nat)(p:Array Nat)(i:Nat):Nat:=r (p.getD i 0)
theorem t9{p:Array Nat}{i j:Nat}(hj:j<=p.size)(k:Nat):Rk r (kas_rev p i j) k=if i<=k/\k<j then Rk r p (i+j-1-k)else Rk r p k:=by
 have e:=getElem?_mirror_all (xs:=p) (i:=i) (j:=j) hj k;have g:∀(q:Array Nat)(k:Nat),q.getD k 0=(q[k]?).getD 0:=λq k=>by simp
 show r ((kas_rev p i j).getD k 0)=_;rw[g];show r (((mirror p i j ((j-i)/2))[k]?).getD 0)=_;rw[e];split
 ·show _=r (p.getD _ 0);rw[g]
 ·show _=r (p.getD _ 0);rw[g]
theorem Bk{p:Array Nat}{src d:Nat}(hs:src<p.size)(hd:d<=src)(k:Nat):Rk r (bubble p src d) k=if k=src-d then Rk r p src else if src-d<k/\k<=src then Rk r p (k-1)else Rk r p k:=by
 have e:=getElem?_bubble (xs:=p) hs d hd k;have g:∀(q:Array Nat)(k:Nat),q.getD k 0=(q[k]?).getD 0:=λq k=>by simp
 show r ((bubble p src d).getD k 0)=_;rw[g,e];split
 ·show _=r (p.getD _ 0);rw[g]
 ·split
  ·show _=r (p.getD _ 0);rw[g]
  ·show _=r (p.getD _ 0);rw[g]
noncomputable def Up(r:Nat->Nat)(p:Array Nat)(k:Nat):Prop:=∀i j,i<=j->j<k->Rk r p i<=Rk r p j
noncomputable def Dn(r:Nat->Nat)(p:Array Nat)(k:Nat):Prop:=∀i j,i<=j->j<k->Rk r p j<=Rk r p i
variable{s:Tg}
theorem wD(hc:jR cmp r N s){p:Array Nat}(hp:PM N p){G:Nat->cQ}:∀(f n:Nat),1<=n->n+f<=N->Up r p n->(∀m,n<=m->m<=n+f->Up r p m->(m=n+f\/Rk r p m<Rk r p (m-1))->G m s)->(kas_asc p f n).kasWp cmp G s
 |0,n,_,_,u,h=>h n (O1 _) (O1 _) u (.inl rfl)
 |f+1,n,h1,h2,u,h=>by
  refine hc _ _ _ (hp.lt ‹0›) (hp.lt ‹0›) ?_;by_cases q:Rk r p n<Rk r p (n-1)
  ·rw[decide_eq_true q];dsimp only;rw[if_pos rfl];exact h n (O1 _) ‹0› u (.inr q)
  ·rw[decide_eq_false q];dsimp only;rw[if_neg O7];refine wD hc hp f (n+1) ‹0› ‹0› (λi j hij hj=>?_) λm a b=>?_
   ·by_cases hjn:j<n
    ·exact u i j hij hjn
    ·have ej:j=n:=(by omega);subst ej;by_cases ei:i=j
     ·subst ei;exact O1 _
     ·have:=u i (j-1) ‹0› ‹0›
      omega
   ·intro um hm;exact h m ‹0› ‹0› um (by rcases hm with z|z;exact .inl ‹0›;exact .inr z)
theorem Cz{p:Array Nat}{n q:Nat}(hn:n<=p.size)(hq:q+1<=n)(he:∀i,n-(q+1)<=i->i<n->Rk r p i=Rk r p (n-1))(k:Nat):Rk r (kas_rev p (n-(q+1)) n) k=Rk r p k:=by
 rw[t9 hn];split
 ·rename_i h;rw[he _ ‹0› ‹0›,he k h.1 h.2]
 ·rfl
theorem o9(hc:jR cmp r N s){G:Array Nat×Nat×Nat->cQ}:∀(f:Nat)(p:Array Nat)(n q:Nat),PM N p->1<=n->n+f<=N->Dn r p n->q+1<=n->(∀i,n-(q+1)<=i->i<n->Rk r p i=Rk r p (n-1))->
  (∀p' m q',PM N p'->n<=m->m<=n+f->Dn r p' m->q'+1<=m->(∀i,m-(q'+1)<=i->i<m->Rk r p' i=Rk r p' (m-1))->G (p',m,q') s)->(kas_desc f p n q).kasWp cmp G s
 |0,p,n,q,hp,_,_,d,hq,he,h=>h p n q hp (O1 _) (O1 _) d hq he
 |f+1,p,n,q,hp,h1,h2,d,hq,he,h=>by
  have hs:=hp.size;have step:∀p',(∀k,Rk r p' k=Rk r p k)->Rk r p n<=Rk r p (n-1)->Dn r p' (n+1):=λp' hk hl i j hij hj=>by
   rw[hk,hk];by_cases hjn:j<n
   ·exact d i j hij hjn
   ·have ej:j=n:=(by omega);subst ej;by_cases ei:i=j
    ·subst ei;exact O1 _
    ·have:=d i (j-1) ‹0› ‹0›
     omega
  refine hc _ _ _ (hp.lt ‹0›) (hp.lt ‹0›) ?_;by_cases q1:Rk r p n<Rk r p (n-1)
  ·rw[decide_eq_true q1];dsimp only;rw[if_pos rfl];by_cases hq0:q>0
   ·rw[if_pos hq0];refine o9 hc f _ (n+1) 0 (hp.rev _ _) ‹0› ‹0› (step _ (Cz ‹0› hq he) ‹0›) ‹0› (λi a b=>by rw[show i=n+1-1 by omega]) λp' m q' a b c=>h p' m q' a ‹0› ‹0›
   ·rw[if_neg hq0];refine o9 hc f _ (n+1) 0 hp ‹0› ‹0› (step _ (λ_=>rfl) ‹0›) ‹0› (λi a b=>by rw[show i=n+1-1 by omega]) λp' m q' a b c=>h p' m q' a ‹0› ‹0›
  ·rw[decide_eq_false q1];dsimp only;rw[if_neg O7];refine hc _ _ _ (hp.lt ‹0›) (hp.lt ‹0›) ?_;by_cases q2:Rk r p (n-1)<Rk r p n
   ·rw[decide_eq_true q2];dsimp only;rw[if_pos rfl];exact h p n q hp (O1 _) ‹0› d hq he
   ·rw[decide_eq_false q2];dsimp only;rw[if_neg O7];refine o9 hc f _ (n+1) (q+1) hp ‹0› ‹0› (step _ (λ_=>rfl) ‹0›) ‹0› (λi a b=>?_) λp' m q' a b c=>h p' m q' a ‹0› ‹0›;rw[show n+1-1=n by omega];by_cases ei:i=n
    ·subst ei;rfl
    ·have:=he i ‹0› ‹0›
     omega
theorem uY(hc:jR cmp r N s){p:Array Nat}(hp:PM N p){n:Nat}(h1:1<=n)(hn:n<=N)(d:Dn r p n){G:Nat×Array Nat->cQ}(h:∀m p',PM N p'->1<=m->m<=N->Up r p' m->G (m,p') s):(kas_tail3 n N p).kasWp cmp G s:=by
 unfold kas_tail3;rw[KasT.kasWp_bind];have hs:=hp.size;refine wD hc (hp.rev 0 n) _ _ h1 ‹0› (λi j hij hj=>?_) λm a b u _=>h m _ (hp.rev 0 n) ‹0› ‹0› u;rw[t9 ‹0›,t9 ‹0›,if_pos ‹0›,if_pos ‹0›];exact d _ _ ‹0› ‹0›
theorem oC(hc:jR cmp r N s){p:Array Nat}(hp:PM N p){n:Nat}(hn:n+1<=N)(d:Dn r p (n+1)){G:Nat×Array Nat->cQ}(h:∀m p',PM N p'->1<=m->m<=N->Up r p' m->G (m,p') s):(kas_descPart n N p).kasWp cmp G s:=by
 unfold kas_descPart;rw[KasT.kasWp_bind];refine o9 hc _ _ _ _ hp ‹0› ‹0› d ‹0› (λi a b=>by rw[show i=n+1-1 by omega]) λp' m q' hp' a b d' hq he=>?_;have hs:=hp'.size;dsimp only;by_cases hq0:q'>0
 ·rw[if_pos hq0];refine uY hc (hp'.rev _ _) ‹0› ‹0› (λi j hij hj=>?_) h;rw[Cz ‹0› hq he,Cz ‹0› hq he];exact d' i j hij hj
 ·rw[if_neg hq0];exact uY hc hp' ‹0› ‹0› d' h
theorem Cp(hc:jR cmp r N s)(h1:1<=N){p:Array Nat}(hp:PM N p){G:Nat×Array Nat->cQ}(h:∀m p',PM N p'->1<=m->m<=N->Up r p' m->G (m,p') s):(kas_count N p).kasWp cmp G s:=by
 unfold kas_count;rw[KasT.kasWp_bind];have hs:=hp.size;refine wD hc hp _ _ (O1 _) ‹0› (λi j hij hj=>by rw[show i=j by omega];exact O1 _) λn a b u hor=>?_;by_cases hn:n=N
 ·rw[if_pos (by simpa using hn)];exact h n p hp a ‹0› u
 ·rw[if_neg (by simpa using hn)];have hlt:Rk r p n<Rk r p (n-1):=by
   rcases hor with z|z
   ·omega
   ·exact z
  by_cases hg:n>1
  ·rw[if_pos hg];refine hc _ _ _ (hp.lt ‹0›) (hp.lt ‹0›) ?_;by_cases q:Rk r p 0<Rk r p (n-1)
   ·rw[decide_eq_true q];dsimp only;rw[if_pos rfl];exact h n p hp a ‹0› u
   ·rw[decide_eq_false q];dsimp only;rw[if_neg O7];have hall:∀k,k<n->Rk r p k=Rk r p (n-1):=λk hk=>by
     have a1:=u 0 k ‹0› hk;have a2:=u k (n-1) ‹0› ‹0›;omega
    have hr:∀k,Rk r (kas_rev p 0 n) k=Rk r p k:=λk=>by
     rw[t9 ‹0›];split
     ·rename_i z;rw[hall _ ‹0›,hall k z.2]
     ·rfl
    refine oC hc (hp.rev _ _) ‹0› (λi j hij hj=>?_) h;rw[hr,hr];by_cases hjn:j<n
    ·rw[hall i ‹0›,hall j hjn];exact O1 _
    ·have ej:j=n:=(by omega);subst ej;by_cases ei:i=j
     ·subst ei;exact O1 _
     ·rw[hall i ‹0›];omega
  ·rw[if_neg hg];have en:n=1:=(by omega);subst en;refine oC hc hp ‹0› (λi j hij hj=>?_) h;by_cases ei:i=j
   ·subst ei;exact O1 _
   ·have e0:i=0:=(by omega);have e1:j=1:=(by omega);subst e0 e1;exact OS hlt
theorem qb(hc:jR cmp r N s){p:Array Nat}(hp:PM N p){k:Nat}(hk:k<N)(u:Up r p k){G:Nat->cQ}(h:∀l,l<=k->(∀i,i<l->Rk r p i<=Rk r p k)->(∀i,l<=i->i<k->Rk r p k<Rk r p i)->G l s):
  ∀(f l t:Nat),t-l<=f->l<=t->t<=k->(∀i,i<l->Rk r p i<=Rk r p k)->(∀i,t<=i->i<k->Rk r p k<Rk r p i)->(kas_place p k f l t).kasWp cmp G s
 |0,l,t,a,b,c,d,e=>h l ‹0› d λi x y=>e i ‹0› y
 |f+1,l,t,a,b,c,d,e=>by
  unfold kas_place;by_cases hl:l>=t
  ·rw[if_pos hl];exact h l ‹0› d λi x y=>e i ‹0› y
  ·rw[if_neg hl];refine hc _ _ _ (hp.lt hk) (hp.lt ‹0›) ?_;by_cases q:Rk r p k<Rk r p ((l+t)/2)
   ·rw[decide_eq_true q];dsimp only;rw[if_pos rfl];refine qb hc hp hk u h f l ((l+t)/2) ‹0› ‹0› ‹0› d λi x y=>?_
    have:=u ((l+t)/2) i x y
    omega
   ·rw[decide_eq_false q];dsimp only;rw[if_neg O7];refine qb hc hp hk u h f ((l+t)/2+1) t ‹0› ‹0› ‹0› (λi x=>?_) e
    have:=u i ((l+t)/2) ‹0› ‹0›
    omega
theorem DG(hc:jR cmp r N s){G:Array Nat->cQ}(h:∀p,PM N p->Up r p N->G p s):∀(f:Nat)(p:Array Nat)(k:Nat),PM N p->k+f=N->Up r p k->(kas_bin f p k).kasWp cmp G s
 |0,p,k,hp,e,u=>h p hp (by rw[<-e];exact u)
 |f+1,p,k,hp,e,u=>by
  unfold kas_bin;rw[KasT.kasWp_bind];have hs:=hp.size;refine qb hc hp ‹0› u (λl hl d e'=>?_) k 0 k ‹0› (Ph _) (O1 _) (λi x=>by omega) λi x y=>by omega
  refine DG hc h f _ (k+1) ((bubble_perm p k _).trans hp) ‹0› λi j hij hj=>?_;rw[Bk ‹0› ‹0›,Bk ‹0› ‹0›,show k-(k-l)=l by omega];have U:=u;by_cases i1:i=l
  ·rw[if_pos i1];by_cases j1:j=l
   ·rw[if_pos j1];exact O1 _
   ·rw[if_neg j1,if_pos ‹0›];exact OS (e' (j-1) ‹0› ‹0›)
  ·rw[if_neg i1];by_cases i2:l<i/\i<=k
   ·rw[if_pos i2,if_neg ‹0›,if_pos ‹0›];exact U _ _ ‹0› ‹0›
   ·rw[if_neg i2];by_cases j1:j=l
    ·rw[if_pos j1];exact d i ‹0›
    ·rw[if_neg j1];by_cases j2:l<j/\j<=k
     ·rw[if_pos j2];exact U _ _ ‹0› ‹0›
     ·rw[if_neg j2];exact U _ _ hij ‹0›
theorem yN(hc:jR cmp r N s)(h2:1<=N){G:Array Nat->cQ}(h:∀p,PM N p->Up r p N->G p s):(kas_sort N).kasWp cmp G s:=by
 unfold kas_sort;rw[KasT.kasWp_bind];refine Cp hc h2 (Array.Perm.refl _) λm p' hp a b u=>?_;dsimp only;by_cases hm:m<N
 ·rw[if_pos hm,show max m 1=m by omega];exact DG hc h _ p' m hp ‹0› u
 ·rw[if_neg hm];exact h p' hp (by rw[show N=m by omega];exact u)
end
section
variable{prog:Ti}{w:Th}{A:Ts}{E:bq}{s:Tg}
theorem rg{a:Td}{vs:aU}{n:Nat}{P:PySem.Fin->cQ}{κ:UM}{r:Nat->Nat}(ho:s.heap.get? a=some (seqObj "list" vs.toArray n))(h64:vs.length<64)
  (hk:2<=vs.length->∀h':Tl,(∀b o,b≠a->s.heap.get? b=some o->h'.get? b=some o)->∀(Q:UM->cQ),Q κ {s with heap:=h'}->Tu (model prog w) A (keyKind' vs.toArray) Q E {s with heap:=h'})
  (hr:2<=vs.length->∀h':Tl,(∀b o,b≠a->s.heap.get? b=some o->h'.get? b=some o)->jR (UN prog w A κ vs) r vs.length {s with heap:=h'})
  (h:∀p:Array Nat,PM vs.length p->Up r p vs.length->P (.done (.ret .none)) {s with heap:=sortedHeap s.heap a vs (List.toArray (p.toList.map λi=>vs.getD i Value.none))}):
  Tu (model prog w) A (Builtin.«list.sort» ⟨[.ref a],[]⟩) P E s:=by
 rw[list_sort_plain];have ha:a<s.heap.objs.size:=Sx ho;refine TH (listItems_at ho rfl ?_);refine TH (UO ho rfl ?_ (by rw[O6,TY];omega) (Ph _));obtain⟨e1,ho1⟩:∃e1,(s.heap.update a (Obj.mapSeq λ_=>(#[]:eD))).get? a=some (seqObj "list" #[] e1):=⟨_,UP ho (λ_=>#[])⟩
 refine TH (UQ ho1 rfl ?_);refine TH (UI ?_ (by show vs.length<=_;rw[TY];omega));refine TH (UR ?_ (Ph _));refine Uh ?_;have ho6:(((s.heap.update a (Obj.mapSeq λ_=>(#[]:eD))).push (seqObj "tuple" vs.toArray 0)).push (seqObj "list" #[] 0)).get? a=some (seqObj "list" #[] e1):=by
  rw[SH _ _ _ (by rw[size_push',SJ];exact OO (PZ ha)),SH _ _ _ (by rw[SJ];exact OO ha)];exact ho1
 have kept:∀b o,b≠a->s.heap.get? b=some o->(((s.heap.update a (Obj.mapSeq λ_=>(#[]:eD))).push (seqObj "tuple" vs.toArray 0)).push (seqObj "list" #[] 0)).get? b=some o:=λb o hb e=>
  SA _ (SA _ (by rw[SK _ _ _ _ hb];exact e))
 show Tu (model prog w) A _ P E {s with heap:=((s.heap.update a (Obj.mapSeq λ_=>(#[]:eD))).push (seqObj "tuple" vs.toArray 0)).push (seqObj "list" #[] 0)};dsimp only;have hsz:vs.toArray.size=vs.length:=by simp
 by_cases h2:vs.toArray.size<2
 ·rw[if_pos h2,if_pos h2];refine TH (TF ?_);rw[StateT.run_pure];refine TH (TF ?_);dsimp only;refine TH (UQ ho6 rfl ?_);have hout:(arrOf (SortSt.mk' general' (vs.toArray.zip vs.toArray) #[] 7 none)).map (·.2)=List.toArray ((List.toArray (List.range vs.length)).toList.map λi=>vs.getD i Value.none):=by
   refine kat_snds rfl ?_;show vs.toArray.zip vs.toArray=_;have e:=kas_range (vs.toArray.zip vs.toArray);rw[show(vs.toArray.zip vs.toArray).size=vs.length by simp]at e;exact e.symm
  rw[hout];refine TH (UO ho6 rfl ?_ (Ph _) (by rw[O6,Pa,TY];simp;omega));simp only[bne_self_eq_false,PY,if_false];refine TF (h _ (Array.Perm.refl _) λi j hij hj=>?_)
  have:i=j:=by omega
  subst this;exact O1 _
 ·rw[if_neg h2,if_neg h2];have h2':2<=vs.length:=by omega
  refine TH (hk h2' _ kept _ ?_);refine TH (Tx (kat_run (Q:=λst' s'=>∃p:Array Nat,arrOf st'=p.map (kas_item (vs.toArray.zip vs.toArray))/\failedOf st'=none/\PM vs.length p/\Up r p vs.length/\s'={s with heap:=((s.heap.update a (Obj.mapSeq λ_=>(#[]:eD))).push (seqObj "tuple" vs.toArray 0)).push (seqObj "list" #[] 0)})
   (G:=λp s'=>PM vs.length p/\Up r p vs.length/\s'={s with heap:=((s.heap.update a (Obj.mapSeq λ_=>(#[]:eD))).push (seqObj "tuple" vs.toArray 0)).push (seqObj "list" #[] 0)})
   rfl h2' h64 (λp' st' s' a1 a2 a3 a4=>⟨p',a2,a3,a4.1,a4.2.1,a4.2.2⟩) (yN (hr h2' _ kept) ‹0› λp hp hu=>⟨hp,hu,rfl⟩)) ?_ λ_ _ e=>e)
  rintro⟨⟨⟩,st'⟩ s' ⟨p,har,hf,hp,hu,rfl⟩;dsimp only;refine TH (UQ ho6 rfl ?_);have hout:=kat_snds rfl har;rw[hout];refine TH (UO ho6 rfl ?_ (Ph _) (by rw[O6,Pa,Array.length_toList,hp.size,TY];omega));rw[hf];simp only[bne_self_eq_false,PY,if_false];exact TF (h p hp hu)
theorem qe{src:S9}{vs:aU}{Q:bq}{κ:UM}{r:Nat->Nat}(h64:vs.length<64)
  (hcol:∀(Q':aU->cQ),(∀h' tk,(∀b o,s.heap.get? b=some o->h'.get? b=some o)->Q' vs {s with heap:=h',toks:=tk})->Tu (model prog w) A.in1 (collect src) Q' E s)
  (hk:2<=vs.length->∀(h':Tl)(tk:Nat),(∀b o,s.heap.get? b=some o->h'.get? b=some o)->∀(Q:UM->cQ),Q κ {s with heap:=h',toks:=tk}->Tu (model prog w) A.in1.in1 (keyKind' vs.toArray) Q E {s with heap:=h',toks:=tk})
  (hr:2<=vs.length->∀(h':Tl)(tk:Nat),(∀b o,s.heap.get? b=some o->h'.get? b=some o)->jR (UN prog w A.in1.in1 κ vs) r vs.length {s with heap:=h',toks:=tk})
  (h:∀(p:Array Nat)(h1 h':Tl)(l:Td)(e tk:Nat),PM vs.length p->Up r p vs.length->(∀b o,s.heap.get? b=some o->h1.get? b=some o)->(∀b o,h1.get? b=some o->h'.get? b=some o)->h1.objs.size<=l->h'.get? l=some (seqObj "list" (List.toArray (p.toList.map λi=>vs.getD i Value.none)) e)->Q (.ref l) {s with heap:=h',toks:=tk}):
  Tu (model prog w) A (call (.builtin "sorted") [src]) Q E s:=by
 refine Calls.call_function_entry kind_sorted plain_sorted entry_sorted (args_sorted1 _) ?_;unfold Builtin.«sorted»;refine TH (m:=checkCount "sorted" 1 1 _) (TF ?_);refine TH (hcol _ λh1 tk k1=>?_);refine TH (UR ?_ (by rw[TY];omega));have hoL:(h1.push (seqObj "list" vs.toArray 0)).get? h1.objs.size=some (seqObj "list" vs.toArray 0):=SD _ rfl;have k2:∀b o,s.heap.get? b=some o->(h1.push (seqObj "list" vs.toArray 0)).get? b=some o:=λb o e=>SA _ (k1 b o e);have ne:∀b o,s.heap.get? b=some o->b≠h1.objs.size:=λb o e=>OO (Sx (k1 b o e));refine TH (Uh (Uj slot_list_sort ⟨_,hoL,rfl⟩ entry_list_sort (rg (s:={s with heap:=h1.push (seqObj "list" vs.toArray 0),toks:=tk}) (r:=r) (κ:=κ) hoL h64
  (λh2 h' k=>hk h2 h' tk λb o e=>k b o (ne b o e) (k2 b o e)) (λh2 h' k=>hr h2 h' tk λb o e=>k b o (ne b o e) (k2 b o e)) λp hp hu=>⟨_,rfl,?_⟩) (args_list_sort _)))
 refine TF ⟨_,rfl,?_⟩;obtain⟨e,he⟩:=sortedHeap_at (vs:=vs) (out:=List.toArray (p.toList.map λi=>vs.getD i Value.none)) hoL;exact h p h1 _ h1.objs.size e tk hp hu k1 (λb o q=>by rw[sortedHeap_old (OO (Sx q)) (by rw[size_push'];exact PZ (Sx q))];exact SA _ q) (O1 _) he
end
noncomputable def dh:D->List D
 |.tup ks=>ks
 |_=>[]
noncomputable def oneOf(d:D):List D:=[d]
noncomputable def IY(xs:List D):Prop:=xs.length<64/\∃σ:bM,σ≠[]/\(∀x∈xs,∃k,x=.tup k/\Sh σ k)/\xs.Pairwise λx y=>dh x≠dh y
noncomputable def JC(xs:List D):Prop:=xs.length<64/\∃b:Bool,(∀x∈xs,Sh [b] [x])/\xs.Pairwise λx y=>oneOf x≠oneOf y
open Classical in
noncomputable def oE(xs:List D):bF:=if IY xs then some (.lst (gP dh xs))else if JC xs then some (.lst (gP oneOf xs))else none
noncomputable def eA:List D->bF
 |[.lst xs]=>oE xs
 |[.tup xs]=>oE xs
 |_=>none
theorem oN{prog:Ti}{w:Th}{A:Ts}{s:Tg}{Q:Bool->cQ}{fin:Bool}(hf:fin=false){σ:bM}{ns ms:List D}{xs ys:aU}{i:Nat}(h1:Sh σ ns)(h2:Sh σ ms)(f1:fA xs ns)(f2:fA ys ms)(h:Q (kLt ns ms) s):KatLex prog w A true fin Q (xs.zip ys) i s:=by
 induction h1 generalizing ms xs ys i with
 |nil=>
  cases h2;cases f1;cases f2;subst hf;exact kat_nil (by simpa [kLt,cK]using h)
 |int a h1 ih=>
  cases h2 with|int c h2=>
  cases f1 with|int _ t f1=>
  cases f2 with|int _ u f2=>
  rw[QF];obtain⟨e,he,hiff⟩:=GD A s a t c u;refine kat_cons (he prog w _ _ ?_);cases e with
  |true=>
   have ac:=hiff.mp rfl;refine kat_yes (ih h2 f1 f2 ?_);unfold kLt at h ⊢;rw[qE,if_pos ac]at h;exact h
  |false=>
   have ac:¬a=c:=λq=>absurd (hiff.mpr q) O7;have h':Q (decide (a<c)) s:=by
    unfold kLt at h;rw[qE,if_neg ac]at h;cases hd:decide (a<c)<;>rw[hd]at h<;>exact h
   refine kat_no ?_;cases hi:(i==0)with
   |true=>exact oneLt_int h'
   |false=>exact kat_one _ _ (PySem.P.lt_int (show Sq Q (.bool _) s from h'))
 |str a h1 ih=>
  cases h2 with|str c h2=>
  cases f1 with|str _ t f1=>
  cases f2 with|str _ u f2=>
  rw[QF];obtain⟨e,he,hiff⟩:=Gz A s a t c u;refine kat_cons (he prog w _ _ ?_);cases e with
  |true=>
   have ac:=hiff.mp rfl;refine kat_yes (ih h2 f1 f2 ?_);unfold kLt at h ⊢;rw[qI,if_pos ac]at h;exact h
  |false=>
   have ac:¬a=c:=λq=>absurd (hiff.mpr q) O7;have h':Q (decide (a.cps.toList<c.cps.toList)) s:=by
    unfold kLt at h;rw[qI,if_neg ac]at h;cases hd:decide (a.cps.toList<c.cps.toList)<;>rw[hd]at h<;>exact h
   refine kat_no ?_;cases hi:(i==0)with
   |true=>exact oneLt_str h'
   |false=>exact kat_one _ _ (PySem.P.lt_str (show Sq Q (.bool _) s from h'))
theorem lM{h:Tl}{PT:S9->Prop}:∀{its:aU},(∀v∈its,∃a o xs n f,v=.ref a/\h.get? a=some o/\o.cls=.type "tuple"/\o.data=.seq xs n/\xs[0]?=some f/\PT f)->∃fs,KatTups h its fs/\fs.length=its.length/\∀f∈fs,PT f
 |[],_=>⟨[],.nil,rfl,λ_ h=>nomatch h⟩
 |v::its,hh=>by
  obtain⟨a,o,xs,n,f,rfl,h1,h2,h3,h4,h5⟩:=hh v OU;obtain⟨fs,k1,k2,k3⟩:=lM (its:=its) λu hu=>hh u (OV _ hu);refine⟨f::fs,.cons h1 h2 h3 h4 k1,by rw[O8,O8,k2],λg hg=>?_⟩;rcases List.mem_cons.mp hg with rfl|z
  ·exact h5
  ·exact k3 g z
theorem fA.first{σ:bM}{b:Bool}{xs:aU}{ns:List D}(f:fA xs ns)(h:Sh (b::σ) ns):∃v,xs[0]?=some v/\typeOf v=pure (.type (if b then"int"else"str")):=by
 cases f with
 |nil=>cases h
 |int i t f=>cases h;exact⟨_,rfl,rfl⟩
 |str i t f=>cases h;exact⟨_,rfl,rfl⟩
theorem ou{key:D->List D}{σ:bM}{ds:List D}(h:∀x∈ds,Sh σ (key x))(pw:ds.Pairwise λx y=>key x≠key y){p:Array Nat}(hp:PM ds.length p)(hu:Up (rank (ds.map key)) p ds.length):p.toList.map (λi=>ds.getD i .non)=gP key ds:=by
 have hr:p.toList.Perm (List.range ds.length):=by
  have:=Array.perm_iff_toList_perm.mp hp
  simpa using this
 have hmap:(List.range ds.length).map (λi=>ds.getD i .non)=ds:=by
  apply List.ext_getElem
  ·simp
  ·intro i h1 h2;simp at h1;simp[h1]
 have hperm:(p.toList.map λi=>ds.getD i .non).Perm ds:=by
  have:=hr.map (λi=>ds.getD i .non)
  rwa [hmap]at this
 have hn:p.toList.Nodup:=hr.nodup_iff.mpr List.nodup_range;refine(mN h pw ?_ hperm).symm;have hl:p.toList.length=ds.length:=by rw[hr.length_eq,Ql]
 have kd:∀i,i<ds.length->(ds.map key).getD i []=key (ds.getD i .non):=λi hi=>by simp[hi]
 have hsh:∀k∈ds.map key,Sh σ k:=λk hk=>by
  obtain⟨x,hx,rfl⟩:=List.mem_map.mp hk;exact h x hx
 unfold u9;rw[QU,List.pairwise_iff_getElem];intro i j hi hj hij;have hi':p.toList[i]<ds.length:=by simpa using hr.mem_iff.mp (QT hi)
 have hj':p.toList[j]<ds.length:=by simpa using hr.mem_iff.mp (QT hj)
 have ne:p.toList[i]≠p.toList[j]:=List.pairwise_iff_getElem.mp hn i j hi hj hij;have up:=hu i j ‹0› ‹0›;have gi:p.getD i 0=p.toList[i]:=by
  have:i<p.size:=by rw[<-Array.length_toList];exact hi
  simp[Array.getD,this]
 have gj:p.getD j 0=p.toList[j]:=by
  have:j<p.size:=by rw[<-Array.length_toList];exact hj
  simp[Array.getD,this]
 unfold Rk at up;rw[gi,gj]at up;have rl:=oX hsh (i:=p.toList[j]) (j:=p.toList[i]) (by rw[Pa];exact hj') (by rw[Pa];exact hi');rw[kd _ hj',kd _ hi',decide_eq_false ‹0›]at rl;have ei:ds.getD p.toList[i] .non=ds[p.toList[i]]:=by rw[QV,Qd hi'];rfl
 have ej:ds.getD p.toList[j] .non=ds[p.toList[j]]:=by rw[QV,Qd hj'];rfl
 have s1:=h _ (show ds.getD p.toList[i] .non∈ds by rw[ei];exact QT hi');have s2:=h _ (show ds.getD p.toList[j] .non∈ds by rw[ej];exact QT hj');rcases mI s1 s2 with⟨z,_⟩|z|⟨z,_⟩
 ·exact z
 ·exfalso;have pw':=List.pairwise_iff_getElem.mp pw;rw[ei,ej]at z;rcases Nat.lt_or_gt_of_ne ne with q|q
  ·exact pw' _ _ hi' hj' q z
  ·exact pw' _ _ hj' hi' q z.symm
 ·rw[EY.mpr z]at rl;cases rl
theorem nR{vs:aK}{us:aU}(r:Vals vs us):∀l:List Nat,(∀i∈l,i<vs.length)->Vals (l.map λi=>vs.getD i .non) (l.map λi=>us.getD i Value.none)
 |[],_=>.nil
 |i::l,h=>by
  have hi:=h i OU;obtain⟨u,e,q⟩:=r.get (i:=i) (x:=vs[i]) (by simp[hi]);refine .cons ?_ (nR r l λj hj=>h j (OV _ hj));have e1:vs.getD i .non=vs[i]:=by simp[hi]
  have e2:us.getD i Value.none=u:=by simp[QV,e]
  show L2.RelV (vs.getD i .non) (us.getD i Value.none);rw[e1,e2];exact q
theorem oj{K:RY}{H:Hp}{ds:List D}{vs:aK}(g:aI K H ds vs):∀l:List Nat,(∀i∈l,i<ds.length)->aI K H (l.map λi=>ds.getD i .non) (l.map λi=>vs.getD i .non)
 |[],_=>cw.mpr rfl
 |i::l,h=>by
  have hi:=h i OU;obtain⟨v,e,q⟩:=g.get (i:=i) (d:=ds[i]) (by simp[hi]);refine bb.mpr ⟨_,_,rfl,?_,oj g l λj hj=>h j (OV _ hj)⟩;have e1:ds.getD i .non=ds[i]:=by simp[hi]
  have e2:vs.getD i .non=v:=by simp[QV,e]
  show cq K H (ds.getD i .non) (vs.getD i .non);rw[e1,e2];exact q
section
variable{X:Cx}{pins:bc}{s:Tg}{σ:L2.St}{H:Hp}{O:ax}
theorem rM{u:S9}{ds:List D}{vs:aK}{its:aU}{d:D}{Q:VK}(I:Inv X pins σ H s)(hO:dL H O)(dn:aI X.K (hid H O) ds vs)(rv:Vals vs its)(hs:oE ds=some d)
  (hcol:∀(Q':aU->cQ),(∀h' tk,(∀b o,s.heap.get? b=some o->h'.get? b=some o)->Q' its {s with heap:=h',toks:=tk})->Tu (model X.prog X.w) X.A.in1 (collect u) Q' X.xe s)
  (q:∀v H',aR H H'->cq X.K (hid H' O) d v->Q v H'):Tu (model X.prog X.w) X.A (call (.builtin "sorted") [u]) (EP X pins σ Q) X.xe s:=by
 have l1:=dn.length;have l2:=rv.length;have fin:∀(key:D->List D)(σ':bM),(∀x∈ds,Sh σ' (key x))->ds.Pairwise (λx y=>key x≠key y)->ds.length<64->d=.lst (gP key ds)->∀(p:Array Nat)(h1 h':Tl)(l:Td)(e tk:Nat),PM its.length p->Up (rank (ds.map key)) p its.length->(∀b o,s.heap.get? b=some o->h1.get? b=some o)->(∀b o,h1.get? b=some o->h'.get? b=some o)->h1.objs.size<=l->
   h'.get? l=some (seqObj "list" (List.toArray (p.toList.map λi=>its.getD i Value.none)) e)->EP X pins σ Q (.ref l) {s with heap:=h',toks:=tk}:=by
  intro key σ' hsh pw h64 ed p h1 h' l e tk hp hu k1 k2 hl he;have el:its.length=ds.length:=by omega
  rw[el]at hp hu;have ps:=ou hsh pw hp hu;have hr:p.toList.Perm (List.range ds.length):=by
   have:=Array.perm_iff_toList_perm.mp hp
   simpa using this
  have hlt:∀i∈p.toList,i<ds.length:=λi hi=>by simpa using hr.mem_iff.mp hi
  have I1:Inv X pins σ H {s with heap:=h1,toks:=tk}:=I.kept k1;have hn:H l=none:=I1.hok.fresh hl;have rv':=nR rv p.toList λi hi=>by have:=hlt i hi;omega
  have dn':=oj dn p.toList hlt;have hlen:p.toList.length=ds.length:=by rw[hr.length_eq,Ql]
  refine⟨.ref l,_,Inv.laid (s:={s with heap:=h1,toks:=tk}) (t':=tk) I1 k2 hl (show b7 X.prog X.w _ h' _ (.lst (p.toList.map λi=>vs.getD i .non))from⟨by rw[Pa,hlen,TY];omega,_,e,rv',he⟩),rfl,?_⟩;refine q _ _ (bj hn _) ?_;rw[ed,<-ps];exact cN hO hn dn'
 unfold oE at hs;split at hs
 ·rename_i h;cases hs;obtain⟨h64,σ',hσ,hsh,pw⟩:=h;obtain⟨b,σ1,rfl⟩:∃b σ1,σ'=b::σ1:=by
   cases σ' with
   |nil=>exact absurd rfl hσ
   |cons b σ1=>exact⟨b,σ1,rfl⟩
  have hsh':∀x∈ds,Sh (b::σ1) (dh x):=λx hx=>by
   obtain⟨k,rfl,hk⟩:=hsh x hx;exact hk
  have at':∀i (hi:i<ds.length),∃a o xs n,its[i]?=some (.ref a)/\s.heap.get? a=some o/\o.cls=.type "tuple"/\o.data=.seq xs n/\fA xs.toList (dh ds[i]):=λi hi=>by
   obtain⟨v,e1,dv⟩:=dn.get (i:=i) (d:=ds[i]) (by simp[hi]);obtain⟨w,e2,rw'⟩:=rv.get e1;obtain⟨k,ek,hk⟩:=hsh _ (QT hi);rw[ek]at dv ⊢;obtain⟨a,ws,rfl,ha,dk⟩:=bW.mp dv;cases rw';obtain⟨it2,r2,⟨o,ho,hc,n,hd⟩,_⟩:=I.tuple (bK (aq H O) ha);exact⟨a,o,_,n,e2,ho,hc,hd,by simpa [dh]using i7 (kR hk) dk r2⟩
  refine qe (κ:=tuples' true) (r:=rank (ds.map dh)) ‹0› hcol (λh2 h' tk kp Q' hQ=>?_) (λh2 h' tk kp i j C hi hj hC=>?_) (fin dh _ hsh' pw h64 rfl)
  ·obtain⟨fs,t1,t2,t3⟩:=lM (h:=h') (PT:=λf=>typeOf f=pure (.type (if b then"int"else"str"))) (its:=its) λv hv=>by
    obtain⟨i,hi,rfl⟩:=Qh hv;obtain⟨a,o,xs,n,e1,ho,hc,hd,ff⟩:=at' i ‹0›;obtain⟨f,ef,tf⟩:=ff.first (hsh' _ (QT _));refine⟨a,o,xs,n,f,?_,kp _ _ ho,hc,hd,by simpa using ef,tf⟩
    have:=Qd hi
    rw[e1]at this;exact(Option.some.inj this).symm
   refine kat_kind (T:=.type (if b then"int"else"str")) t1 ‹0› (λf hf=>Looks.of_pure (t3 f hf)) (by cases b<;>rfl) ?_
   have:(Value.type (if b then"int"else"str") !=Value.type "tuple")=true:=(by cases b<;>rfl);rw[this];exact hQ
  ·obtain⟨a,o,xs,n,e1,ho,hc,hd,ff⟩:=at' i ‹0›;obtain⟨a2,o2,xs2,n2,e2,ho2,hc2,hd2,ff2⟩:=at' j ‹0›;unfold UN;have g1:its.getD i Value.none=.ref a:=(by simp[QV,e1]);have g2:its.getD j Value.none=.ref a2:=(by simp[QV,e2]);rw[g1,g2];have hi':i<ds.length:=(by omega);have hj':j<ds.length:=(by omega);have sh1:=hsh' _ (QT hi');have sh2:=hsh' _ (QT hj');have rl:=oX (ks:=ds.map dh) (σ:=b::σ1) (λk hk=>by obtain⟨x,hx,rfl⟩:=List.mem_map.mp hk;exact hsh' x hx) (i:=i) (j:=j) (by rw[Pa];exact hi') (by rw[Pa];exact hj');have k1:(ds.map dh).getD i []=dh ds[i]:=(by simp[hi']);have k2:(ds.map dh).getD j []=dh ds[j]:=(by simp[hj']);rw[k1,k2]at rl;rw[rl]at hC;refine kat_lt (kp _ _ ho) hd (kp _ _ ho2) hd2 (oN ?_ sh1 sh2 ff ff2 hC);have z1:xs.size=(dh ds[i]).length:=(by have:=ff.length;simpa using this);have z2:xs2.size=(dh ds[j]).length:=(by have:=ff2.length;simpa using this);have z3:(dh ds[i]).length=(dh ds[j]).length:=(by rw[Sh.length sh1,Sh.length sh2]);exact decide_eq_false ‹0›
 ·split at hs
  ·rename_i _ h;cases hs;obtain⟨h64,b,hsh,pw⟩:=h;have at':∀i (hi:i<ds.length),(∃(n:Int)(t:Tok),b=true/\its[i]?=some (.int n t)/\ds[i]=.int n)\/∃(x:Str)(t:Tok),b=false/\its[i]?=some (.str x t)/\ds[i]=.str x:=λi hi=>by
    obtain⟨v,e1,dv⟩:=dn.get (i:=i) (d:=ds[i]) (by simp[hi]);obtain⟨w,e2,rw'⟩:=rv.get e1;have hk:=hsh _ (QT hi);generalize ds[i]=di at dv hk;cases hk with
    |int n _=>
     rw[eM]at dv;subst dv;obtain⟨t,rfl⟩:=rw';exact .inl ⟨n,t,rfl,e2,rfl⟩
    |str x _=>
     rw[eN]at dv;subst dv;obtain⟨t,rfl⟩:=rw';exact .inr ⟨x,t,rfl,e2,rfl⟩
   refine qe (κ:=oneType') (r:=rank (ds.map oneOf)) ‹0› hcol (λh2 h' tk kp Q' hQ=>?_) (λh2 h' tk kp i j C hi hj hC=>?_) (fin oneOf [b] hsh pw h64 rfl)
   ·refine kas_kind (T:=.type (if b then"int"else"str")) h2 (λv hv=>?_) (by cases b<;>rfl) (by cases b<;>rfl) hQ;obtain⟨i,hi,rfl⟩:=Qh hv;have hg:=Qd hi;rcases at' i ‹0›with⟨n,t,rfl,e,_⟩|⟨x,t,rfl,e,_⟩
    ·rw[hg]at e;rw[Option.some.inj e];exact Looks.of_pure rfl
    ·rw[hg]at e;rw[Option.some.inj e];exact Looks.of_pure rfl
   ·have hi':i<ds.length:=(by omega);have hj':j<ds.length:=(by omega);unfold UN;have rl:=oX (ks:=ds.map oneOf) (σ:=[b]) (λk hk=>by obtain⟨x,hx,rfl⟩:=List.mem_map.mp hk;exact hsh x hx) (i:=i) (j:=j) (by rw[Pa];exact hi') (by rw[Pa];exact hj');have k1:(ds.map oneOf).getD i []=[ds[i]]:=(by simp[hi',oneOf]);have k2:(ds.map oneOf).getD j []=[ds[j]]:=(by simp[hj',oneOf]);rw[k1,k2]at rl;rw[rl]at hC;rcases at' i hi' with⟨n,t,hb,e1,q1⟩|⟨x,t,hb,e1,q1⟩
    ·rcases at' j hj' with⟨n2,t2,hb2,e2,q2⟩|⟨x2,t2,hb2,e2,q2⟩
     ·have g1:its.getD i Value.none=.int n t:=(by simp[QV,e1]);have g2:its.getD j Value.none=.int n2 t2:=(by simp[QV,e2]);rw[g1,g2,keyLt'_oneType];refine oneLt_int ?_;rw[q1,q2]at hC;unfold kLt at hC;rw[qE]at hC;by_cases z:n=n2
      ·rw[if_pos z]at hC;rw[decide_eq_false ‹0›];exact hC
      ·rw[if_neg z]at hC;cases hd:decide (n<n2)<;>rw[hd]at hC<;>exact hC
     ·rw[hb]at hb2;cases hb2
    ·rcases at' j hj' with⟨n2,t2,hb2,e2,q2⟩|⟨x2,t2,hb2,e2,q2⟩
     ·rw[hb]at hb2;cases hb2
     ·have g1:its.getD i Value.none=.str x t:=(by simp[QV,e1]);have g2:its.getD j Value.none=.str x2 t2:=(by simp[QV,e2]);rw[g1,g2,keyLt'_oneType];refine oneLt_str ?_;rw[q1,q2]at hC;unfold kLt at hC;rw[qI]at hC;by_cases z:x=x2
      ·rw[if_pos z]at hC;rw[decide_eq_false (by rw[z];exact qK _)];exact hC
      ·rw[if_neg z]at hC;cases hd:decide (x.cps.toList<x2.cps.toList)<;>rw[hd]at hC<;>exact hC
  ·cases hs
theorem tO:dS X (.builtin "sorted") (xj X.K eA):=by
 rintro pins s σ H xs us Q I r ⟨O,ds,d,hO,hd,hg,q⟩;unfold eA at hg;split at hg
 ·obtain⟨v,rfl,h1⟩:=hd.one;obtain⟨p,ws,rfl,g1,g2⟩:=bX.mp h1;obtain⟨u,rfl,ru⟩:=vals1 r;cases ru;obtain⟨its,rv,pl,hz⟩:=I.list ((aq H O).seq g1);have hlen:=rv.length;obtain⟨o,ho,hc,n,hd'⟩:=pl.isList;exact rM I hO g2 rv hg (λQ' hQ=>UT p (.inl rfl) ho hc hd' (λh' k=>by simpa using hQ h' s.toks k) (by simp only[O6]<;>omega)) q
 ·obtain⟨v,rfl,h1⟩:=hd.one;obtain⟨p,ws,rfl,g1,g2⟩:=bW.mp h1;obtain⟨u,rfl,ru⟩:=vals1 r;cases ru;obtain⟨its,rv,⟨o,ho,hc,n,hd'⟩,hz⟩:=I.tuple (bK (aq H O) g1);have hlen:=rv.length;exact rM I hO g2 rv hg (λQ' hQ=>UT p (.inr rfl) ho hc hd' (λh' k=>by simpa using hQ h' s.toks k) (by simp only[O6]<;>omega)) q
 ·cases hg
end
end TG
namespace TG
open PySem PySem.Spec L2
variable[aA]
section
variable{X:Cx}{tg:Te}
end
end TG
namespace TG
open PySem PySem.Spec L2
variable[aA]
end TG
namespace TG
open PySem PySem.Spec L2
variable[aA]
end TG
namespace TG
open PySem PySem.Spec L2
variable[aA]
noncomputable def keyOf:D->Option Key
 |.int i=>some (.inl i)
 |.str x=>some (.inr x)
 |_=>none
noncomputable def keysOf:List D->Option (cP)
 |[]=>some []
 |d::r=>(keyOf d).bind λk=>(keysOf r).map (k::·)
noncomputable def eF:D->Option (cP)
 |.tup ds=>keysOf ds
 |_=>none
theorem pM{d:D}{k:Key}(h:keyOf d=some k):d=aY k:=by
 cases d with
 |int i=>cases h;rfl
 |str x=>cases h;rfl
 |_=>cases h
theorem kN:∀{ds:List D}{ks:cP},keysOf ds=some ks->ds=ks.map aY
 |[],_,h=>by cases h;rfl
 |d::r,ks,h=>by
  unfold keysOf at h;cases e1:keyOf d with
  |none=>rw[e1]at h;cases h
  |some k=>
   rw[e1]at h;cases e2:keysOf r with
   |none=>rw[e2]at h;cases h
   |some ks'=>rw[e2]at h;cases h;rw[pM e1,kN e2];rfl
theorem jj{d:D}{k:cP}(h:eF d=some k):d=.tup (k.map aY):=by
 cases d with
 |tup ds=>rw[kN (show keysOf ds=some k from h)]
 |_=>cases h
theorem bH:∀ks:cP,keysOf (ks.map aY)=some ks
 |[]=>rfl
 |k::r=>by
  show(keyOf (aY k)).bind _=_;have e:keyOf (aY k)=some k:=by cases k<;>rfl
  rw[e];show(keysOf (r.map aY)).map (k::·)=_;rw[bH r];rfl
theorem qp{K:RY}{H:Hp}{k:Key}{v:V}(h:cq K H (aY k) v):v=kV k:=by
 cases k with
 |inl i=>exact eM.mp h
 |inr x=>exact eN.mp h
theorem fG{K:RY}{H:Hp}:∀{ks:cP}{vs:aK},aI K H (ks.map aY) vs->vs=ks.map kV
 |[],vs,h=>by rw[PF,cw]at h;exact h
 |k::r,vs,h=>by
  rw[O9,bb]at h;obtain⟨v,r',e1,h1,h2⟩:=h;rw[e1,qp h1,fG h2];rfl
section
variable{P:Ti}{w:Th}{H H':Hp}{h:Tl}{a:Td}
theorem BP(x:b7 P w H h a (.dK [])):b7 P w H' h a (.dT []):=by
 obtain⟨z,hd,vs,rel,o,es,ep,h1,h2,h3,h4,h5,h6⟩:=x;have e:vs=[]:=by have:=rel.length;simpa using this.symm
 subst e;refine⟨Ph _,hd,[],.nil,o,es,ep,h1,h2,h3,?_,by simp⟩
 have:=h5.length
 simpa using this
theorem uT(x:b7 P w H h a (.dT [])):b7 P w H' h a (.dK []):=by
 obtain⟨z,hd,xs,rel,o,es,ep,h1,h2,h3,h4,h5⟩:=x;have e:xs=[]:=by have:=rel.length;simpa using this.symm
 subst e;have e2:es=#[]:=by simpa using h4
 subst e2;exact⟨Ph _,hd,[],.nil,o,#[],ep,h1,h2,h3,λe he=>by simp at he,.nil,by simp⟩
end
section
variable{X:Cx}{pins:bc}{σ:St}{H:Hp}{s:Tg}{a:Td}
theorem zU(I:Inv X pins σ H s)(h1:H a=some (.dK [])):Inv X pins σ (upd H a (.dT [])) s:=by
 have hx:=I.hok a _ h1;have hq:∃q,s.heap.get? a=some q:=by obtain⟨_,_,_,_,o,_,_,e,_⟩:=id hx;exact⟨o,e⟩
 exact li (ob:=.dT []) (h':=s.heap) (t':=s.toks) I (by rw[h1];exact trivial) ⟨rfl,λ_ _=>rfl⟩ hq (BP hx)
theorem IW(I:Inv X pins σ H s)(h1:H a=some (.dT [])):Inv X pins σ (upd H a (.dK [])) s:=by
 have hx:=I.hok a _ h1;have hq:∃q,s.heap.get? a=some q:=by obtain⟨_,_,_,_,o,_,_,e,_⟩:=id hx;exact⟨o,e⟩
 exact li (ob:=.dK []) (h':=s.heap) (t':=s.toks) I (by rw[h1];exact trivial) ⟨rfl,λ_ _=>rfl⟩ hq (uT hx)
end
theorem vj{H:Hp}{a:Td}{o1 o2:HO}(h:H a=some o1):upd (upd H a o2) a o1=H:=by
 funext b;by_cases e:b=a
 ·subst e;rw[av,h]
 ·rw[ao e,ao e]
noncomputable def iA:List D->List D->Option (bV)
 |[],[]=>some []
 |k::ks,d::ds=>(eF k).bind λk=>(iA ks ds).map ((k,d)::·)
 |_,_=>none
noncomputable abbrev encK(al:bV):List D:=al.map λp=>.tup (p.1.map aY)
noncomputable abbrev bD(al:bV):D:=.dct (encK al) (al.map (·.2))
theorem fY:∀{ks ds:List D}{al:bV},iA ks ds=some al->ks=encK al/\ds=al.map (·.2)
 |[],[],_,h=>by cases h;exact⟨rfl,rfl⟩
 |k::ks,d::ds,al,h=>by
  unfold iA at h;cases e1:eF k with
  |none=>rw[e1]at h;cases h
  |some k'=>
   rw[e1]at h;cases e2:iA ks ds with
   |none=>rw[e2]at h;cases h
   |some al'=>
    rw[e2]at h;cases h;obtain⟨h1,h2⟩:=fY e2;rw[jj e1,h1,h2];exact⟨rfl,rfl⟩
 |[],_::_,_,h=>by cases h
 |_::_,[],_,h=>by cases h
theorem dX:∀al:bV,iA (encK al) (al.map (·.2))=some al
 |[]=>rfl
 |p::r=>by
  show(eF (.tup (p.1.map aY))).bind _=_;have e:eF (.tup (p.1.map aY))=some p.1:=bH p.1;rw[e];show(iA (encK r) (r.map (·.2))).map ((p.1,p.2)::·)=_;rw[dX r];rfl
theorem jV:∀{al:bV}{ks:List cP},encK al=ks.map (λk=>.tup (k.map aY))->al.map (·.1)=ks
 |[],[],_=>rfl
 |p::r,k::ks,h=>by
  have h:D.tup (p.1.map aY)::encK r=D.tup (k.map aY)::ks.map (λk=>.tup (k.map aY)):=h;injection h with h1 h2;injection h1 with h1;have e:some p.1=some k:=by rw[<-bH p.1,h1,bH k]
  rw[O9,Option.some.inj e,jV h2]
 |[],_::_,h=>by cases h
 |_::_,[],h=>by cases h
theorem MD{K:RY}{H:Hp}{O:ax}{a:Td}{al:bV}(h:cx K H O a (bD al)):
  (∃kvs:List (List Key×V),H a=some (.dT kvs)/\kvs.map (·.1)=al.map (·.1)/\aI K (hid H O) (al.map (·.2)) (kvs.map (·.2)))\/(H a=some (.dK [])/\al=[]):=by
 obtain⟨o,vs,h1,h2,h3⟩:=h;rcases h3 with⟨kvs,e,e1,e2⟩|⟨kvs,e,e1,e2⟩
 ·subst e;cases kvs with
  |nil=>
   refine .inr ⟨h1,?_⟩
   simpa using e1
  |cons p r=>
   cases al with
   |nil=>cases e1
   |cons q r'=>
    have e1:D.tup (q.1.map aY)::encK r'=aY p.1::r.map (λp=>aY p.1):=e1;injection e1 with e1 _;rcases p with⟨k,v⟩
    cases k<;>cases e1
 ·subst e;refine .inl ⟨kvs,h1,?_,by rw[<-e2];exact h2⟩;exact(jV (ks:=kvs.map (·.1)) (by rw[QW];exact e1)).symm
theorem Cy{kvs:List (List Key×V)}{ks:List cP}(e:kvs.map (·.1)=ks)(k:cP):(gz kvs k).isSome=ks.any λq=>decide (q=k):=by
 subst e
 induction kvs with
 |nil=>rfl
 |cons p r ih=>
  rw[O9,PJ,<-ih];by_cases e:p.1=k
  ·rw[iP e];simp[e]
  ·rw[gV e];simp[e]
noncomputable def jH(ks ds:List D)(k:D):bF:=(iA ks ds).bind λal=>(eF k).bind λk=>some (.bl (al.any λp=>decide (p.1=k)))
noncomputable def NV(i:Nat)(f:FX):FX:=λρ=>(f ρ).bind λk=>match ρ[i]? with
 |some (some (.own (.dct ks ds)))=>rO (jH ks ds k)
 |_=>un
theorem xt{ks ds:List D}{k d:D}(h:jH ks ds k=some d):∃al q,ks=encK al/\ds=al.map (·.2)/\k=.tup (q.map aY)/\d=.bl (al.any λp=>decide (p.1=q)):=by
 unfold jH at h;cases e1:iA ks ds with
 |none=>rw[e1]at h;cases h
 |some al=>
  rw[e1]at h;cases e2:eF k with
  |none=>rw[e2]at h;cases h
  |some q=>
   rw[e2]at h;cases h;obtain⟨h1,h2⟩:=fY e1;exact⟨al,q,h1,h2,jj e2,rfl⟩
noncomputable def fw(al:bV)(k:cP)(v:D):bV:=if(al.any λp=>decide (p.1=k))=true then al.map (λp=>if p.1=k then(p.1,v)else p)else al++[(k,v)]
noncomputable def rq(ks ds:List D)(k v:D):Option (bV):=(iA ks ds).bind λal=>(eF k).bind λk=>if small al.length then some (fw al k v)else none
noncomputable def qD(i:Nat)(fk fv:FX):bI:=λk ρ=>match ρ[i]? with
 |some (some (.own (.dct ks ds)))=>o4 ((fv ρ).bind λv=>(fk ρ).bind λq=>rO (rq ks ds q v)) k ρ λal=>k.nx (ρ.set i (some (.own (bD al))))
 |_=>un
theorem xH{ks ds:List D}{k v:D}{al':bV}(h:rq ks ds k v=some al'):∃al q,ks=encK al/\ds=al.map (·.2)/\k=.tup (q.map aY)/\small al.length=true/\al'=fw al q v:=by
 unfold rq at h;cases e1:iA ks ds with
 |none=>rw[e1]at h;cases h
 |some al=>
  rw[e1]at h;cases e2:eF k with
  |none=>rw[e2]at h;cases h
  |some q=>
   rw[e2]at h;obtain⟨h3,h4⟩:=bA (show(if small al.length then some (fw al q v)else none)=some al' from h);obtain⟨h1,h2⟩:=fY e1;exact⟨al,q,h1,h2,jj e2,h3,h4.symm⟩
theorem vd{kvs:List (List Key×V)}{al:bV}(e:kvs.map (·.1)=al.map (·.1))(k:cP)(w:V)(d:D):(putK kvs k w).map (·.1)=(fw al k d).map (·.1):=by
 have e2:(kvs.any λp=>decide (p.1=k))=(al.any λp=>decide (p.1=k)):=by
  have:=congrArg (λl=>l.any λq=>decide (q=k)) e
  simpa [QX,Function.comp_def]using this
 unfold putK fw;rw[e2];split
 ·have e3:∀(l:List (List Key×V)),(l.map λkv=>if kv.1=k then(kv.1,w)else kv).map (·.1)=l.map (·.1):=λl=>by
   rw[QW];refine Qj λp _=>?_;show(if p.1=k then(p.1,w)else p).1=p.1;split<;>rfl
  have e4:∀(l:bV),(l.map λkv=>if kv.1=k then(kv.1,d)else kv).map (·.1)=l.map (·.1):=λl=>by
   rw[QW];refine Qj λp _=>?_;show(if p.1=k then(p.1,d)else p).1=p.1;split<;>rfl
  rw[e3,e4,e]
 ·rw[Qk,Qk,e];rfl
theorem uZ{K:RY}{H:Hp}{k:cP}{w:V}{d:D}(hw:cq K H d w):∀{kvs:List (List Key×V)}{al:bV},kvs.map (·.1)=al.map (·.1)->aI K H (al.map (·.2)) (kvs.map (·.2))->
  aI K H ((al.map λp=>if p.1=k then(p.1,d)else p).map (·.2)) ((kvs.map λp=>if p.1=k then(p.1,w)else p).map (·.2))
 |[],[],_,h=>h
 |p::r,q::r',e,h=>by
  rw[O9,O9]at e;injection e with e1 e2;rw[O9,O9,bb]at h;obtain⟨v,ws,h0,h1,h2⟩:=h;injection h0 with h0 h0';subst h0 h0';have ih:=uZ (k:=k) hw e2 h2;rw[O9,O9,O9,O9,bb];refine⟨_,_,rfl,?_,ih⟩;rw[e1];split
  ·exact hw
  ·exact h1
 |[],_::_,e,_=>by cases e
 |_::_,[],e,_=>by cases e
theorem yh{K:RY}{H:Hp}{k:cP}{w:V}{d:D}(hw:cq K H d w){kvs:List (List Key×V)}{al:bV}(e:kvs.map (·.1)=al.map (·.1))(h:aI K H (al.map (·.2)) (kvs.map (·.2))):
  aI K H ((fw al k d).map (·.2)) ((putK kvs k w).map (·.2)):=by
 have e2:(kvs.any λp=>decide (p.1=k))=(al.any λp=>decide (p.1=k)):=by
  have:=congrArg (λl=>l.any λq=>decide (q=k)) e
  simpa [QX,Function.comp_def]using this
 unfold putK fw;rw[e2];split
 ·exact uZ hw e h
 ·rw[Qk,Qk];exact h.append (bb.mpr ⟨w,[],rfl,hw,cw.mpr rfl⟩)
theorem uc{kvs:List (List Key×V)}{al:bV}(e:kvs.map (·.1)=al.map (·.1)):encK al=kvs.map λp=>D.tup (p.1.map aY):=by
 have:=congrArg (List.map λk:cP=>D.tup (k.map aY)) e
 rw[QW,QW]at this;exact this.symm
theorem pW{H:Hp}{a:Td}{o1 o2:HO}:upd (upd H a o1) a o2=upd H a o2:=by
 funext b;by_cases e:b=a
 ·subst e;rw[av,av]
 ·rw[ao e,ao e,ao e]
noncomputable def HF(td ty tv:TE):TS:=λD σ H=>tv σ H λv H1=>td σ H1 λx H2=>ty σ H2 λy H3=>∃a k b kvs,x=.ref a/\y=.ref b/\H3 b=some (.tup (k.map kV))/\(H3 a=some (.dT kvs)\/(H3 a=some (.dK [])/\kvs=[]))/\kvs.length<Tn/\D.nx σ (upd H3 a (.dT (putK kvs k v)))
section
variable{X:Cx}{o idx value:Te}{pos pos':Pos}{td ty tv:TE}
theorem Bc(hu:X.A.units+1<T5)(ho:PE X o td)(hi:PE X idx ty)(hv:PE X value tv)(hs:swapsWith value (some (.Subscript o idx pos')) pos.line X.env=pure false):PS X (.Assign [.Subscript o idx pos'] value pos) (HF td ty tv):=by
 intro pins s σ H D I h;refine wpAny_Assign_Subscript (cM (hv pins s σ H _ I h) λr s1 ⟨v,H1,I1,rv,q1⟩=>cM (ho pins s1 σ H1 _ I1 q1) λu s2 ⟨x,H2,I2,rx,q2⟩=>cM (hi pins s2 σ H2 _ I2 q2) λiv s3 h3=>?_) hs;obtain⟨y,H3,I3,ry,a,k,b,kvs,ex,ey,hb,ha,hl,q3⟩:=h3;subst ex ey;obtain rfl:u=Value.ref a:=rx;rcases ha with ha|⟨ha,rfl⟩
 ·exact kA hu I3 (Ig.t ha hb hl) ry rv λs4 I4=>⟨σ,_,I4,q3⟩
 ·have ne:b≠a:=λz=>by rw[z,ha]at hb;cases hb
  refine kA hu (zU I3 ha) (Ig.t av (by rw[ao ne];exact hb) hl) ry rv λs4 I4=>⟨σ,_,I4,?_⟩
  rw[pW];exact q3
end
end TG
namespace TG
open PySem PySem.Spec L2
variable[aA]
end TG
namespace TG
open PySem PySem.Spec PySem.W PySem.Calls PyProof.Rows Builtin Builtin.ObjectAttr Builtin.Getset_descriptor
variable[aA]
end TG
namespace TG
open PySem PySem.Spec L2
variable[aA]
open PyProof.Rows (AllBare OwnCls)
end TG
namespace TG
open PySem PySem.Spec L2
variable[aA]
end TG
namespace TG
open PySem PySem.Spec L2
variable[aA]
end TG
namespace TG
open PySem PySem.Spec L2
variable[aA]
end TG
namespace TG
open PySem PySem.Spec L2
noncomputable def oh(P:Td)(pos:Pos)(q:Str):(Td->Prop)->Tl->Prop:=λS h=>h.get? P=some (Sr #[])\/∃c,S c/\h.get? P=some (Sr #[rawInt pos.line,rawInt pos.col,.ref c])/\h.CodeRec (.ref c) q
theorem oh.stay{P:Td}{pos:Pos}{q:Str}{S1 S2:Td->Prop}{h1 h2:Tl}(x:oh P pos q S1 h1)(s:∀b,S1 b->S2 b)(k:∀b o,(b=P\/S1 b)->h1.get? b=some o->h2.get? b=some o):oh P pos q S2 h2:=by
 rcases x with e|⟨c,hc,e,c',o,vs,t,ec,e1,r⟩
 ·exact .inl (k _ _ (.inl rfl) e)
 ·cases ec;exact .inr ⟨c,s c hc,k _ _ (.inl rfl) e,c,o,vs,t,rfl,k _ _ (.inr hc) e1,r⟩
theorem oh.ok{Pg:Ti}{w:Th}{H:Hp}{h:Tl}{P:Td}{pos:Pos}{q:Str}(x:oh P pos q (λb=>H b=some (.own P)) h):b7 Pg w H h P (.ext (oh P pos q)):=
 ⟨x,by rcases x with e|⟨_,_,e,_⟩<;>exact⟨_,e⟩,λ_ _ _ _ x s k=>x.stay s k⟩
noncomputable abbrev uw(P:Td)(pos:Pos)(q:Str):aA:=⟨λH=>H P=some (.ext (oh P pos q)),λh e=>e _ _ h,λ{H p o o'} h hp m=>by
 rw[ao]
 ·exact h
 ·rintro rfl;rw[h]at hp;cases hp;exact m⟩
open PySem PySem.Spec PyProof.Rows PySem.W L2
variable[aA]
noncomputable def qR(key:List D)(h:Tl)(k:S9):Prop:=∃b o xs n,k=.ref b/\h.get? b=some o/\o.cls=.type "tuple"/\o.data=.seq xs n/\fA xs.toList key
theorem qR.keep{key:List D}{h h':Tl}{k:S9}(x:qR key h k)(kp:∀b o,h.get? b=some o->h'.get? b=some o):qR key h' k:=by
 obtain⟨b,o,xs,n,e,ho,r⟩:=x;exact⟨b,o,xs,n,e,kp _ _ ho,r⟩
theorem qR.stay{key:List D}{h h':Tl}{k:S9}{c:Td}{xs:eD}{n:Nat}(x:qR key h k)(hc:h.get? c=some (seqObj "list" xs n))(kp:∀b o,b≠c->h.get? b=some o->h'.get? b=some o):qR key h' k:=by
 obtain⟨b,o,ys,m,e,ho,hk,r⟩:=x;refine⟨b,o,ys,m,e,kp _ _ (λz=>?_) ho,hk,r⟩;subst z;rw[hc]at ho;cases ho;revert hk;show¬(Value.type "list"=Value.type "tuple");simp
section
variable{prog:Ti}{w:Th}{A:Ts}{E:bq}{s:Tg}
theorem z5{ks:aU}{keys:aE}{σ:bM}{b:Bool}{Q:UM->cQ}(hl:ks.length=keys.length)(hsh:∀k∈keys,Sh (b::σ) k)(h1:1<=ks.length)
  (hk:∀i,i<ks.length->qR (keys.getD i []) s.heap (ks.getD i Value.none)) (h:Q (tuples' true) s):Tu (model prog w) A (keyKind' ks.toArray) Q E s:=by
 obtain⟨fs,t1,t2,t3⟩:=lM (h:=s.heap) (PT:=λf=>typeOf f=pure (.type (if b then"int"else"str"))) (its:=ks) λv hv=>by
  obtain⟨i,hi,rfl⟩:=Qh hv;obtain⟨a,o,xs,n,e1,ho,hc,hd,ff⟩:=hk i hi;have hi':i<keys.length:=by omega
  have gk:keys.getD i []=keys[i]:=by simp[hi']
  rw[gk]at ff;obtain⟨f,ef,tf⟩:=ff.first (hsh _ (QT hi'));have gv:ks.getD i Value.none=ks[i]:=by simp[hi]
  rw[gv]at e1;exact⟨a,o,xs,n,f,e1,ho,hc,hd,by simpa using ef,tf⟩
 refine kat_kind (T:=.type (if b then"int"else"str")) t1 ‹0› (λf hf=>Looks.of_pure (t3 f hf)) (by cases b<;>rfl) ?_
 have:(Value.type (if b then"int"else"str") !=Value.type "tuple")=true:=by cases b<;>rfl
 rw[this];exact h
theorem xx{ks:aU}{keys:aE}{σ:bM}{b:Bool}(hl:ks.length=keys.length)(hsh:∀k∈keys,Sh (b::σ) k)
  (hk:∀i,i<ks.length->qR (keys.getD i []) s.heap (ks.getD i Value.none)):jR (UN prog w A (tuples' true) ks) (rank keys) ks.length s:=by
 intro i j C hi hj hC;obtain⟨a,o,xs,n,e1,ho,hc,hd,ff⟩:=hk i hi;obtain⟨a2,o2,xs2,n2,e2,ho2,hc2,hd2,ff2⟩:=hk j hj;unfold UN;rw[e1,e2];have hi':i<keys.length:=by omega
 have hj':j<keys.length:=by omega
 have gi:keys.getD i []=keys[i]:=by simp[hi']
 have gj:keys.getD j []=keys[j]:=by simp[hj']
 have sh1:=hsh _ (QT hi');have sh2:=hsh _ (QT hj');have rl:=oX (ks:=keys) hsh hi' hj';rw[rl]at hC;rw[gi]at ff;rw[gj]at ff2;rw[gi,gj]at hC;refine kat_lt ho hd ho2 hd2 (oN ?_ sh1 sh2 ff ff2 hC);have z1:xs.size=keys[i].length:=by have:=ff.length;simpa using this
 have z2:xs2.size=keys[j].length:=by have:=ff2.length;simpa using this
 have z3:keys[i].length=keys[j].length:=by rw[Sh.length sh1,Sh.length sh2]
 exact decide_eq_false ‹0›
theorem B3{f:S9}{a:Td}{vs:aU}{n:Nat}{keys:aE}{σ:bM}{b:Bool}{P:PySem.Fin->cQ}
  (ho:s.heap.get? a=some (seqObj "list" vs.toArray n)) (h64:vs.length<64) (hl:keys.length=vs.length) (hsh:∀k∈keys,Sh (b::σ) k)
  (hc:∀ (i:Nat) (v:S9) (h':Tl) (tk:Nat) (Q':bq),vs[i]?=some v->(∀ c o,c≠a->s.heap.get? c=some o->h'.get? c=some o) ->
   (∀k h'' tk',(∀c o,h'.get? c=some o->h''.get? c=some o)->qR (keys.getD i []) h'' k->Q' k {s with heap:=h'',toks:=tk'})->Tu (model prog w) A (call f [v]) Q' (λ_ _=>False) {s with heap:=h',toks:=tk})
  (h:∀ (p:Array Nat) (h':Tl) (e tk:Nat),PM vs.length p->Up (rank keys) p vs.length->(∀ c o,c≠a->s.heap.get? c=some o->h'.get? c=some o)->h'.get? a=some (seqObj "list" (List.toArray (p.toList.map fun i=>vs.getD i Value.none)) e) ->
   P (.done (.ret .none)) {s with heap:=h',toks:=tk}):Tu (model prog w) A (ksk_tree a f false) P E s:=by
 have ha:a<s.heap.objs.size:=Sx ho;obtain⟨e1,ho1⟩:∃e1,(s.heap.update a (Obj.mapSeq λ_=>(#[]:eD))).get? a=some (seqObj "list" #[] e1):=⟨_,UP ho (λ_=>#[])⟩
 unfold ksk_tree;refine TH (listItems_at ho rfl ?_);refine TH (UO ho rfl ?_ (by rw[O6,TY];omega) (Ph _));refine TH (UQ ho1 rfl ?_);refine TH (UI ?_ (by show vs.length<=_;rw[TY];omega));refine TH (UR ?_ (Ph _));refine Uh ?_;have hkS:((s.heap.update a (Obj.mapSeq λ_=>(#[]:eD))).push (seqObj "tuple" vs.toArray 0)).objs.size=s.heap.objs.size+1:=by rw[size_push',SJ]
 show Tu (model prog w) A (ksk_rest a f false vs.toArray e1 (.ref ((s.heap.update a (Obj.mapSeq λ_=>(#[]:eD))).push (seqObj "tuple" vs.toArray 0)).objs.size)) P E {s with heap:=((s.heap.update a (Obj.mapSeq λ_=>(#[]:eD))).push (seqObj "tuple" vs.toArray 0)).push (seqObj "list" #[] 0)};rw[hkS];have hS0:(((s.heap.update a (Obj.mapSeq λ_=>(#[]:eD))).push (seqObj "tuple" vs.toArray 0)).push (seqObj "list" #[] 0)).get? (s.heap.objs.size+1)=some (seqObj "list" #[] 0):=by rw[<-hkS];exact SD _ rfl
 have hA0:(((s.heap.update a (Obj.mapSeq λ_=>(#[]:eD))).push (seqObj "tuple" vs.toArray 0)).push (seqObj "list" #[] 0)).get? a=some (seqObj "list" #[] e1):=SA _ (SA _ ho1);have hK0:∀b o,b≠a->s.heap.get? b=some o->(((s.heap.update a (Obj.mapSeq λ_=>(#[]:eD))).push (seqObj "tuple" vs.toArray 0)).push (seqObj "list" #[] 0)).get? b=some o:=λb o hb e=>
  SA _ (SA _ (by rw[SK _ _ _ _ hb];exact e))
 have hne:a≠s.heap.objs.size+1:=OO (PZ ha);have hold:∀c o,s.heap.get? c=some o->c≠s.heap.objs.size+1:=λc o e=>OO (PZ (Sx e));generalize (((s.heap.update a (Obj.mapSeq λ_=>(#[]:eD))).push (seqObj "tuple" vs.toArray 0)).push (seqObj "list" #[] 0))=h0 at hS0 hA0 hK0;generalize s.heap.objs.size+1=kS at hS0 hne hold;unfold ksk_rest;refine TH (Uv ?_)
 first
  |rw[List.forIn_toArray]
  |(rw[<-Array.forIn_toList];simp only[QY])
  |rw[<-Array.forIn_toList]
 refine TH (ksk_fold (λi s'=>∃(ks:aU)(e:Nat)(h':Tl)(tk:Nat),s'={s with heap:=h',toks:=tk}/\ks.length=i/\i<=vs.length/\h'.get? kS=some (seqObj "list" (List.toArray ks) e)/\h'.get? a=some (seqObj "list" #[] e1)/\
  (∀c o,c≠a->s.heap.get? c=some o->h'.get? c=some o)/\∀j,j<i->qR (keys.getD j []) h' (ks.getD j Value.none)) vs 0 _ ⟨[],0,h0,s.toks,rfl,rfl,Ph _,hS0,hA0,hK0,λj hj=>absurd hj (Nat.not_lt_zero _)⟩ ?_ ?_)
 ·rintro j x s' hx ⟨ks,e,h',tk,rfl,hlen,hle,hS,hA,hK,hT⟩;rw[QC]at hlen hle hT;have hj:j<vs.length:=by
   rcases QZ j vs.length with z|z
   ·exact z
   ·rw[Ra z]at hx;cases hx
  refine TH (UJ (Tx (hc j x h' tk (λk s''=>∃h'' tk',s''={s with heap:=h'',toks:=tk'}/\(∀c o,h'.get? c=some o->h''.get? c=some o)/\qR (keys.getD j []) h'' k) hx hK λk h'' tk' kp tK=>⟨h'',tk',rfl,kp,tK⟩) (λk s'' hk=>?_) λ_ _ hF=>hF.elim));obtain⟨h'',tk',rfl,kp,tK⟩:=hk;have nk:=kp _ _ hS;have s1:∀c o,c≠kS->h''.get? c=some o->(h''.update kS (Obj.mapSeq (·.push k))).get? c=some o:=λc o hc' e=>by rw[SK _ _ _ _ hc'];exact e
  have ea:(List.toArray ks).push k=List.toArray (ks++[k]):=by simp
  obtain⟨c2,hc2⟩:∃c2,(h''.update kS (Obj.mapSeq (·.push k))).get? kS=some (seqObj "list" (List.toArray (ks++[k])) c2):=⟨_,by rw[<-ea];exact UP nk (·.push k)⟩
  try dsimp only
  refine TH (UO nk rfl ?_ (by rw[O6,TY];omega) (OQ (Pb (Array.size_push ..)) (by rw[O6,TY];omega)));refine TF ⟨rfl,ks++[k],c2,_,tk',rfl,by rw[Pw,PC];omega,by omega,hc2,s1 _ _ hne (kp _ _ hA),λc o h1 h2=>s1 _ _ (hold c o h2) (kp _ _ (hK c o h1 h2)),λi hi=>?_⟩;refine qR.stay (c:=kS) ?_ nk s1;by_cases z:i=j
  ·subst z
   have:(ks++[k]).getD i Value.none=k:=(by simp[QV,<-hlen]);rw[this];exact tK
  ·have hi':i<ks.length:=by omega
   have:(ks++[k]).getD i Value.none=ks.getD i Value.none:=(by simp[QV,Pq hi']);rw[this];exact(hT i ‹0›).keep kp
 ·rintro s' ⟨ks,e,h',tk,rfl,hlen,hle,hS,hA,hK,hT⟩;rw[QC]at hlen hT
  try dsimp only
  refine TH (listItems_at hS rfl ?_);have tail:∀(p:Array Nat)(st:SortSt),(arrOf st).map (·.2)=List.toArray (p.toList.map λi=>vs.getD i Value.none)->failedOf st=none->PM vs.length p->Up (rank keys) p vs.length->Tu (model prog w) A (ksk_tail a false e1 (.ref kS) st) P E {s with heap:=h',toks:=tk}:=by
   intro p st hout hf hp hu;obtain⟨ck,hck⟩:∃ck,(h'.update kS (Obj.mapSeq λ_=>(#[]:eD))).get? kS=some (seqObj "list" #[] ck):=⟨_,UP hS λ_=>#[]⟩
   have hA2:(h'.update kS (Obj.mapSeq λ_=>(#[]:eD))).get? a=some (seqObj "list" #[] e1):=(by rw[SK _ _ _ _ hne];exact hA);obtain⟨c2,hc2⟩:∃c2,((h'.update kS (Obj.mapSeq λ_=>(#[]:eD))).update a (Obj.mapSeq λ_=>List.toArray (p.toList.map λi=>vs.getD i Value.none))).get? a=some (seqObj "list" (List.toArray (p.toList.map λi=>vs.getD i Value.none)) c2):=⟨_,UP hA2 λ_=>List.toArray (p.toList.map λi=>vs.getD i Value.none)⟩
   unfold ksk_tail
   try dsimp only
   rw[hout];refine TH (UO hS rfl ?_ (by rw[O6,TY];omega) (Ph _));refine TH (UH ?_);refine TH (UQ hA2 rfl ?_);simp only[PY,if_false];refine TH (UO hA2 rfl ?_ (Ph _) (by rw[O6,Pa,Array.length_toList,hp.size,TY];omega));rw[hf];simp only[bne_self_eq_false,PY,if_false];exact TF (h p _ c2 tk hp hu (λc o h1 h2=>by rw[SK _ _ _ _ h1,SK _ _ _ _ (hold c o h2)];exact hK c o h1 h2) hc2)
  unfold ksk_end
  try dsimp only
  simp only[PY,if_false];have hl2:ks.length=vs.length:=hlen;by_cases h2:vs.toArray.size<2
  ·rw[if_pos h2,if_pos h2];refine TH (TF ?_);rw[StateT.run_pure];refine TH (TF ?_);dsimp only;refine tail (List.toArray (List.range vs.length)) _ ?_ rfl (Array.Perm.refl _) λi j hij hj=>?_
   ·refine kat_snds hl2 ?_;show(List.toArray ks).zip vs.toArray=_;have e:=kas_range ((List.toArray ks).zip vs.toArray);rw[show((List.toArray ks).zip vs.toArray).size=vs.length by simp[hl2]]at e;exact e.symm
   ·have:vs.length<2:=by simpa using h2
    have:i=j:=(by omega);subst this;exact O1 _
  ·have h2':2<=vs.length:=by
    have:¬vs.length<2:=(by simpa using h2);omega
   rw[if_neg h2,if_neg h2];refine TH (z5 (s:={s with heap:=h',toks:=tk}) ‹0› hsh ‹0› (λi hi=>hT i ‹0›) ?_);refine TH (Tx (kat_run (Q:=λst' s'=>∃p:Array Nat,arrOf st'=p.map (kas_item ((List.toArray ks).zip vs.toArray))/\failedOf st'=none/\PM vs.length p/\Up (rank keys) p vs.length/\s'={s with heap:=h',toks:=tk})
    (G:=λp s'=>PM vs.length p/\Up (rank keys) p vs.length/\s'={s with heap:=h',toks:=tk})
    hl2 h2' h64 (λp' st' s' a1 a2 a3 a4=>⟨p',a2,a3,a4.1,a4.2.1,a4.2.2⟩) (by
     have:=xx (prog:=prog) (w:=w) (A:=A) (s:={s with heap:=h',toks:=tk}) (ks:=ks) (keys:=keys) ‹0› hsh (λi hi=>hT i ‹0›)
     rw[hl2]at this;exact yN this ‹0› λp hp hu=>⟨hp,hu,rfl⟩)) ?_ λ_ _ e=>e)
   rintro⟨⟨⟩,st'⟩ s' ⟨p,har,hf,hp,hu,rfl⟩;dsimp only;exact tail p st' (kat_snds hl2 har) hf hp hu
theorem vI{src:S9}{f:Td}{vs:aU}{keys:aE}{σ:bM}{b:Bool}{Q:bq}(h64:vs.length<64)(hl:keys.length=vs.length)(hsh:∀k∈keys,Sh (b::σ) k)
  (hcol:∀(Q':aU->cQ),(∀h' tk,(∀b o,s.heap.get? b=some o->h'.get? b=some o)->Q' vs {s with heap:=h',toks:=tk})->Tu (model prog w) A.in1 (collect src) Q' E s)
  (hc:∀ (i:Nat) (v:S9) (h':Tl) (tk:Nat) (Q':bq),vs[i]?=some v->(∀ c o,s.heap.get? c=some o->h'.get? c=some o) ->
   (∀k h'' tk',(∀c o,h'.get? c=some o->h''.get? c=some o)->qR (keys.getD i []) h'' k->Q' k {s with heap:=h'',toks:=tk'})->Tu (model prog w) A.in1.in1 (call (.ref f) [v]) Q' (λ_ _=>False) {s with heap:=h',toks:=tk})
  (h:∀(p:Array Nat)(h1 h':Tl)(l:Td)(e tk:Nat),PM vs.length p->Up (rank keys) p vs.length->(∀b o,s.heap.get? b=some o->h1.get? b=some o)->(∀b o,h1.get? b=some o->h'.get? b=some o)->h1.objs.size<=l->h'.get? l=some (seqObj "list" (List.toArray (p.toList.map λi=>vs.getD i Value.none)) e)->Q (.ref l) {s with heap:=h',toks:=tk}):
  Tu (model prog w) A (call (.builtin "sorted") [src] [(Str.ofString "key",.ref f)]) Q E s:=by
 refine PyProof.Rows.call_function_entry_kw kind_sorted plain_sorted entry_sorted (ksk_s1 _ _) ?_;unfold Builtin.«sorted»;refine TH (m:=checkCount "sorted" 1 1 _) (TF ?_);refine TH (hcol _ λh1 tk k1=>?_);refine TH (UR ?_ (by rw[TY];omega));have hoL:(h1.push (seqObj "list" vs.toArray 0)).get? h1.objs.size=some (seqObj "list" vs.toArray 0):=SD _ rfl;have k2:∀b o,s.heap.get? b=some o->(h1.push (seqObj "list" vs.toArray 0)).get? b=some o:=λb o e=>SA _ (k1 b o e);have ne:∀b o,s.heap.get? b=some o->b≠h1.objs.size:=λb o e=>OO (Sx (k1 b o e));refine TH (Uh (wpAny_call_entry_kw slot_list_sort ⟨_,hoL,rfl⟩ entry_list_sort ?body (ksk_l1 _ _)))
 case body=>
  show Tu (model prog w) A.in1.in1 (Builtin.«list.sort» ⟨[.ref h1.objs.size],[(Str.ofString "key",.ref f)]⟩) _ _ _;rw[ksk_t1];refine B3 (s:={s with heap:=h1.push (seqObj "list" vs.toArray 0),toks:=tk}) hoL h64 hl hsh (λi v h' tk' Q' hv hk hq=>hc i v h' tk' Q' hv (λc o e=>hk c o (ne c o e) (k2 c o e)) hq) λp h' e tk' hp hu hk he=>⟨_,rfl,?_⟩
  refine TF ⟨_,rfl,?_⟩;exact h p h1 h' h1.objs.size e tk' hp hu k1 (λb o q=>hk b o (OO (Sx q)) (SA _ q)) (O1 _) he
end
end TG
namespace TG
open PySem PySem.Spec PyProof.Rows PySem.W L2
variable[aA]
noncomputable abbrev cutE(row many:Str)(np mp p2 pos:Pos):Te:=.Subscript (.Name row np) (.Slice none (some (.Name many mp)) none p2) pos
section
variable{prog:Ti}{w:Th}{A:Ts}{E:bq}{s:Tg}
theorem BL{env:Env}{row many:Str}{np mp p2 pos:Pos}{r c:Td}{items:eD}{i:Int}{t:Tok}{m:cj}{Q:bq}
  (hk:env.scope.kind=.function) (hr:env.kindOf row=some .local) (hm:env.kindOf many=some .free) (hn:s.heap.Ns env.locals m) (hrow:m row=some (.ref r)) (hc:env.cells.lookup many=some c) (hcell:s.heap.IsCell c (some (.int i t)))
  (ht:To s.heap r items) (hz:items.size<=Tn) (d1:(row==("__debug__":Str))=false) (d2:(many==("__debug__":Str))=false) (d3:(many==("__classdict__":Str))=false)
  (h:∀b h',(∀c o,s.heap.get? c=some o->h'.get? c=some o)->To h' b (List.toArray (items.toList.take (HT.sIx items.size items.size (some i))))->Q (.ref b) {s with heap:=h'}):
  Tu (model prog w) A (eval (cutE row many np mp p2 pos) env) Q E s:=by
 refine Uo (Tz (wpAny_loadName_local hk hr hn hrow ?_) d1);refine wpAny_Slice ?_;rw[Um,evalPart_some];refine TF (Tz (wpAny_loadName_free hk hm hc hcell ?_ d3) d2);refine TF ?_;have kp:∀c o,s.heap.get? c=some o->(s.heap.push {cls:=.type "slice",data:=.fields #[.none,.int i t,.none]}).get? c=some o:=λc o q=>SA _ q;have ht':To (s.heap.push {cls:=.type "slice",data:=.fields #[.none,.int i t,.none]}) r items:=by
  obtain⟨o,e,q⟩:=ht;exact⟨o,kp _ _ e,q⟩
 have hs:(s.heap.push {cls:=.type "slice",data:=.fields #[.none,.int i t,.none]}).IsSliceOf s.heap.objs.size .none (.int i t) .none:=Heap.IsSliceOf.new ..
 show Tu (model prog w) A (subscriptTail (.Name row np) (.Slice none (some (.Name many mp)) none p2) (.ref r) (.ref s.heap.objs.size)) Q E {s with heap:=s.heap.push {cls:=.type "slice",data:=.fields #[.none,.int i t,.none]}};refine tail_any (ops:=[.ref s.heap.objs.size,.ref r]) ht'.typeIs slot_tuple_getitem.lookup ?_ (by with_unfolding_all rfl);by_cases hw:HT.sIx items.size 0 none=0/\HT.sIx items.size items.size (some i)=items.size
 ·refine gB (s:={s with heap:=s.heap.push {cls:=.type "slice",data:=.fields #[.none,.int i t,.none]}}) ht' hs .none (.int i t) hw ?_;refine h r _ kp ?_;rw[hw.2]
  have:items.toList.take items.size=items.toList:=Rb (by simp)
  rw[this]
  simpa using ht'
 ·refine HT.yy (s:={s with heap:=s.heap.push {cls:=.type "slice",data:=.fields #[.none,.int i t,.none]}}) ht' hs .none (.int i t) hw ?_ hz;refine h _ _ (λc o q=>SA _ (kp c o q)) ?_;have e0:HT.sIx items.size 0 none=0:=rfl;rw[e0,P7,Qn];exact⟨_,SD _ rfl,rfl,_,rfl⟩
theorem Bn{f c' cc r:Td}{row many qual:Str}{params:Ua}{scope:Tt}{np mp p2 pos:Pos}{pm ctv:S9}{items:eD}{i:Int}{t:Tok}{Q:bq}
  (hf:s.heap.get? f=some (UU "<lambda>" qual params (cutE row many np mp p2 pos) scope [(many,cc)] pm c' ctv)) (hcd:s.heap.CodeRec (.ref c') qual) (hroom:A.depth<T3) (hlim:s.heap.NoLimit)
  (hbind:∀v,bindArgs (kla_fn "<lambda>" qual params (cutE row many np mp p2 pos) scope [(many,cc)] pm (.ref c') ctv) ⟨[v],[]⟩=pure [(row,v)])
  (hco:scope.isCoroutine=false) (hgen:scope.isGenerator=false) (hk:scope.kind=.function) (hno:∀x∈scope.names,x.2≠.cell) (hr:scope.names.lookup row=some .local) (hm:scope.names.lookup many=some .free)
  (hcell:s.heap.IsCell cc (some (.int i t))) (ht:To s.heap r items) (hz:items.size<=Tn) (d1:(row==("__debug__":Str))=false) (d2:(many==("__debug__":Str))=false) (d3:(many==("__classdict__":Str))=false)
  (h:∀b h' tk,(∀c o,s.heap.get? c=some o->h'.get? c=some o)->To h' b (List.toArray (items.toList.take (HT.sIx items.size items.size (some i))))->Q (.ref b) {s with heap:=h',toks:=tk}):
  Tu (model prog w) A (call (.ref f) [.ref r]) Q E s:=by
 refine wpAny_call (kla_callFunE hroom hf rfl hco hgen rfl hcd ?_);rw[hbind];refine TF (wpAny_newFunctionEnv hno (λx hx=>?_) (λh₁ hns hsb=>⟨hlim.fresh _ hsb,?_⟩) hk)
 ·rw[Rc]at hx;subst hx;exact hr
 ·show TZ _ _ (.expr (cutE row many np mp p2 pos) (envX qual scope s.heap.objs.size f (.ref c') [(many,cc)])) _ _;have hk₁:∀b o,s.heap.get? b=some o->h₁.get? b=some o:=λb o e=>hsb.extBut b o (OO (Sx e)) (SA _ e);refine kla_codeExpr (BL (m:=λx=>[(row,Value.ref r)].reverse.lookup x) (r:=r) (c:=cc) (t:=t) hk hr hm hns ?_ ?_ ?_ ?_ hz d1 d2 d3 λb h' kp tb=>h b h' _ (λc o e=>kp c o (hk₁ c o e)) tb)
  ·simp
  ·simp
  ·obtain⟨o,e,q⟩:=hcell;exact⟨o,hk₁ _ _ e,q⟩
  ·obtain⟨o,e,q⟩:=ht;exact⟨o,hk₁ _ _ e,q⟩
end
end TG
namespace TG
open PySem PySem.Spec PyProof.Rows PySem.W L2
variable[aA]
noncomputable def DF(mg:cj)(base:Tl)(c P:Td):Prop:=CodeHd base c P/\∃bm ob,mg "__builtins__"=some (.ref bm)/\bm≠Tq/\base.get? bm=some ob/\ob.cls=.type "module"/\ob.dict=some Tq/\ob.data=.plain
section
variable{fs ex:ax}{Pg:Ti}{w:Th}{H:Hp}{h h':Tl}{P c':Td}{φ:(Td->Prop)->Tl->Prop}
theorem Jq(hP:H P=some (.ext φ))(k:∀b o,b≠P->h.get? b=some o->h'.get? b=some o)(hp:∃o,h'.get? P=some o)(hc:h.objs.size<=c')(hn:H c'=none):Un fs ex H (upd H c' (.own P)) h h' where
 keep:=λb u q n _ _=>k b u (λz=>by rw[z,hP]at n;cases n) q
 slot:=λb u q n _ _=>⟨u.slots,k b u (λz=>by rw[z,hP]at n;cases n) q⟩
 free:=λb u q n _=>by rw[ao (OO (OL (Sx q) hc))];exact n
 there:=λb u q _=>by
  by_cases z:b=P
  ·rw[z];exact hp
  ·exact⟨u,k b u z q⟩
 tups:=λb xs q=>by rw[ao (aD q hn)];exact q
 frzs:=λb u xs q=>by rw[ao (aD q hn)];exact q
 tbls:=λb ps q=>⟨#[],by rw[ao (aD q hn),q];simp⟩
theorem Fl(x:mQ Pg w H h)(hP:H P=some (.ext φ))(k:∀b o,b≠P->h.get? b=some o->h'.get? b=some o)(hc:h.objs.size<=c')(ho:∃o,h'.get? c'=some o)(new:b7 Pg w (upd H c' (.own P)) h' P (.ext φ)):mQ Pg w (upd H c' (.own P)) h':=λb u e=>by
 have hn:=x.fresh hc;by_cases hb:b=c'
 ·subst hb;rw[av]at e;cases e;exact ho
 ·rw[ao hb]at e;by_cases hb2:b=P
  ·subst hb2;rw[hP]at e;cases e;exact new
  ·refine(x b u e).stay (λc v hc' q=>k c v ?_ q) (λc q=>by rw[ao (aD q hn)];exact q) λc xs q=>by rw[ao (aD q hn)];exact q
   rcases hc' with rfl|hc'
   ·exact hb2
   ·rintro rfl;rw[hP]at hc';cases hc'
end
theorem DF.blt{mg:cj}{base h:Tl}{c P:Td}{m:cj}(B:DF mg base c P)(kp:∀b o,base.get? b=some o->h.get? b=some o)(hP:base.get? P=none)(hg:base.Ns Tp m):h.BuiltinsAt mg P:=by
 obtain⟨_,bm,ob,b1,b2,b3,b4,b5,b6⟩:=B;refine⟨bm,ob,b1,b2,λz=>?_,λz=>?_,kp _ _ b3,b4,b5,b6⟩
 ·subst z;obtain⟨o,es,ep,e,hd,_⟩:=hg;rw[e]at b3;cases b3;rw[hd]at b6;cases b6
 ·subst z;rw[hP]at b3;cases b3
section
variable{X:Cx}{pins:bc}{s:Tg}{σ:L2.St}{H:Hp}{E:bq}
theorem Cq{c P:Td}{lpos:Pos}{params:Ua}{body:Te}{scope:Tt}{clos:mO}{Q:bq}(I:Inv X pins σ H s)(B:DF X.mg X.base c P)(hcode:X.env.code=.ref c)(hP:H P=some (.ext (oh P lpos (X.env.qual++"<lambda>"))))
  (hdef:defaultsOf params X.env=([],[])) (hcl:closureFor scope X.env=pure clos)
  (h:∀f c' ctv s' H',Inv X pins σ H' s'->aR H H'->s'.heap.get? f=some (UU "<lambda>" (X.env.qual++"<lambda>") params body scope clos ((X.mg "__name__").getD .none) c' ctv)->s'.heap.CodeRec (.ref c') (X.env.qual++"<lambda>")->Q (.ref f) s'):
  Tu (model X.prog X.w) X.A (eval (.Lambda params body scope lpos) X.env) Q E s:=by
 have hg:s.heap.Ns Tp X.mg:=I.mod.glob.keeps I.bk;have hPn:X.base.get? P=none:=by
  cases q:X.base.get? P with
  |none=>rfl
  |some o=>have:=(I.bs P o q).2;rw[hP]at this;cases this
 have hgP:Tp≠P:=λz=>by
  obtain⟨o,es,ep,e,_⟩:=I.mod.glob;rw[z,hPn]at e;cases e
 have hb:=B.blt I.bk hPn I.mod.glob;have C:=B.1.keeps I.bk;obtain⟨tb,_,_⟩:=I.hok P _ hP;refine kla_eval hdef ?_;rcases tb with e|⟨c',hc',e,hrec⟩
 ·refine kla_makeFunction hcl I.ok.glob hg hcode C e trivial rfl hgP hb λc' ctv h' tk hx hge hlt hrec htb=>?_;have hn:=I.hok.fresh hge;have htb':h'.get? P=some (tabObj #[rawInt lpos.line,rawInt lpos.col,.ref c']):=by simpa using htb
  have kp:∀b o,b≠P->s.heap.get? b=some o->(h'.push (UU "<lambda>" (X.env.qual++"<lambda>") params body scope clos ((X.mg "__name__").getD .none) c' ctv)).get? b=some o:=λb o hb' q=>SA _ (hx b o hb' q);have hrec':(h'.push (UU "<lambda>" (X.env.qual++"<lambda>") params body scope clos ((X.mg "__name__").getD .none) c' ctv)).CodeRec (.ref c') (X.env.qual++"<lambda>"):=by
   obtain⟨c2,oc,vs,t,ec,eo,r⟩:=hrec;exact⟨c2,oc,vs,t,ec,SA _ eo,r⟩
  have hco:∃o,(h'.push (UU "<lambda>" (X.env.qual++"<lambda>") params body scope clos ((X.mg "__name__").getD .none) c' ctv)).get? c'=some o:=by
   obtain⟨c2,oc,vs,t,ec,eo,r⟩:=hrec;cases ec;exact⟨oc,SA _ eo⟩
  refine h _ c' ctv _ (upd H c' (.own P)) (I.un (Jq hP kp ⟨_,SA _ htb'⟩ hge hn) (Fl I.hok hP kp hge hco (oh.ok (.inr ⟨c',av,SA _ htb',hrec'⟩)))) (bj hn _) (SD _ rfl) hrec'
 ·refine kla_makeFunctionHit (cv:=.ref c') hcl I.ok.glob hg hcode C e trivial ?_ hb λctv h' tk hk hsz=>?_
  ·show(if((lpos.line:Int)==(lpos.line:Int)&&(lpos.col:Int)==(lpos.col:Int))=true then some (Value.ref c')else _)=_;simp
  ·have kp:∀b o,s.heap.get? b=some o->(h'.push (UU "<lambda>" (X.env.qual++"<lambda>") params body scope clos ((X.mg "__name__").getD .none) c' ctv)).get? b=some o:=λb o q=>SA _ (hk b o q);refine h _ c' ctv _ H (I.kept kp) (aR.refl H) (SD _ rfl) ?_;obtain⟨c2,oc,vs,t,ec,eo,r⟩:=hrec;exact⟨c2,oc,vs,t,ec,kp _ _ eo,r⟩
end
noncomputable def qU(m:Nat):D->List D
 |.tup ks=>ks.take m
 |_=>[]
noncomputable def J0(m:Nat)(xs:List D):Prop:=xs.length<64/\∃σ:bM,σ≠[]/\(∀x∈xs,∃k,x=.tup k/\Sh σ (k.take m))/\xs.Pairwise λx y=>qU m x≠qU m y
open Classical in
noncomputable def qo(m:Nat)(xs:List D):bF:=if J0 m xs then some (.lst (gP (qU m) xs))else none
noncomputable def nW:D->D->bF
 |.lst xs,.int i=>if 0<=i then qo i.toNat xs else none
 |.tup xs,.int i=>if 0<=i then qo i.toNat xs else none
 |_,_=>none
theorem rS:∀{vs:aK}{us:aU}(n:Nat),Vals vs us->Vals (vs.take n) (us.take n)
 |_,_,0,_=>by rw[P4,P4];exact .nil
 |_,_,_+1,.nil=>.nil
 |_,_,n+1,.cons r t=>by rw[P6,P6];exact .cons r (rS n t)
theorem FQ{i:Int}(h:0<=i)(n:Nat):HT.sIx n n (some i)=min i.toNat n:=by
 show(if i<0 then _ else _)=_;rw[if_neg ‹0›]
theorem lX:Tr "sorted"=some (.builtin "sorted"):=by first|rfl|decide +kernel
section
variable{X:Cx}{pins:bc}{s:Tg}{σ:L2.St}{H:Hp}{O:ax}
theorem wV{u:S9}{ds:List D}{vs:aK}{its:aU}{d:D}{i:Int}{t:Tok}{c' cc f:Td}{row many qual:Str}{params:Ua}{scope:Tt}{np mp p2 pos:Pos}{pm ctv:S9}{Q:VK}
  (I:Inv X pins σ H s) (hO:dL H O) (dn:aI X.K (hid H O) ds vs) (rv:Vals vs its) (h0:0<=i) (hs:qo i.toNat ds=some d)
  (hf:s.heap.get? f=some (UU "<lambda>" qual params (cutE row many np mp p2 pos) scope [(many,cc)] pm c' ctv)) (hcd:s.heap.CodeRec (.ref c') qual) (hroom:X.A.depth<T3)
  (hbind:∀v,bindArgs (kla_fn "<lambda>" qual params (cutE row many np mp p2 pos) scope [(many,cc)] pm (.ref c') ctv) ⟨[v],[]⟩=pure [(row,v)])
  (hco:scope.isCoroutine=false) (hgen:scope.isGenerator=false) (hk:scope.kind=.function) (hno:∀x∈scope.names,x.2≠.cell) (hr:scope.names.lookup row=some .local) (hm:scope.names.lookup many=some .free)
  (hcell:s.heap.IsCell cc (some (.int i t))) (d1:(row==("__debug__":Str))=false) (d2:(many==("__debug__":Str))=false) (d3:(many==("__classdict__":Str))=false)
  (hcol:∀(Q':aU->cQ),(∀h' tk,(∀b o,s.heap.get? b=some o->h'.get? b=some o)->Q' its {s with heap:=h',toks:=tk})->Tu (model X.prog X.w) X.A.in1 (collect u) Q' X.xe s)
  (q:∀v H',aR H H'->cq X.K (hid H' O) d v->Q v H'):Tu (model X.prog X.w) X.A (call (.builtin "sorted") [u] [(Str.ofString "key",.ref f)]) (EP X pins σ Q) X.xe s:=by
 have l1:=dn.length;have l2:=rv.length;unfold qo at hs;split at hs
 ·rename_i hS;cases hs;obtain⟨h64,σ',hσ,hsh,pw⟩:=hS;obtain⟨b,σ1,rfl⟩:∃b σ1,σ'=b::σ1:=by
   cases σ' with
   |nil=>exact absurd rfl hσ
   |cons b σ1=>exact⟨b,σ1,rfl⟩
  have hsh':∀x∈ds,Sh (b::σ1) (qU i.toNat x):=λx hx=>by
   obtain⟨k,rfl,hk⟩:=hsh x hx;exact hk
  refine vI (keys:=ds.map (qU i.toNat)) (σ:=σ1) (b:=b) ‹0› (by rw[Pa];omega) (λk hk=>by obtain⟨x,hx,rfl⟩:=List.mem_map.mp hk;exact hsh' x hx) hcol (λj v h' tk Q' hv kp hq=>?_) λp h1 h' l e tk hp hu k1 k2 hl he=>?_
  ·have hj:j<its.length:=by
    rcases QZ j its.length with z|z
    ·exact z
    ·rw[Ra z]at hv;cases hv
   have hj':j<ds.length:=(by omega);obtain⟨v0,e1,dv⟩:=dn.get (i:=j) (d:=ds[j]) (by simp[hj']);obtain⟨w,e2,rw'⟩:=rv.get e1;rw[hv]at e2;cases e2;obtain⟨k,ek,hk'⟩:=hsh _ (QT hj');have ekey:(ds.map (qU i.toNat)).getD j []=k.take i.toNat:=by
    have:(ds.map (qU i.toNat)).getD j []=qU i.toNat ds[j]:=(by simp[hj']);rw[this,ek];rfl
   rw[ekey]at hq;rw[ek]at dv;obtain⟨a,ws,rfl,ha,dk⟩:=bW.mp dv;cases rw';obtain⟨it2,r2,ht,hz⟩:=I.tuple (bK (aq H O) ha);have hz':it2.toArray.size<=Tn:=(by rw[O6,<-r2.length];exact hz);refine Bn (s:={s with heap:=h',toks:=tk}) (i:=i) (t:=t) (kp _ _ hf) ?_ hroom (I.nolimit.keeps kp) hbind hco hgen hk hno hr hm ?_ (items:=it2.toArray) ?_ hz' d1 d2 d3 λb2 h'' tk' kp2 tb=>?_
   ·obtain⟨c2,oc,vs',t',ec,eo,r⟩:=hcd;exact⟨c2,oc,vs',t',ec,kp _ _ eo,r⟩
   ·obtain⟨o,e,q⟩:=hcell;exact⟨o,kp _ _ e,q⟩
   ·obtain⟨o,e,q⟩:=ht;exact⟨o,kp _ _ e,q⟩
   ·refine hq _ h'' tk' kp2 ?_;obtain⟨o,eo,hc,n,hd⟩:=tb;refine⟨b2,o,_,n,rfl,eo,hc,hd,?_⟩;have e3:(List.toArray (it2.toArray.toList.take (HT.sIx it2.toArray.size it2.toArray.size (some i)))).toList=it2.take i.toNat:=by
     rw[FQ h0];simp only[O6,QY];rcases Rf i.toNat it2.length with z|z
     ·rw[Rg z]
     ·rw[Rh z,Rb (O1 _),Rb z]
    rw[e3];exact i7 (kR hk') (dk.take i.toNat) (rS i.toNat r2)
  ·have el:its.length=ds.length:=(by omega);rw[el]at hp hu;have ps:=ou (key:=qU i.toNat) hsh' pw hp hu;have hr:p.toList.Perm (List.range ds.length):=by
    have:=Array.perm_iff_toList_perm.mp hp
    simpa using this
   have hlt:∀i∈p.toList,i<ds.length:=λi hi=>by simpa using hr.mem_iff.mp hi
   have I1:Inv X pins σ H {s with heap:=h1,toks:=tk}:=I.kept k1;have hn:H l=none:=I1.hok.fresh hl;have rv':=nR rv p.toList λi hi=>by have:=hlt i hi;omega
   have dn':=oj dn p.toList hlt;have hlen:p.toList.length=ds.length:=(by rw[hr.length_eq,Ql]);refine⟨.ref l,_,Inv.laid (s:={s with heap:=h1,toks:=tk}) (t':=tk) I1 k2 hl (show b7 X.prog X.w _ h' _ (.lst (p.toList.map λi=>vs.getD i .non))from⟨by rw[Pa,hlen,TY];omega,_,e,rv',he⟩),rfl,?_⟩;refine q _ _ (bj hn _) ?_;rw[<-ps];exact cN hO hn dn'
 ·cases hs
end
end TG
namespace TG
open PySem PySem.Spec PyProof.Rows PySem.W L2
section
variable[aA]{P:Ti}{w:Th}{K:RY}{mg:cj}{base:Tl}
noncomputable def rj(K:RY)(f:Td)(cdv:S9):Prop:=∃oc od fd sl,K.lookup f=some ⟨oc,od,.func fd,sl⟩/\fd.code=cdv
theorem rj.one{f:Td}{a b:S9}(h:rj K f a)(h':rj K f b):a=b:=by
 obtain⟨oc,od,fd,sl,e,r⟩:=h;obtain⟨oc',od',fd',sl',e',r'⟩:=h';rw[e]at e';cases e';rw[<-r,<-r']
structure ui(P:Ti)(w:Th)(K:RY)(mg:cj)(base:Tl)(k:Nat)(N:ay)(qual:Str)(st:Tf)(f:Td)(B:bI):Prop where
 h:∀(cdv:S9)(A:Ts)(outer:List Env)(s:Tg)(H:Hp)(E:XK),rj K f cdv->eY k (A.deeper (envOfC qual (aw st) s.heap.objs.size f cdv))->TK (model P w) (A.deeper (envOfC qual (aw st) s.heap.objs.size f cdv)) (envOfC qual (aw st) s.heap.objs.size f cdv) (g9 (j4 P w) P w K mg base N qual (aw st) f cdv A outer s H E).xe->
  MN (g9 (j4 P w) P w K mg base N qual (aw st) f cdv A outer s H E) (dG st) B
theorem CH{x qual:Str}{st:Tf}{f:Td}{fd:T6}{N ps:ay}{k:Nat}{B:bI}(F:uF K x qual st f fd)(SC:dJ N ps (aw st))(hb:ui P w K mg base k N qual st f B):
  gS P w K mg base (j4 P w) (k+1) f fd ps (y8 K ps.length (aG B ps.length N.length)):=by
 obtain⟨oc,od,kV,doc,pm,an,cd,ct,osl,rfl,lk,hcd⟩:=F.ex;refine Dy lk hcd SC (λvs H Q E h=>?_) λA outer s H vs Q E hr h=>?_
 ·obtain⟨O,ds,h1,_⟩:=h;exact h1
 ·obtain⟨O,ds,h1,h2,h3,h4⟩:=h;have hl:ds.length=ps.length:=h3.length.trans h1;have e4:aG B ps.length N.length ds=B K0 (env0 N.length ds):=by unfold aG;rw[if_pos hl]
  rw[e4]at h4;refine⟨_,hb.h cd A outer s H E ⟨_,_,_,_,lk,rfl⟩ hr PassesOwn.leaving H O,O,env0 N.length ds,K0,_,⟨qz h2 h3,⟨aR.refl H,λ_ z=>z,λa z=>.inl z⟩,λi xs a e=>?_,λi d e=>by obtain⟨d',_,e2⟩:=gX i _ e;cases e2⟩,rfl,?_⟩
  ·obtain⟨d',_,e2⟩:=gX i _ e;cases e2
  ·generalize B K0 (env0 N.length ds)=r at h4;refine⟨λz=>by rw[z]at h4;exact h4,λO' ρ' σ' H' S e=>?_,λO' ρ' σ' H' S e=>?_,λO' ρ' σ' H' S e=>?_,λd O' v H' e b dv=>?_,λO' ρ' σ' H' x S e=>?_⟩
   ·have e:(.ok .non:R D)=r:=e;subst e;exact h4 .non H' S.base.same (jp.mpr rfl)
   ·have e:(un:R D)=r:=e;subst e;exact h4.elim
   ·have e:(un:R D)=r:=e;subst e;exact h4.elim
   ·subst e;exact h4 v H' b.same (dv.mono (fg b.sub))
   ·have e:(.error (some x):R D)=r:=e;subst e;exact C6 h4 S.base.same S.base.sub
theorem we{x qual:Str}{st:Tf}{f:Td}{fd:T6}{N ps:ay}{k:Nat}{B:bI}(F:uF K x qual st f fd)(b:Binds K fd ps [])(m:mg x=some (.ref f))(SC:dJ N ps (aw st))(hb:ui P w K mg base k N qual st f B):
  Callee P w K mg base (k+1) x ps (aG B ps.length N.length):=⟨f,fd,CH F SC hb,b,F.kp,m⟩
end
noncomputable def wj(mg:cj)(base:Tl):Prop:=∃bm ob,mg "__builtins__"=some (.ref bm)/\bm≠Tq/\base.get? bm=some ob/\ob.cls=.type "module"/\ob.dict=some Tq/\ob.data=.plain
theorem Gg{K:RY}{mg:cj}{base:Tl}{c P:Td}(X:K.In base)(e:codeHdIn K c P=true)(b:wj mg base):DF mg base c P:=⟨codeHd_of_K X e,b⟩
theorem Ep{P:Ti}{w:Th}{K:RY}{mg mb:cj}{CX:xQ}{k:Nat}{fa a c T:Td}{lpos:Pos}{q:Str}{fd:T6}{x:Str}{sp:Sp}{s₁:Tg}{vs:aU}{ns:List Int}
  (KX:K.In s₁.heap) (hns:s₁.heap.Ns Tp mg) (hb:s₁.heap.Ns Tq mb) (hbb:∀x:Str,x≠"__name__"->mb x=Tr x) (hlim:s₁.heap.NoLimit) (hg:s₁.gens=#[]) (hbm:wj mg s₁.heap)
  (hT:s₁.heap.get? T=some (tabObj #[])) (hC:codeHdIn K c T=true) (hKT:K.lookup T=none)
  (ha:s₁.heap.get? a=some {cls:=.type "list",data:=.seq vs.toArray}) (hi:IntsAre vs ns) (hl:ns.length<=Tn) (hr:eY k callerA)
  (F:∀base:Tl,K.In base->base.Ns Tp mg->wj mg base->gS P w K mg base CX k fa fd [x] sp) (hbind:∀(s:Tg)(u:S9),T7 s fd ⟨[u],[]⟩ [(x,u)])
  (hsp:∀H:Hp,H T=some (.ext (oh T lpos q))->lT K H a (ns.map V.int)->sp [.ref a] H (λv H'=>v=.bl true/\aR H H') λ_ _ _=>False)
  (hCX:∀H e s',CX [] H s₁ (λ_ _ _=>False) e s'->False):
  TZ (model P w) callerA (.call (.ref fa) ⟨[.ref a],[]⟩) (λr s'=>r=.ok (.ret (.bool true))/\OldK s₁.heap s'.heap/\s'.os=s₁.os/\AllBare s'.gens) s₁:=by
 have rv:=ro hi;have lenV:=hi.length;have aT:a≠T:=λz=>by rw[z,hT]at ha;cases ha
 obtain⟨H,hH⟩:∃H:Hp,H=λb=>if b=T then some (.ext (oh T lpos q))else if b=a/\(K.lookup a).isNone=true then some (.frz {cls:=.type "list",data:=.seq vs.toArray} (.lst (ns.map V.int)))else none:=⟨_,rfl⟩
 have hHT:H T=some (.ext (oh T lpos q)):=by rw[hH];exact if_pos rfl
 have cases':∀b u,H b=some u->(b=T/\u=.ext (oh T lpos q))\/(b=a/\K.lookup a=none/\u=.frz {cls:=.type "list",data:=.seq vs.toArray} (.lst (ns.map V.int))):=λb u e=>by
  rw[hH]at e;by_cases z:b=T
  ·have e:=(if_pos z).symm.trans e;cases e;exact .inl ⟨z,rfl⟩
  ·have e:=(if_neg z).symm.trans e;by_cases z':b=a/\(K.lookup a).isNone=true
   ·have e:=(if_pos z').symm.trans e;cases e;exact .inr ⟨z'.1,by simpa using z'.2,rfl⟩
   ·have e:=(if_neg z').symm.trans e;cases e
 have free:∀b o,s₁.heap.get? b=some o->o.cls≠.none->o.cls≠.type "list"->H b=none:=λb o e h1 h2=>by
  cases z:H b with
  |none=>rfl
  |some u=>
   rcases cases' b u z with⟨e1,_⟩|⟨e1,_⟩
   ·rw[e1,hT]at e;cases e;exact absurd rfl h1
   ·rw[e1,ha]at e;cases e;exact absurd rfl h2
 have freeD:∀b o es ep,s₁.heap.get? b=some o->o.data=.dict es ep->H b=none:=λb o es ep e d=>by
  cases z:H b with
  |none=>rfl
  |some u=>
   rcases cases' b u z with⟨e1,_⟩|⟨e1,_⟩
   ·rw[e1,hT]at e;cases e;cases d
   ·rw[e1,ha]at e;cases e;have d':Data.seq vs.toArray _=Data.dict es ep:=d;cases d'
 have hS:lT K H a (ns.map V.int):=by
  cases hk:K.lookup a with
  |some o=>
   have e:=KX a o hk;rw[ha]at e;cases e;exact .inr ⟨_,vs.toArray,_,hk,rfl,rfl,rfl,by rw[O6,lenV];exact hl,by simpa using rv⟩
  |none=>
   refine .inl (.inr ⟨{cls:=.type "list",data:=.seq vs.toArray},?_⟩);rw[hH];exact(if_neg aT).trans (if_pos ⟨rfl,by rw[hk];rfl⟩)
 have hok:mQ P w H s₁.heap:=λb u e=>by
  rcases cases' b u e with⟨e1,e2⟩|⟨e1,_,e2⟩
  ·subst e1 e2;exact oh.ok (.inl hT)
  ·subst e1 e2;exact⟨ha,by rw[Pa];exact hl,vs,_,rv,ha⟩
 have nsK:∀{b:Td}{m:cj},s₁.heap.Ns b m->(tZ s₁.heap H).Ns b m:=λ{b m} ⟨o,es,ep,e,d,r⟩=>⟨o,es,ep,pR e (freeD b o es ep e d),d,r⟩
 have hKb:K.In (tZ s₁.heap H):=λb o e=>pR (KX b o e) (by
  cases z:H b with
  |none=>rfl
  |some u=>
   rcases cases' b u z with⟨e1,_⟩|⟨e1,e2,_⟩
   ·rw[e1,hKT]at e;cases e
   ·rw[e1,e2]at e;cases e)
 have hbm':wj mg (tZ s₁.heap H):=by
  obtain⟨bm,ob,b1,b2,b3,b4,b5,b6⟩:=hbm;refine⟨bm,ob,b1,b2,pR b3 (free bm ob b3 ?_ ?_),b4,b5,b6⟩
  ·rw[b4];simp
  ·rw[b4];simp
 have hM:Mod K mg (tZ s₁.heap H):=⟨hKb,nsK hns,⟨mb,nsK hb,hbb⟩,let ⟨mc,h1,h2⟩:=hlim;⟨mc,nsK h1,h2⟩⟩
 have e0:Ac P w K mg (tZ s₁.heap H) callerA [] s₁ H:=⟨rfl,hM,λb o e=>EJ e,Pb (AH _ _),trivial,λb hb=>absurd (show b∈([]:ax)from hb) (by simp),hok,.of_eq hg⟩
 refine T8 ((F _ hKb (nsK hns) hbm').run callerA [] s₁ H ⟨[.ref a],[]⟩ [.ref a] [.ref a] _ _ hr e0 (hbind s₁ (.ref a)) (.cons rfl .nil) (hsp H hHT hS)) λr s' h=>?_;cases r with
 |error e=>exact(hCX H e s' h).elim
 |ok fl=>
  cases fl with
  |next=>exact False.elim h
  |brk=>exact False.elim h
  |cont=>exact False.elim h
  |ret u=>
   obtain⟨v,H',os,bare,unn,hok',r',q'⟩:=h;obtain⟨ev,sm⟩:v=.bl true/\aR H H':=q';subst ev;obtain rfl:u=Value.bool true:=r';have tb:=(hok' T _ (sm _ _ hHT)).1;obtain⟨ps,hps⟩:∃ps,s'.heap.get? T=some (tabObj ps):=by
    rcases tb with e|⟨_,_,e,_⟩
    ·exact⟨_,e⟩
    ·exact⟨_,e⟩
   have keep:∀b o,b≠T->s₁.heap.get? b=some o->s'.heap.get? b=some o:=λb o hb e=>by
    cases z:H b with
    |none=>exact unn.keep b o e z (by intro z;exact absurd (show b∈([]:ax)from z) (by simp)) (by simp)
    |some u=>
     rcases cases' b u z with⟨e1,_⟩|⟨e1,_,e2⟩
     ·exact absurd e1 hb
     ·subst e2;have z2:=sm _ _ z;obtain⟨e3,_⟩:=hok' b _ z2;rw[e1,ha]at e;cases e;exact e3
   refine⟨rfl,⟨λb o e=>?_,λb o e=>?_⟩,os,bare⟩
   ·by_cases hb:b=T
    ·subst hb;rw[hT]at e;cases e;exact .inr (.inl ⟨((codeHd_of_K KX hC).tab hT).isCodeTable,rfl,#[],ps,rfl,by rw[Array.empty_append];exact hps⟩)
    ·exact .inl (keep b o hb e)
   ·by_cases hb:b=T
    ·subst hb;exact⟨_,hps⟩
    ·exact⟨o,keep b o hb e⟩
theorem By{l:Ss}{n k:Nat}{q:Ti}{loose:ay}{XP:(cj)->Tl->Prop}{YP:Th->Tl->Prop}{d:DefRec}{K:Params->RY}{CX:Th->xQ}{sp:Th->Sp}{x qn:Str}{T:Td}{lpos:Pos}
  (hn:l.most=some n) (hn2:n<=Tn) (hdf:d.params.defaults=[]) (hr:eY k callerA)
  (hY:∀(w:Th)(h:Tl),YP w h->(K w.params).In h/\h.get? T=some (tabObj #[]))
  (F:∀ (w:Th) (mg:cj) (fa:Td) (h:Tl),(K w.params).In h->h.Ns Tp mg->mg d.name=some (.ref fa) ->
   (∃c,codeHdIn (K w.params) c T=true)/\(K w.params).lookup T=none/\∃fd:T6,(∀(s:Tg)(u:S9),T7 s fd ⟨[u],[]⟩ [(x,u)])/\
    ∀base:Tl,(K w.params).In base->base.Ns Tp mg->wj mg base->gS l.prog w (K w.params) mg base (CX w) k fa fd [x] (sp w))
  (hsp:∀(w:Th)(H:Hp)(a:Td)(ns:List Int),ns.length<=n->H T=some (.ext (oh T lpos qn))->lT (K w.params) H a (ns.map V.int)->sp w [.ref a] H (λv H'=>v=.bl true/\aR H H') λ_ _ _=>False)
  (hCX:∀(w:Th)(H:Hp)(s:Tg)(e:S9)(s':Tg),CX w [] H s (λ_ _ _=>False) e s'->False):
  PySem.W.WalkO q loose XP YP l.row.toRowW d [] (λf vs=>PySem.call f vs):=by
 refine Att.Gr hn hdf λw s₀ s₁ mg mb fa o pm cd doc a vs ns G Y ho hd hcd hmg hobj hints hlen hg=>?_;obtain⟨KX,hT⟩:=hY w _ Y;obtain⟨⟨c,hC⟩,hKT,fd,hb,hF⟩:=F w mg fa _ KX G.T.g hmg;exact Ep KX G.T.g G.T.b G.T.builtins G.T.nolimit hg G.T.bmain hT hC hKT hobj hints (OQ hlen hn2) hr hF hb (λH hO hS=>hsp w H a ns hlen hO hS) λH e s'=>hCX w H s₁ e s'
open PySem PySem.Spec PySem.Calls L2
open PySem.SeqAt (EqAt list_indexAt)
variable[aA]
section
variable{X:Cx}{p pos:Pos}{e:Te}
end
end TG
namespace TG
open PySem PySem.Spec L2
variable[aA]
end TG
namespace TG
open PySem PySem.Spec PySem.Calls L2
open PySem.SeqAt (EqAt list_countAt)
variable[aA]
noncomputable def uV:=Jx (λ_ j=>decide (0<=j)) λi j=>i/2^j.toNat
theorem HX{K:RY}:cS K (rI (λ_ j=>0<=j) λi j=>.int (i/2^j.toNat)) uV:=iN λ_ _ h=>of_decide_eq_true h
noncomputable def oP:=GK λi j=>.int (Builtin.bitAnd i j)
theorem Jp{K:RY}:cS K (AQ λi j=>.int (Builtin.bitAnd i j)) oP:=qG
noncomputable def oM:List D->List D->Option (List (Key×D))
 |[],[]=>some []
 |k::ks,d::ds=>(keyOf k).bind λk=>(oM ks ds).map ((k,d)::·)
 |_,_=>none
noncomputable abbrev f9(al:List (Key×D)):List D:=al.map λp=>aY p.1
noncomputable abbrev vQ(al:List (Key×D)):D:=.dct (f9 al) (al.map (·.2))
theorem jl(k:Key):keyOf (aY k)=some k:=by cases k<;>rfl
theorem qv{a b:Key}(h:aY a=aY b):a=b:=by
 have e:=congrArg keyOf h;rw[jl,jl]at e;exact Option.some.inj e
theorem vM:∀{ks ds:List D}{al:List (Key×D)},oM ks ds=some al->ks=f9 al/\ds=al.map (·.2)
 |[],[],_,h=>by cases h;exact⟨rfl,rfl⟩
 |k::ks,d::ds,al,h=>by
  unfold oM at h;cases e1:keyOf k with
  |none=>rw[e1]at h;cases h
  |some k'=>
   rw[e1]at h;cases e2:oM ks ds with
   |none=>rw[e2]at h;cases h
   |some al'=>
    rw[e2]at h;cases h;obtain⟨h1,h2⟩:=vM e2;rw[pM e1,h1,h2];exact⟨rfl,rfl⟩
 |[],_::_,_,h=>by cases h
 |_::_,[],_,h=>by cases h
theorem sZ:∀al:List (Key×D),oM (f9 al) (al.map (·.2))=some al
 |[]=>rfl
 |p::r=>by
  show(keyOf (aY p.1)).bind _=_;rw[jl];show(oM (f9 r) (r.map (·.2))).map ((p.1,p.2)::·)=_;rw[sZ r];rfl
theorem tJ:∀{al:List (Key×D)}{ks:cP},f9 al=ks.map aY->al.map (·.1)=ks
 |[],[],_=>rfl
 |p::r,k::ks,h=>by
  have h:aY p.1::f9 r=aY k::ks.map aY:=h;injection h with h1 h2;rw[O9,qv h1,tJ h2]
 |[],_::_,h=>by cases h
 |_::_,[],h=>by cases h
theorem MT{K:RY}{H:Hp}{O:ax}{a:Td}{al:List (Key×D)}(h:cx K H O a (vQ al)):
  (∃kvs:List (Key×V),H a=some (.dK kvs)/\kvs.map (·.1)=al.map (·.1)/\aI K (hid H O) (al.map (·.2)) (kvs.map (·.2)))\/(H a=some (.dT [])/\al=[]):=by
 obtain⟨o,vs,h1,h2,h3⟩:=h;rcases h3 with⟨kvs,e,e1,e2⟩|⟨kvs,e,e1,e2⟩
 ·subst e;refine .inl ⟨kvs,h1,?_,by rw[<-e2];exact h2⟩;exact(tJ (ks:=kvs.map (·.1)) (by rw[QW];exact e1)).symm
 ·subst e;cases kvs with
  |nil=>
   refine .inr ⟨h1,?_⟩
   simpa using e1
  |cons p r=>
   cases al with
   |nil=>cases e1
   |cons q r'=>
    have e1:aY q.1::f9 r'=D.tup (p.1.map aY)::r.map (λp=>D.tup (p.1.map aY)):=e1;injection e1 with e1 _;rcases q with⟨k,v⟩
    cases k<;>cases e1
section
variable{κ:Type}[DecidableEq κ]
noncomputable def oS(al:List (κ×D))(k:κ)(v:D):List (κ×D):=if(al.any λp=>decide (p.1=k))=true then al.map (λp=>if p.1=k then(p.1,v)else p)else al++[(k,v)]
theorem zK{kvs:List (κ×V)}{al:List (κ×D)}(e:kvs.map (·.1)=al.map (·.1))(k:κ)(w:V)(d:D):(putK kvs k w).map (·.1)=(oS al k d).map (·.1):=by
 have e2:(kvs.any λp=>decide (p.1=k))=(al.any λp=>decide (p.1=k)):=by
  have:=congrArg (λl=>l.any λq=>decide (q=k)) e
  simpa [QX,Function.comp_def]using this
 unfold putK oS;rw[e2];split
 ·have e3:∀(l:List (κ×V)),(l.map λkv=>if kv.1=k then(kv.1,w)else kv).map (·.1)=l.map (·.1):=λl=>by
   rw[QW];refine Qj λp _=>?_;show(if p.1=k then(p.1,w)else p).1=p.1;split<;>rfl
  have e4:∀(l:List (κ×D)),(l.map λkv=>if kv.1=k then(kv.1,d)else kv).map (·.1)=l.map (·.1):=λl=>by
   rw[QW];refine Qj λp _=>?_;show(if p.1=k then(p.1,d)else p).1=p.1;split<;>rfl
  rw[e3,e4,e]
 ·rw[Qk,Qk,e];rfl
theorem tE{K:RY}{H:Hp}{k:κ}{w:V}{d:D}(hw:cq K H d w):∀{kvs:List (κ×V)}{al:List (κ×D)},kvs.map (·.1)=al.map (·.1)->aI K H (al.map (·.2)) (kvs.map (·.2))->
  aI K H ((al.map λp=>if p.1=k then(p.1,d)else p).map (·.2)) ((kvs.map λp=>if p.1=k then(p.1,w)else p).map (·.2))
 |[],[],_,h=>h
 |p::r,q::r',e,h=>by
  rw[O9,O9]at e;injection e with e1 e2;rw[O9,O9,bb]at h;obtain⟨v,ws,h0,h1,h2⟩:=h;injection h0 with h0 h0';subst h0 h0';have ih:=tE (k:=k) hw e2 h2;rw[O9,O9,O9,O9,bb];refine⟨_,_,rfl,?_,ih⟩;rw[e1];split
  ·exact hw
  ·exact h1
 |[],_::_,e,_=>by cases e
 |_::_,[],e,_=>by cases e
theorem B8{K:RY}{H:Hp}{k:κ}{w:V}{d:D}(hw:cq K H d w){kvs:List (κ×V)}{al:List (κ×D)}(e:kvs.map (·.1)=al.map (·.1))(h:aI K H (al.map (·.2)) (kvs.map (·.2))):
  aI K H ((oS al k d).map (·.2)) ((putK kvs k w).map (·.2)):=by
 have e2:(kvs.any λp=>decide (p.1=k))=(al.any λp=>decide (p.1=k)):=by
  have:=congrArg (λl=>l.any λq=>decide (q=k)) e
  simpa [QX,Function.comp_def]using this
 unfold putK oS;rw[e2];split
 ·exact tE hw e h
 ·rw[Qk,Qk];exact h.append (bb.mpr ⟨w,[],rfl,hw,cw.mpr rfl⟩)
end
noncomputable def rQ(ks ds:List D)(k v:D):Option (List (Key×D)):=(oM ks ds).bind λal=>(keyOf k).bind λk=>if small al.length then some (oS al k v)else none
noncomputable def lA(i:Nat)(fk fv:FX):bI:=λk ρ=>match ρ[i]? with
 |some (some (.own (.dct ks ds)))=>o4 ((fv ρ).bind λv=>(fk ρ).bind λq=>rO (rQ ks ds q v)) k ρ λal=>k.nx (ρ.set i (some (.own (vQ al))))
 |_=>un
theorem wQ{ks ds:List D}{k v:D}{al':List (Key×D)}(h:rQ ks ds k v=some al'):∃al q,ks=f9 al/\ds=al.map (·.2)/\k=aY q/\small al.length=true/\al'=oS al q v:=by
 unfold rQ at h;cases e1:oM ks ds with
 |none=>rw[e1]at h;cases h
 |some al=>
  rw[e1]at h;cases e2:keyOf k with
  |none=>rw[e2]at h;cases h
  |some q=>
   rw[e2]at h;obtain⟨h3,h4⟩:=bA (show(if small al.length then some (oS al q v)else none)=some al' from h);obtain⟨h1,h2⟩:=vM e1;exact⟨al,q,h1,h2,pM e2,h3,h4.symm⟩
theorem EK{kvs:List (Key×V)}{al:List (Key×D)}(e:kvs.map (·.1)=al.map (·.1)):f9 al=kvs.map λp=>aY p.1:=by
 have:=congrArg (List.map aY) e
 rw[QW,QW]at this;exact this.symm
noncomputable def HN(td ty tv:TE):TS:=λD σ H=>tv σ H λv H1=>td σ H1 λx H2=>ty σ H2 λy H3=>∃a k kvs,x=.ref a/\y=kV k/\(H3 a=some (.dK kvs)\/(H3 a=some (.dT [])/\kvs=[]))/\kvs.length<Tn/\D.nx σ (upd H3 a (.dK (putK kvs k v)))
section
variable{X:Cx}{o idx value:Te}{pos pos':Pos}{td ty tv:TE}
theorem DJ(hu:X.A.units+1<T5)(ho:PE X o td)(hi:PE X idx ty)(hv:PE X value tv)(hs:swapsWith value (some (.Subscript o idx pos')) pos.line X.env=pure false):PS X (.Assign [.Subscript o idx pos'] value pos) (HN td ty tv):=by
 intro pins s σ H D I h;refine wpAny_Assign_Subscript (cM (hv pins s σ H _ I h) λr s1 ⟨v,H1,I1,rv,q1⟩=>cM (ho pins s1 σ H1 _ I1 q1) λu s2 ⟨x,H2,I2,rx,q2⟩=>cM (hi pins s2 σ H2 _ I2 q2) λiv s3 h3=>?_) hs;obtain⟨y,H3,I3,ry,a,k,kvs,ex,ey,ha,hl,q3⟩:=h3;subst ex ey;obtain rfl:u=Value.ref a:=rx;rcases ha with ha|⟨ha,rfl⟩
 ·exact kA hu I3 (Ig.k ha hl) ry rv λs4 I4=>⟨σ,_,I4,q3⟩
 ·refine kA hu (IW I3 ha) (Ig.k av hl) ry rv λs4 I4=>⟨σ,_,I4,?_⟩
  rw[pW];exact q3
end
section
variable{X:Cx}
theorem KQ{pins:bc}{σ:St}{H:Hp}{s:Tg}{O:ax}{ks ds:List D}{v:V}{qs:cP}(I:Inv X pins σ H s)(h:cq X.K (hid H O) (.dct ks ds) v)(hk:keysOf ks=some qs):
  ∃a vs,v=.ref a/\qs.length<=Tn/\(a==sysModules)=false/\s.heap.DictOf (bP X.prog X.w) a vs/\vs.map (·.1)=qs:=by
 obtain⟨a,vs,e,_,h2⟩:=Ls.mp h;have ek:=kN hk;rcases h2 with⟨kvs,h3,h4,_⟩|⟨kvs,h3,h4,_⟩|⟨kvs,o,h3,h4,_⟩
 rotate_left 2
 ·rw[h4]at hk;cases hk
 ·obtain⟨z,hd,us,rel,dd⟩:=GU I.hok ((aq H O) _ _ h3);have e1:kvs.map (·.1)=qs:=by
   have:(kvs.map (·.1)).map aY=qs.map aY:=(by rw[QW,<-ek,h4];rfl);have e2:=congrArg keysOf this;rw[bH,bH]at e2;exact Option.some.inj e2
  refine⟨a,us,e,?_,hd,dd,?_⟩
  ·have:=congrArg List.length e1
   rw[Pa]at this;omega
  ·rw[<-rel.keys,e1]
 ·cases kvs with
  |nil=>
   rw[h4]at hk;cases hk;obtain⟨z,hd,us,rel,dd⟩:=(show b7 X.prog X.w H s.heap a (.dK [])from uT (I.hok a _ ((aq H O) _ _ h3)))
   refine⟨a,us,e,Ph _,hd,dd,?_⟩;rw[<-rel.keys];rfl
  |cons p r=>
   rw[h4]at hk;cases hk
noncomputable def p6:List D->bF
 |[.dct ks _]=>(keysOf ks).bind λqs=>some (.int qs.length)
 |_=>none
theorem zE:dS X (.builtin "len") (xj X.K p6):=by
 rintro pins s σ H xs us Q I r ⟨O,ds,d,hO,hd,hg,q⟩;unfold p6 at hg;split at hg
 ·rename_i ks vs0;cases hk:keysOf ks with
  |none=>rw[hk]at hg;cases hg
  |some qs=>
   rw[hk]at hg;cases hg;obtain⟨v,ev,h1⟩:=hd.one;obtain⟨a,vs,e,z,hs,dd,e1⟩:=KQ I h1 hk;subst ev e;obtain⟨u,rfl,ru⟩:=vals1 r;cases ru;have hl:vs.length=qs.length:=(by have:=congrArg List.length e1;simpa using this);refine call_len_dict hs dd (by rw[TY]at z;omega) ?_;rw[hl];exact⟨.int qs.length,H,I.tok _,⟨_,rfl⟩,q _ H (aR.refl H) (eM.mpr rfl)⟩
 ·cases hg
theorem Ao{k:Key}{v:S9}(h:ox k v=true):RelV (kV k) v:=by
 rcases cD h with⟨i,t,rfl,rfl⟩|⟨x,t,rfl,rfl⟩
 ·exact⟨_,rfl⟩
 ·exact⟨_,rfl⟩
theorem rP{P:Ti}{w:Th}:∀{vs:List (Key×S9)}{its:aU},its.length=vs.length->(∀(j:Nat)(v:S9),its[j]?=some v->∃(k:Key)(x:S9),vs[j]?=some (k,x)/\(bP P w).is k v=true)->Vals (vs.map λp=>kV p.1) its
 |[],[],_,_=>.nil
 |p::r,u::us,hl,h=>by
  obtain⟨k,x,e,hk⟩:=h 0 u rfl;cases e;exact .cons (Ao (by rw[wW]at hk;exact hk)) (rP (by simpa using hl) λj v e=>h (j+1) v (by simpa using e))
 |[],_::_,hl,_=>by cases hl
 |_::_,[],hl,_=>by cases hl
theorem sV{K:RY}{H:Hp}:∀qs:cP,aI K H (qs.map aY) (qs.map kV)
 |[]=>cw.mpr rfl
 |k::r=>bb.mpr ⟨kV k,_,rfl,by cases k with
  |inl i=>exact eM.mpr rfl
  |inr x=>exact eN.mpr rfl,sV r⟩
noncomputable def jy:List D->bF
 |[.dct ks _]=>(keysOf ks).bind λ_=>some (.lst ks)
 |_=>none
theorem wB(hc:X.calm=true):dS X (.type "list") (xj X.K jy):=by
 rintro pins s σ H xs us Q I r ⟨O,ds,d,hO,hd,hg,q⟩;unfold jy at hg;split at hg
 ·rename_i ks vs0;cases hk:keysOf ks with
  |none=>rw[hk]at hg;cases hg
  |some qs=>
   rw[hk]at hg;cases hg;obtain⟨v,ev,h1⟩:=hd.one;obtain⟨a,vs,e,z,hs,dd,e1⟩:=KQ I h1 hk;subst ev e;obtain⟨u,rfl,ru⟩:=vals1 r;cases ru;have hl:vs.length=qs.length:=(by have:=congrArg List.length e1;simpa using this);obtain⟨ep,da⟩:=dd.dictAt;refine Su (PySem.W.kdl_dict hs) (I.ok.hd hc) da ‹0› λh' tk acc' c' kp e2 it=>?_;have rv:Vals (qs.map kV) acc'.toList:=by
    have:=rP (P:=X.prog) (w:=X.w) (vs:=vs) (its:=acc'.toList) (by rw[Array.length_toList];exact it.1) λj v e=>it.2 j v (by rw[<-Array.getElem?_toList];exact e)
    rw[<-e1,QW];exact this
   refine⟨.ref s.heap.objs.size,_,I.laid (t':=tk) kp (O1 _) (show b7 X.prog X.w _ h' _ (.lst (qs.map kV))from⟨by rw[Pa];exact z,acc'.toList,c',rv,by simpa using e2⟩),rfl,?_⟩;have hf:=I.hok.fresh (O1 s.heap.objs.size);refine q _ _ (bj hf _) ?_;rw[kN hk];exact cN hO hf (sV qs)
 ·cases hg
end
end TG
namespace TG
open PySem PySem.Spec L2
variable[aA]
end TG
namespace TG
open PySem PySem.Spec PySem.Calls L2
variable[aA]
theorem zA:typeLookup (.type "list") "keys"=pure none:=by rw[typeLookup_type,builtinLookup_eq_fast];kernel_rfl
theorem Gi{prog:Ti}{w:Th}{A:Ts}{E:bq}{s:Tg}{a:Td}{o:Obj}{xs:eD}{k:Nat}{u:Tok}{Q:bq}
  (hx:s.heap.get? a=some o) (hc:o.cls=.type "list") (hdat:o.data=.seq xs k) (hd:o.dict=none) (hA:A.handled=none)
  (h:∀h' tk e,Heap.NewExcOf s.heap h' e "AttributeError"->E (.ref e) {s with heap:=h',toks:=tk}):
  Tu (model prog w) A (getAttrBy (.ref a) (.str "keys" u) false) Q E s:=by
 obtain⟨c,dct,dat,sl⟩:=o;simp only at hc hdat hd;subst hc hdat hd;obtain⟨hp,g,d,tk,os⟩:=s;have hT:∀tk',(⟨hp,g,d,tk',os⟩:Tg).TypeIs (.ref a) "list":=λ_=>⟨_,hx,rfl⟩
 have f1:=sub_AttributeError;have f3:=F.slot_list_getattribute.lookup;have f4:=F.slot_list_getattribute.bind (.ref a);have f5:=am_list_getattr_none;unfold getAttrBy
 repeat (any_goals (first|assumption|exact hT _|((with_reducible show Tu _ _ (call (Value.builtin "list.__getattribute__") _ _) _ _ _);refine call_meets F.slot_list_getattribute (hT _) am_entry_list_getattribute (F.args_list_getattribute_2 _ _) (meets_getattribute_miss_list a xs k sl "keys" _ zA (by decide +kernel) (by decide +kernel)) ⟨hx,hA,λh' tk' e hx'=>?_⟩)|wp_step))
 obtain⟨t',u',he⟩:=hx'.there;show Tu _ _ (getattributeRaised _ _ _ _ _ _ _) _ _ _;unfold getattributeRaised
 repeat (any_goals (first|assumption|wp_step))
 exact h _ _ _ hx'.of
theorem DZ{prog:Ti}{w:Th}{A:Ts}{E:bq}{s:Tg}{a:Td}{o:Obj}{xs:eD}{k:Nat}{Q:Option S9->cQ}
  (hx:s.heap.get? a=some o) (hc:o.cls=.type "list") (hdat:o.data=.seq xs k) (hd:o.dict=none) (hA:A.handled=none)
  (h:∀h' tk,(∀b o,s.heap.get? b=some o->h'.get? b=some o)->Q none {s with heap:=h',toks:=tk}):
  Tu (model prog w) A (getAttr? (.ref a) "keys") Q E s:=by
 obtain⟨hp,g,d,tk,os⟩:=s;have f1:=sub_AttributeError;unfold getAttr? getAttrBy?;refine TH (wpAny_mkText ?_);refine TH (UJ (Gi (s:=⟨hp,g,d,tk+1,os⟩) hx hc hdat hd hA λh' tk' e ne=>?_));obtain⟨ob,vs,e1,e2,_⟩:=ne.there;refine TH (UK (s:=⟨h',g,d,tk',os⟩) ⟨ob,e1,e2⟩ f1 ?_);exact TF (h h' tk' ne.keeps)
noncomputable abbrev Keeps(h0 h:Tl):Prop:=∀b o,h0.get? b=some o->h.get? b=some o
section
variable{prog:Ti}{w:Th}{A:Ts}{E:bq}{K:Type}[DecidableEq K]{knd:HeapKind prog w K}{d:Td}{h0:Tl}
noncomputable def DI(knd:HeapKind prog w K)(h0:Tl)(d:Td)(h:Tl)(xs:List (K×Td×S9)):Prop:=
 (∃o es ep,h.get? d=some o/\o.ExactDict/\o.data=.dict es ep/\es.toList=xs.map (entryOfKey knd)/\(xs.map (·.1)).Nodup)/\∀x∈xs,∀h,Keeps h0 h->knd.is h x.1 x.2.1
theorem DI.dict{h:Tl}{xs:List (K×Td×S9)}(x:DI knd h0 d h xs)(k:Keeps h0 h):h.DictOfH knd d xs:=by
 obtain⟨⟨o,es,ep,h1,h2,h3,h4,h5⟩,h6⟩:=x;exact⟨o,es,ep,h1,h2,h3,h4,λy hy=>h6 y hy h k,h5⟩
theorem DI.stay{h h':Tl}{xs:List (K×Td×S9)}(x:DI knd h0 d h xs)(k:∀o,h.get? d=some o->h'.get? d=some o):DI knd h0 d h' xs:=by
 obtain⟨⟨o,es,ep,h1,r⟩,h6⟩:=x;exact⟨⟨o,es,ep,k o h1,r⟩,h6⟩
theorem mem_storedH{xs:List (K×Td×S9)}{k:K}{a:Td}{v:S9}{x:K×Td×S9}(h:x∈storedH xs k a v):(∃y∈xs,y.1=x.1/\y.2.1=x.2.1)\/(x.1=k/\x.2.1=a):=by
 unfold storedH at h;split at h
 ·obtain⟨y,hy,rfl⟩:=List.mem_map.mp h;refine .inl ⟨y,hy,?_⟩;unfold putAt;split<;>exact⟨rfl,rfl⟩
 ·rcases List.mem_append.mp h with z|z
  ·exact .inl ⟨x,z,rfl,rfl⟩
  ·rw[Rc]at z;subst z;exact .inr ⟨rfl,rfl⟩
theorem DI.put{h h':Tl}{xs:List (K×Td×S9)}{k:K}{a:Td}{v:S9}(x:DI knd h0 d h xs)(hk:∀h,Keeps h0 h->knd.is h k a)(dd:h'.DictOfH knd d (storedH xs k a v)):DI knd h0 d h' (storedH xs k a v):=by
 obtain⟨o,es,ep,h1,h2,h3,h4,_,h5⟩:=dd;refine⟨⟨o,es,ep,h1,h2,h3,h4,h5⟩,λy hy g kg=>?_⟩;rcases mem_storedH hy with⟨z,hz,e1,e2⟩|⟨e1,e2⟩
 ·rw[<-e1,<-e2];exact x.2 z hz g kg
 ·rw[e1,e2];exact hk g kg
theorem vG(xs:List (K×Td×S9))(k:K)(a:Td)(v:S9):(storedH xs k a v).length<=xs.length+1:=by
 unfold storedH;split
 ·rw[Pa];omega
 ·simp
theorem uU:entryFor table "dict.update.loop"=some Builtin.«dict.update.loop»:=entryFor_of_tree (by kernel_rfl)
theorem mF:plainId "dict.update.loop"=true:=by decide +kernel
theorem yX{R:Result->cQ}{I:Td}{fp wr:ax}{P:Nat->S9->Prop}{St:Nat->Tl->Prop}{L:List (K×Td×S9)}(W:Walks prog w A.in1 I fp wr L.length P St)(hwr:∀b∈wr,h0.get? b=none)(hdn:h0.get? d=none)(hdf:d∉fp)
  (hn:L.length<=Tn) (hu:knd.room A.in1) (hP:∀i v,P i v->∃x t,L[i]?=some x/\v=.ref t/\∀h,Keeps h0 h->h.IsTuple t #[.ref x.2.1,x.2.2]) (hK:∀x∈L,∀h,Keeps h0 h->knd.is h x.1 x.2.1) (res:S9):
  ∀(m i:Nat)(s:Tg)(xs:List (K×Td×S9))(j:Int)(u:Tok),i+m=L.length->St i s.heap->Keeps h0 s.heap->DI knd h0 d s.heap xs->xs.length<=i->
  (∀h' tk,Keeps h0 h'->DI knd h0 d h' ((L.drop i).foldl (λxs x=>storedH xs x.1 x.2.1 x.2.2) xs)->R (.ok (.ret res)) {s with heap:=h',toks:=tk})->
  TZ (model prog w) A (.builtin "dict.update.loop" ⟨[.ref d,.ref I,.int j u,res],[]⟩) R s:=by
 have hdw:d∉wr:=λh=>hdf (W.sub _ h);intro m
 induction m with
 |zero=>
  intro i s xs j u hi st kp di hl hR;have hin:i=L.length:=by omega
  subst hin;refine codeAny_builtin uU ?_;rw[Around.under_plainId mF _];show Tu _ A.in1 (pyNext (.ref I) >>= _) _ _ s;refine TH (W.done s _ _ st λh' tk hk=>?_);refine TH (TF (TF ?_))
  have:=hR h' tk (λb o q=>hk b o (λz=>by have:=hwr b z;rw[q]at this;cases this) (kp b o q)) (by
   rw[Qs,Ri];exact di.stay λo q=>hk d o hdw q)
  exact this
 |succ m ih=>
  intro i s xs j u hi st kp di hl hR;refine codeAny_builtin uU ?_;rw[Around.under_plainId mF _];show Tu _ A.in1 (pyNext (.ref I) >>= _) _ _ s;refine TH (W.item i s _ _ ‹0› st λv h' tk hv st' hk=>?_);obtain⟨x,t,hx,rfl,ht⟩:=hP i v hv;have kp':Keeps h0 h':=λb o q=>hk b o (λz=>by have:=hwr b z;rw[q]at this;cases this) (kp b o q);obtain⟨o,ho,hc,n,hd⟩:=ht h' kp';have xm:x∈L:=Pu hx;refine TH (Uh (TH (wpAny_tryCatch ?_)));unfold Builtin.Dict.pairItems;refine TH (Uk (T:="tuple") ⟨o,ho,hc⟩ ?_);rw[if_pos (by decide)];refine TH (Uy ho hd (TF ?_));show Tu _ _ (holding [.ref x.2.1,x.2.2] (dictSet d (.ref x.2.1) x.2.2)) _ _ _;have di':DI knd h0 d h' xs:=di.stay λo q=>hk d o hdw q;refine Uh (wpAny_dictSet_heap (s:={s with heap:=h',toks:=tk}) (hsz:=by omega) hu (hK x xm h' kp') (di'.dict kp') λh2 dd sb=>?_);have kp2:Keeps h0 h2:=λb o q=>(sb.2 b (λz=>by rw[z,hdn]at q;cases q)).trans (kp' b o q);refine TF ⟨plainId_quiet mF _,?_⟩;refine ih (i+1) _ (storedH xs x.1 x.2.1 x.2.2) (j+1) 0 ‹0› (W.frame _ _ _ st' λb hb o q=>(sb.2 b (λz=>hdf (by rw[<-z];exact hb))).trans q) kp2 (di'.put (hK x xm) dd) (by have:=vG xs x.1 x.2.1 x.2.2;omega) λh3 tk3 kp3 di3=>?_;refine hR h3 tk3 kp3 ?_;have e:L.drop i=x::L.drop (i+1):=by
   have hil:i<L.length:=(by omega);rw[Qp hil];rw[Qd hil]at hx;rw[Option.some.inj hx]
  rw[e,QL];exact di3
theorem p9{s:Tg}{Q:bq}{l:Td}{o:Obj}{items:eD}{n:Nat}{L:List (K×Td×S9)}(ho:s.heap.get? l=some o)(hc:o.cls=.type "list")(hd:o.data=.seq items n)(hdd:o.dict=none)(hh:A.handled=none)(hu:knd.room A.in1.in1)
  (hl:items.size=L.length) (hn:L.length<=Tn) (hP:∀(i:Nat) v,items[i]?=some v->∃x t,L[i]?=some x/\v=.ref t/\s.heap.IsTuple t #[.ref x.2.1,x.2.2]) (hK:∀x∈L,∀h,Keeps s.heap h->knd.is h x.1 x.2.1)
  (hQ:∀h' tk,Keeps s.heap h'->DI knd s.heap s.heap.objs.size h' (L.foldl (λxs x=>storedH xs x.1 x.2.1 x.2.2) [])->Q (.ref s.heap.objs.size) {s with heap:=h',toks:=tk}):
  Tu (model prog w) A (call (.type "dict") [.ref l]) Q E s:=by
 refine callType_codes (Q₁:=λobj s₁=>obj=.ref s.heap.objs.size/\s₁={s with heap:=s.heap.push {cls:=.type "dict",data:=.dict #[]}}) F.kt_called_dict (F.kt_typeCall_dict_1 _) F.entry_dict_init (kt_code_dict_new _ ⟨rfl,rfl⟩) ?_;rintro obj s₁ ⟨rfl,rfl⟩;have hnew:(s.heap.push {cls:=.type "dict",data:=.dict #[]}).DictOfH knd s.heap.objs.size []:=Heap.DictOfH.new s.heap;have hlt:=Sx ho;have hl1:(s.heap.push {cls:=.type "dict",data:=.dict #[]}).get? l=some o:=SA _ ho;refine⟨hnew.typeIs,F.args_dict_init_2 _ _,?_⟩;unfold Builtin.«dict.__init__»;refine TH ?_;unfold Builtin.Dict.selfAndRest;refine TH (UV hnew.typeIs ?_);show Tu _ _ (pure (s.heap.objs.size,[Value.ref l])) _ _ _;refine TF ?_;show Tu _ _ (Builtin.Dict.updateFrom "dict.__init__" s.heap.objs.size (.ref l) [] .none) _ _ _;unfold Builtin.Dict.updateFrom;refine TH (Uk (T:="list") ⟨o,hl1,hc⟩ ?_);rw[if_pos (by decide)];refine TH (DZ hl1 hc hd hdd hh λh1 tk1 k1=>?_);rw[if_pos (show(none:Option S9).isNone=true from rfl)];refine TH (Uv ?_);have hd1:h1.get? s.heap.objs.size=some {cls:=.type "dict",data:=.dict #[]}:=k1 _ _ (SD _ rfl);have hl2:h1.IsList l items:=⟨o,k1 _ _ hl1,hc,n,hd⟩
 have dlt:=Sx hd1;refine TH (TJ (s:={s with heap:=h1,toks:=tk1}) hl2 ?_);refine TF ⟨plainId_quiet mF _,?_⟩;have W:=Walks.list (prog:=prog) (w:=w) (A:=A.in1.in1) hh h1.objs.size l (OO (PQ hlt dlt)) items;rw[hl]at W;refine yX (A:=A.in1) (knd:=knd) (h0:=s.heap) (d:=s.heap.objs.size) W (λb hb=>?_) (Sy (O1 _)) (λz=>?_) hn hu (λi v hv=>?_) hK .none L.length 0 _ [] 0 0 ‹0› ?_ (λb o q=>?_) ⟨⟨_,#[],0,SA _ hd1,⟨rfl,rfl,rfl⟩,rfl,rfl,PR⟩,λx hx=>by simp at hx⟩ (O1 _) λh' tk kp di=>?_
 ·rw[Rc]at hb;subst hb;exact Sy (OS dlt)
 ·simp only[Qv,Qw,or_false]at z;rcases z with z|z
  ·exact absurd z (OO dlt)
  ·exact absurd z.symm (OO hlt)
 ·obtain⟨x,t,e1,e2,e3⟩:=hP i v hv;obtain⟨ob,q1,q2⟩:=e3;exact⟨x,t,e1,e2,λh kh=>⟨ob,kh _ _ q1,q2⟩⟩
 ·exact⟨⟨_,SD _ rfl,rfl,rfl⟩,let ⟨ob,q1,q2⟩:=hl2;⟨ob,SA _ q1,q2⟩⟩
 ·exact SA _ (k1 _ _ (SA _ q))
 ·exact⟨rfl,hQ h' tk kp di⟩
end
noncomputable def v8:D->Option (List Key×D)
 |.tup [k,v]=>(eF k).map λq=>(q,v)
 |_=>none
noncomputable def gQ:List D->Option (bV)
 |[]=>some []
 |d::r=>(v8 d).bind λp=>(gQ r).map (p::·)
noncomputable def yQ(ps:bV):bV:=ps.foldl (λal p=>fw al p.1 p.2) []
noncomputable def jB:List D->bF
 |[.lst xs]=>(gQ xs).bind λps=>if small ps.length then some (bD (yQ ps))else none
 |_=>none
theorem CT{d:D}{p:List Key×D}(h:v8 d=some p):d=.tup [.tup (p.1.map aY),p.2]:=by
 unfold v8 at h;split at h
 ·rename_i k v;cases e:eF k with
  |none=>rw[e]at h;cases h
  |some q=>rw[e]at h;cases h;rw[jj e]
 ·cases h
theorem tH:∀{xs:List D}{ps:bV},gQ xs=some ps->xs=ps.map λp=>.tup [.tup (p.1.map aY),p.2]
 |[],_,h=>by cases h;rfl
 |d::r,ps,h=>by
  unfold gQ at h;cases e1:v8 d with
  |none=>rw[e1]at h;cases h
  |some p=>
   rw[e1]at h;cases e2:gQ r with
   |none=>rw[e2]at h;cases h
   |some ps'=>rw[e2]at h;cases h;rw[CT e1,tH e2];rfl
section
variable{X:Cx}
theorem sE{pins:bc}{σ:St}{H:Hp}{s:Tg}{O:ax}(I:L2.Inv X pins σ H s):∀{ps:bV}{ws:aK}{its:aU},aI X.K (hid H O) (ps.map λp=>.tup [.tup (p.1.map aY),p.2]) ws->Vals ws its->
  ∃(L:List (List Key×Td×S9))(ks:List (List Key×V)),its.length=L.length/\(∀(i:Nat)(v:S9),its[i]?=some v->∃(x:List Key×Td×S9)(t:Td),L[i]?=some x/\v=.ref t/\s.heap.IsTuple t #[.ref x.2.1,x.2.2])/\KT H ks L/\ks.map (·.1)=ps.map (·.1)/\aI X.K (hid H O) (ps.map (·.2)) (ks.map (·.2))
 |[],ws,its,h,r=>by
  rw[PF,cw]at h;subst h;cases r;exact⟨[],[],rfl,(λi v e=>by simp at e),.nil,rfl,cw.mpr rfl⟩
 |p::ps,ws,its,h,r=>by
  rw[O9,bb]at h;obtain⟨w,ws',rfl,h1,h2⟩:=h;cases r with
  |@cons _ u _ us ru rr=>
   obtain⟨L,ks,l1,l2,l3,l4,l5⟩:=sE I h2 rr;obtain⟨t,vs,rfl,t1,t2⟩:=bW.mp h1;obtain⟨v1,v2,rfl,d1,d2⟩:=t2.two;obtain⟨a,ks1,rfl,a1,a2⟩:=bW.mp d1;rw[fG a2]at a1;obtain⟨its',r',⟨o,q1,q2⟩,_⟩:=I.tuple (bK (K:=X.K) (aq H O) t1);obtain⟨x1,x2,rfl,rx1,rx2⟩:=vals2 r';cases rx1;obtain rfl:u=Value.ref t:=ru;refine⟨(p.1,a,x2)::L,(p.1,v2)::ks,by rw[O8,O8,l1],λi v e=>?_,.cons ⟨rfl,(aq H O) _ _ a1,rx2⟩ l3,by rw[O9,O9,l4],bb.mpr ⟨v2,_,rfl,d2,l5⟩⟩;cases i with
   |zero=>
    have e:Value.ref t=v:=(by simpa using e);subst e;exact⟨_,t,rfl,rfl,o,q1,q2⟩
   |succ i=>exact l2 i v (by simpa using e)
theorem vK{K:RY}{H:Hp}{H0:Hp}:∀{ps:bV}{ks:List (List Key×V)}{L:List (List Key×Td×S9)}{al:bV}{kvs:List (List Key×V)}{xs:List (List Key×Td×S9)},KT H ks L->ks.map (·.1)=ps.map (·.1)->aI K H0 (ps.map (·.2)) (ks.map (·.2))->
  KT H kvs xs->kvs.map (·.1)=al.map (·.1)->aI K H0 (al.map (·.2)) (kvs.map (·.2))->
  KT H (ks.foldl (λm p=>putK m p.1 p.2) kvs) (L.foldl (λxs x=>storedH xs x.1 x.2.1 x.2.2) xs)/\(ks.foldl (λm p=>putK m p.1 p.2) kvs).map (·.1)=(ps.foldl (λal p=>fw al p.1 p.2) al).map (·.1)/\
   aI K H0 ((ps.foldl (λal p=>fw al p.1 p.2) al).map (·.2)) ((ks.foldl (λm p=>putK m p.1 p.2) kvs).map (·.2))/\(ks.foldl (λm p=>putK m p.1 p.2) kvs).length<=kvs.length+ks.length
 |[],[],_,al,kvs,xs,.nil,_,_,h1,h2,h3=>⟨h1,h2,h3,by simp⟩
 |p::ps,q::ks,_,al,kvs,xs,.cons (b:=x) hq hr,e,d,h1,h2,h3=>by
  rw[O9,O9]at e;injection e with e1 e2;rw[O9,O9,bb]at d;obtain⟨v,vs,d0,d1,d2⟩:=d;injection d0 with d0 d0';subst d0 d0';obtain⟨y1,y2,y3⟩:=hq;have z1:=KT.put h1 q.1 y2 y3;rw[y1]at z1;have z2:=vd h2 q.1 q.2 p.2;have z3:=yh (k:=q.1) d1 h2 h3
  have:=vK (kvs:=putK kvs q.1 q.2) (al:=fw al q.1 p.2) (xs:=storedH xs x.1 x.2.1 x.2.2) hr e2 d2 (by rw[y1];exact z1) z2 z3
  rw[QL,QL,QL,<-e1];refine⟨this.1,this.2.1,this.2.2.1,OQ this.2.2.2 ?_⟩
  have:=ic kvs q.1 q.2
  rw[O8];omega
 |[],_::_,_,_,_,_,_,e,_,_,_,_=>by cases e
 |_::_,[],_,_,_,_,_,e,_,_,_,_=>by cases e
theorem wY(hc:X.calm=true)(hu:X.A.units+64<T5):dS X (.type "dict") (xj X.K jB):=by
 rintro pins s σ H xs us Q I r ⟨O,ds,d,hO,hd,hg,q⟩;unfold jB at hg;split at hg
 ·rename_i ys;cases hp:gQ ys with
  |none=>rw[hp]at hg;cases hg
  |some ps=>
   rw[hp]at hg;obtain⟨sm,rfl⟩:=bA (show(if small ps.length then some (bD (yQ ps))else none)=some d from hg);obtain⟨v,rfl,h1⟩:=hd.one;obtain⟨p,ws,rfl,g1,g2⟩:=bX.mp h1;obtain⟨u,rfl,ru⟩:=vals1 r;cases ru;obtain⟨its,rv,⟨o,n,ho,hcl,hd',hdd⟩,hz⟩:=I.list ((aq H O).seq g1);rw[tH hp]at g2;obtain⟨L,ks,l1,l2,l3,l4,l5⟩:=sE I g2 rv;have kl:ks.length=ps.length:=(by have:=congrArg List.length l4;simpa using this);have ll:ks.length=L.length:=Paired.length l3;have key:∀{ks:List (List Key×V)}{L:List (List Key×Td×S9)},KT H ks L->∀x∈L,∀h,Keeps s.heap h->(tupleKind (bP X.prog X.w)).is h x.1 x.2.1:=λ{ks L} kt=>by
    induction kt with
    |nil=>intro x hx;cases hx
    |cons hq _ ih=>
     intro x hx h kh;rcases List.mem_cons.mp hx with z|z
     ·subst z;obtain⟨e1,e2,_⟩:=hq;rw[e1]at e2;obtain⟨o,xs,n,k1,k2⟩:=lL I.hok e2;exact⟨o,xs,n,kh _ _ k1,k2⟩
     ·exact ih x z h kh
   obtain⟨f1,f2,f3,f4⟩:=vK (K:=X.K) (H:=H) (H0:=hid H O) (al:=[]) (kvs:=[]) (xs:=[]) l3 l4 l5 .nil rfl (cw.mpr rfl);have hsz:ps.length<=100000:=of_decide_eq_true sm;have sl:Tn=16777216:=TY;refine p9 (knd:=tupleKind (bP X.prog X.w)) (L:=L) ho hcl hdd hd' (I.ok.hd hc) (Us (by rw[in1_units];omega)) (by simpa using l1) ‹0› (λi v e=>l2 i v (by simpa using e)) (key l3) λh' tk kp di=>?_;have hf:=I.hok.fresh (O1 s.heap.objs.size);obtain⟨⟨od,es,ep,k1,k2,k3,k4,k5⟩,_⟩:=di;have kt':KT (upd H s.heap.objs.size (.dT (ks.foldl (λm p=>putK m p.1 p.2) []))) (ks.foldl (λm p=>putK m p.1 p.2) []) (L.foldl (λxs x=>storedH xs x.1 x.2.1 x.2.2) []):=KT.keeps f1 λb ys eb=>by rw[ao (λz=>by rw[z,hf]at eb;cases eb)];exact eb
   refine⟨.ref s.heap.objs.size,_,I.laid (t':=tk) kp (O1 _) (show b7 X.prog X.w _ h' _ (.dT (ks.foldl (λm p=>putK m p.1 p.2) []))from⟨by simp only[PN]at f4;omega,beq_eq_false_iff_ne.mpr (Ne.symm (OO I.big)),_,kt',od,es,ep,k1,k2,k3,k4,k5⟩),rfl,?_⟩;refine q _ _ (bj hf _) ?_;have pO:=hO.not hf;refine Ls.mpr ⟨s.heap.objs.size,_,rfl,f3.mono (tX hf),.inr (.inl ⟨_,by rw[gh pO];exact av,uc f2,rfl⟩)⟩
 ·cases hg
end
noncomputable def GQ(H:Hp)(a:Td)(y:V)(r:Option V):Prop:=wg H a y r\/(H a=some (.dK [])/\r=none/\∃b k,y=.ref b/\H b=some (.tup (List.map kV k)))
noncomputable def iw(al:bV)(q:cP):bF:=(al.find? λp=>decide (p.1=q)).map (·.2)
noncomputable def lZ(ks ds:List D)(k x:D):bF:=(iA ks ds).bind λal=>(eF k).bind λq=>some ((iw al q).getD x)
noncomputable def iE(fo fk fx:FX):FX:=λρ=>(fo ρ).bind λdd=>match dd with
 |.dct ks ds=>(fk ρ).bind λk=>(fx ρ).bind λx=>rO (lZ ks ds k x)
 |_=>un
theorem qa{K:RY}{H:Hp}{v:V}{al:bV}(h:cq K H (bD al) v):
  ∃a,v=.ref a/\((∃kvs:List (List Key×V),H a=some (.dT kvs)/\kvs.map (·.1)=al.map (·.1)/\aI K H (al.map (·.2)) (kvs.map (·.2)))\/(H a=some (.dK [])/\al=[])):=by
 obtain⟨a,vs,e0,h2,h3⟩:=Ls.mp h;refine⟨a,e0,?_⟩;rcases h3 with⟨kvs,e,e1,e2⟩|⟨kvs,e,e1,e2⟩|⟨kvs,o,e,e1,e2⟩
 rotate_left 2
 ·cases al with
  |nil=>cases e1
  |cons _ _=>injection e1 with e1 _;cases e1
 ·cases kvs with
  |nil=>exact .inr ⟨e,by simpa using e1⟩
  |cons p r=>
   cases al with
   |nil=>cases e1
   |cons q r'=>
    have e1:D.tup (q.1.map aY)::encK r'=aY p.1::r.map (λp=>aY p.1):=e1;injection e1 with e1 _;rcases p with⟨k,v⟩
    cases k<;>cases e1
 ·refine .inl ⟨kvs,e,?_,by rw[<-e2];exact h2⟩;exact(jV (ks:=kvs.map (·.1)) (by rw[QW];exact e1)).symm
theorem pP{K:RY}{H:Hp}(q:cP):∀{kvs:List (List Key×V)}{al:bV},kvs.map (·.1)=al.map (·.1)->aI K H (al.map (·.2)) (kvs.map (·.2))->(gz kvs q=none/\iw al q=none)\/∃v d,gz kvs q=some v/\iw al q=some d/\cq K H d v
 |[],[],_,_=>.inl ⟨rfl,rfl⟩
 |p::r,a::al,e,h=>by
  rw[O9,O9]at e;injection e with e1 e2;rw[O9,O9,bb]at h;obtain⟨v,ws,h0,h1,h2⟩:=h;injection h0 with h0 h0';subst h0 h0';by_cases z:p.1=q
  ·refine .inr ⟨p.2,a.2,iP z,?_,h1⟩;unfold iw;rw[Rj (by rw[<-e1];simpa using z)];rfl
  ·have ih:=pP q e2 h2;have g:iw (a::al) q=iw al q:=by
    unfold iw;rw[Rl (by rw[<-e1];simpa using z)]
   rw[gV z,g];exact ih
 |[],_::_,e,_=>by cases e
 |_::_,[],e,_=>by cases e
theorem wz{ks ds:List D}{k x d:D}(h:lZ ks ds k x=some d):∃al q,ks=encK al/\ds=al.map (·.2)/\k=.tup (q.map aY)/\d=(iw al q).getD x:=by
 unfold lZ at h;cases e1:iA ks ds with
 |none=>rw[e1]at h;cases h
 |some al=>
  rw[e1]at h;cases e2:eF k with
  |none=>rw[e2]at h;cases h
  |some q=>
   rw[e2]at h;cases h;obtain⟨h1,h2⟩:=fY e1;exact⟨al,q,h1,h2,jj e2,rfl⟩
section
variable{X:Cx}{o e f:Te}{apos cpos:Pos}
theorem Gf{pins:bc}{σ:St}{H:Hp}{s:Tg}{a:Td}{y d:V}{u r:S9}{w:Option V}{A:Ts}{E:bq}{Q:bq}(hu:A.units+1<T5)(I:L2.Inv X pins σ H s)(g:GQ H a y w)(ry:RelV y u)(rd:RelV d r)(h:∀w' s',L2.Inv X pins σ H s'->RelV (w.getD d) w'->Q w' s'):
  Tu (model X.prog X.w) A (call (.builtin "dict.get") [.ref a,u,r]) Q E s:=by
 rcases g with g|⟨h1,rfl,b,k,rfl,hb⟩
 ·exact Bh hu I g ry rd h
 ·have ne:b≠a:=λz=>by rw[z,h1]at hb;cases hb
  refine Bh (o:=gz [] k) hu (zU I h1) (wg.t av (by rw[ao ne];exact hb)) ry rd λw' s' I4 rw'=>h w' s' ?_ rw';have I5:=IW I4 av;rw[vj h1]at I5;exact I5
noncomputable def Fb(td ty tx:TE):TE:=λσ H Q=>td σ H λx H1=>∃a,x=.ref a/\Nt H1 a/\ty σ H1 λy H2=>tx σ H2 λz H3=>∃o,GQ H3 a y o/\Q (o.getD z) H3
theorem zk{td ty tx:TE}(hu:X.A.units+1<T5)(ho:PE X o td)(he:PE X e ty)(hf:PE X f tx)(m:M2 X o "get" apos e f cpos):PE X (.Call (.Attribute o "get" apos) [e,f] [] cpos) (Fb td ty tx):=by
 intro pins s σ H Q I h;refine wpAny_Call_method m.base m.few m.line PySem.F.plainAttrs_dict S6 PySem.F.type_dict_get (cM (ho pins s σ H _ I h) λu s1 ⟨x,H1,I1,rx,a,ex,d,q1⟩=>?_);subst ex;obtain rfl:u=Value.ref a:=rx;obtain⟨t1,t2,_⟩:=G6 I1 d;refine⟨t1,t2,?_⟩;rw[m.trees];refine Calls.callWith_builtin rfl (Calls.evalArgs_plain (Calls.spliced_cons (cM (he pins s1 σ H1 _ I1 q1) λiv s2 ⟨y,H2,I2,ry,q2⟩=>
  Calls.spliced_cons (cM (hf pins s2 σ H2 _ I2 q2) λfv s3 ⟨z,H3,I3,rz,ov,g,q3⟩=>Calls.spliced_nil ?_))))
 exact Gf hu I3 g ry rz λw' s4 I4 rw'=>⟨_,H3,I4,rw',q3⟩
end
noncomputable def cY(x y:D):bF:=match y with
 |.dct ks ds=>(jH ks ds x).bind pH
 |_=>none
section
variable{X:Cx}
theorem sO(hu:X.A.units+64<T5):iG X (TR .NotIn) (rD X.K cY):=by
 rintro pins s σ H x y u v Q I rx ry ⟨O,a,b,d,hO,ha,hb,hg,q⟩;cases b with
 |dct ks ds=>
  have hg:(jH ks ds a).bind pH=some d:=hg;cases e0:jH ks ds a with
  |none=>rw[e0]at hg;cases hg
  |some d0=>
  rw[e0]at hg;obtain⟨al,qk,f1,f2,f3,f4⟩:=xt e0;subst f1 f2 f3 f4;cases hg;obtain⟨p,ey,hh⟩:=qa hb;obtain⟨c,ws,ex,g1,g2⟩:=bW.mp ha;rw[fG g2]at g1;have g1':=(aq H O) _ _ g1;subst ex ey;cases ry;rcases hh with⟨kvs,k1,k2,k3⟩|⟨k1,rfl⟩
  ·have hv:=Cy k2 qk;rw[QX]at hv;refine yP ‹0› I (wg.t ((aq H O) _ _ k1) g1') rx λs3 I3=>⟨.bl (!(gz kvs qk).isSome),H,I3,rfl,q _ H (aR.refl H) (js.mpr ?_)⟩
   rw[hv];rfl
  ·have k1':=(aq H O) _ _ k1;have ne:c≠p:=λz=>by rw[z,k1']at g1';cases g1'
   refine yP (o:=gz [] qk) ‹0› (zU I k1') (wg.t av (by rw[ao ne];exact g1')) rx λs3 I4=>⟨.bl true,H,?_,rfl,q _ H (aR.refl H) (js.mpr rfl)⟩
   have I5:=IW I4 av;rw[vj k1']at I5;exact I5
 |_=>cases hg
end
end TG
namespace TG
open PySem PySem.Spec L2
variable[aA]
end TG
namespace TG
open PySem PySem.Spec L2
variable[aA]
end TG
namespace TG
open PySem PySem.Spec L2
variable[aA]
end TG
namespace TG
open PySem PySem.Spec PySem.Calls L2
section
variable{prog:Ti}{w:Th}{K:Type}[DecidableEq K]{knd:HeapKind prog w K}{A:Ts}{E:bq}{s:Tg}{d a:Td}{k:K}{xs:List (K×Td×S9)}
theorem vR{v:S9}{Q:bq}(hu:knd.room A)(hkey:knd.is s.heap k a)(hm:s.heap.DictOfH knd d xs)(hsz:xs.length<=Tn)
  (h1:∀p,atKey xs k=some p->Q p.2 {s with toks:=s.toks+knd.draws k})
  (h2:atKey xs k=none->∀h',h'.DictOfH knd d (storedH xs k a v)->Sz d s.heap h'->Q v {s with heap:=h',toks:=s.toks+knd.draws k}):
  Tu (model prog w) A (dictSetDefault d (.ref a) v) Q E s:=by
 obtain⟨o,es,ep,ho,hc,hd,he,his,hn⟩:=hm;unfold dictSetDefault
 try with_reducible refine Uh ?_
 refine TH (knd.pyHash hu hkey (TH (wpAny_dictFind_heap (s:={s with toks:=s.toks+knd.draws k}) hu hkey ho hd he his hn (λhno=>?_) λj p hj=>?_)))
 ·have hnone:=atKey_none_of_get hno;refine TH (Uv (TH (wpAny_updateDictKeys (hz:=by have e:=size_of_entries he;omega) (s:={s with toks:=s.toks+knd.draws k}) ho hd (TF (h2 hnone _ ⟨_,_,ep+1,SF _ ho (Obj.isFreed_of_dict (Obj.data_mapDictKeys hd _)),hc.mapDictKeys _,Obj.data_mapDictKeys hd _,?_,?_,?_⟩ (Heap.SameBut.update ..))))))
  ·rw[storedH_new hnone];simp[he,entryOfKey]
  ·rw[storedH_new hnone];intro x hx;rcases List.mem_append.mp hx with hx|hx
   ·exact knd.keeps (his x hx) ho hd (Heap.SameBut.update ..)
   ·rw[Rc]at hx;subst hx;exact knd.keeps hkey ho hd (Heap.SameBut.update ..)
  ·rw[storedH_new hnone,Qk,QG];refine⟨hn,by simp,λx hx y hy=>?_⟩;simp only[O9,PF,Rc]at hy;subst hy;exact λe=>not_mem_keys_of_get hno (e ▸ hx)
 ·refine TH (UW (s:={s with toks:=s.toks+knd.draws k}) ho hd ?_);rw[entry_at he j,hj];exact TH (Uv (TF (h1 p (atKey_of_get hn hj))))
theorem uK{v:S9}{Q:bq}(hu:knd.room A.in1)(hkey:knd.is s.heap k a)(hm:s.heap.DictOfH knd d xs)(hsm:(d==sysModules)=false)(hsz:xs.length<=Tn)
  (h1:∀p,atKey xs k=some p->Q p.2 {s with toks:=s.toks+knd.draws k})
  (h2:atKey xs k=none->∀h',h'.DictOfH knd d (storedH xs k a v)->Sz d s.heap h'->Q v {s with heap:=h',toks:=s.toks+knd.draws k}):
  Tu (model prog w) A (call (.builtin "dict.setdefault") [.ref d,.ref a,v]) Q E s:=by
 refine Uj PySem.F.slot_dict_setdefault hm.typeIs PySem.F.entry_dict_setdefault ?_ (PySem.F.args_dict_setdefault_3 _ _ _);unfold Builtin.«dict.setdefault»;refine TH ?_;unfold Builtin.Dict.keyAndDefault;refine TH (UV hm.typeIs ?_);show Tu _ _ (pure (d,Value.ref a,some v)) _ _ s;refine TF ?_;show Tu _ _ (if(d==sysModules)=true then _ else(dictSetDefault d (.ref a) v >>= _)) _ _ s;rw[if_neg (by rw[hsm];exact O7)];exact TH (vR hu hkey hm hsz (λp hp=>TF ⟨_,rfl,h1 p hp⟩) λhn h' hm' hs'=>TF ⟨_,rfl,h2 hn h' hm' hs'⟩)
end
theorem Aq{o:Option V}{w:S9}(h:oU o (some w)):∃v,o=some v/\RelV v w:=by
 cases o with
 |none=>exact h.elim
 |some v=>exact⟨v,rfl,h⟩
theorem y9{o:Option V}(h:oU o none):o=none:=by
 cases o with
 |none=>rfl
 |some v=>exact h.elim
section
variable{X:Cx}{pins:bc}{σ:St}{H:Hp}{s:Tg}{a b:Td}{v:V}{r:S9}{kvs:List (List Key×V)}{k:cP}{A:Ts}{E:bq}
theorem uH{Q:bq}(hu:A.units+1<T5)(I:Inv X pins σ H s)(e:H a=some (.dT kvs))(eb:H b=some (.tup (k.map kV)))(hl:kvs.length<Tn)(rv:RelV v r)
  (h1:∀v' w' s',gz kvs k=some v'->Inv X pins σ H s'->RelV v' w'->Q w' s') (h2:gz kvs k=none->∀s',Inv X pins σ (upd H a (.dT (putK kvs k v))) s'->Q r s'):
  Tu (model X.prog X.w) A (call (.builtin "dict.setdefault") [.ref a,.ref b,r]) Q E s:=by
 obtain⟨z,hd,xs,rel,dd⟩:=GC I.hok e;have hz:xs.length<=Tn:=by rw[<-Paired.length rel];exact z
 have hl2:(putK kvs k v).length<=Tn:=by have:=ic kvs k v;omega
 have q:=rel.val k;refine uK (Us hu) (lL I.hok eb) dd hd hz (λp hp=>?_) λhn h' dd' hs=>?_
 ·rw[hp]at q;obtain⟨v',ev,rv'⟩:=Aq q;exact h1 v' _ _ ev (I.tok _) rv'
 ·rw[hn]at q;refine h2 (y9 q) _ ?_;obtain⟨q,es,ep,hq,g2,g3,g4,_,g5⟩:=dd';refine li I (by rw[e];exact True.intro) hs ⟨q,hq⟩ ⟨hl2,hd,_,(rel.put k eb rv).keeps λc ys ec=>?_,q,es,ep,hq,g2,g3,g4,g5⟩;rw[ao (A9 ec e (λz=>nomatch z))];exact ec
end
variable[aA]
noncomputable def Km:V->aK->Hp->VK->Prop:=λx vs H Q=>∃a b k kvs v,x=.ref a/\vs=[.ref b,v]/\H b=some (.tup (k.map kV))/\(H a=some (.dT kvs)\/(H a=some (.dK [])/\kvs=[]))/\kvs.length<Tn/\(∀v',gz kvs k=some v'->Q v' H)/\(gz kvs k=none->Q v (upd H a (.dT (putK kvs k v))))
theorem Ea{X:Cx}(hu:X.A.units+64<T5):Ln X "dict.setdefault" Km:=by
 intro pins s σ H x vs v us Q I rx rv h;obtain⟨a,b,k,kvs,v',rfl,rfl,hb,ha,hl,h1,h2⟩:=h;cases rx;obtain⟨u1,u,rfl,r1,ru⟩:=rv.two;obtain rfl:u1=Value.ref b:=r1;rcases ha with ha|⟨ha,rfl⟩
 ·exact uH ‹0› I ha hb hl ru (λv1 w1 s1 e I1 r=>⟨v1,H,I1,r,h1 v1 e⟩) λe s1 I1=>⟨v',_,I1,ru,h2 e⟩
 ·have ne:b≠a:=λz=>by rw[z,ha]at hb;cases hb
  refine uH ‹0› (zU I ha) av (by rw[ao ne];exact hb) hl ru (λv1 w1 s1 e=>by cases e) λe s1 I1=>⟨v',_,?_,ru,h2 e⟩
  rw[pW]at I1;exact I1
end TG
namespace TG
open PySem PySem.Spec L2
variable[aA]
theorem cX.setN{K:RY}{Hb:Hp}{Ob O O':ax}{H H':Hp}{ρ:aj}{σ:St}(S:cX K Hb Ob O H ρ σ){i:Nat}{d d':D}(hi:ρ[i]?=some (some (.nest d)))(sub:∀b∈O,b∈O')(s:aR (hid H O) (hid H' O'))(hb:Base Hb Ob H' O')(all:dL H' O')
  (keep:∀(j:Nat) xs b,ρ[j]?=some (some (.own xs))->σ[j]?=some (some (.ref b))->H b=H' b) (new:yA K Hb Ob O' H' (ρ.set i (some (.nest d'))) σ i d'):cX K Hb Ob O' H' (ρ.set i (some (.nest d'))) σ:=by
 have own:∀(j:Nat) xs,(ρ.set i (some (.nest d')))[j]?=some (some (.own xs))->ρ[j]?=some (some (.own xs)):=λj xs e=>by
  rcases aH e with⟨_,q⟩|⟨_,q⟩
  ·cases q
  ·exact q
 refine⟨⟨λj d1 e=>?_,λj xs e=>?_,λj l xs ys a e1 e2 e3 e4=>S.env.one j l xs ys a (own j xs e1) (own l ys e2) e3 e4,all⟩,hb,λj xs a e1 e2=>S.mine j xs a (own j xs e1) e2,λj dn e=>?_⟩
 ·rcases aH e with⟨_,q⟩|⟨_,q⟩
  ·cases q
  ·obtain⟨v,q1,q2⟩:=S.env.val j d1 q;exact⟨v,q1,q2.mono s⟩
 ·obtain⟨a,q1,q2,q3⟩:=S.env.own j xs (own j xs e);exact⟨a,q1,sub a q2,q3.mono (keep j xs a (own j xs e) q1) s⟩
 ·rcases aH e with⟨hj,q⟩|⟨ne,q⟩
  ·cases q;rw[hj];exact new
  ·obtain⟨_,_,_,_,_,_,one⟩:=S.nst i d hi;exact absurd (one j dn q) ne
noncomputable def E9:aj->Bool
 |[]=>true
 |some (.nest _)::_=>false
 |_::ρ=>E9 ρ
theorem ji:∀{ρ:aj},E9 ρ=true->∀(j:Nat) d,ρ[j]?≠some (some (.nest d))
 |[],_,j,d,e=>by simp at e
 |none::ρ,h,j,d,e=>by
  cases j with
  |zero=>simp at e
  |succ j=>exact ji (ρ:=ρ) h j d (by simpa using e)
 |some (.val _)::ρ,h,j,d,e=>by
  cases j with
  |zero=>simp at e
  |succ j=>exact ji (ρ:=ρ) h j d (by simpa using e)
 |some (.own _)::ρ,h,j,d,e=>by
  cases j with
  |zero=>simp at e
  |succ j=>exact ji (ρ:=ρ) h j d (by simpa using e)
 |some (.nest _)::ρ,h,j,d,e=>by cases h
theorem cX.setNewN{K:RY}{Hb:Hp}{Ob O:ax}{H H':Hp}{ρ:aj}{σ:St}(E:cX K Hb Ob O H ρ σ){i:Nat}{p:Td}(hi:i<σ.length)(sm:aR H H')(hp:H p=none)(m:∃o,H' p=some o/\oV o)(hn:E9 ρ=true)(new:cx K H' (p::O) p (.dct [] [])):
  cX K Hb Ob (p::O) H' (ρ.set i (some (.nest (.dct [] [])))) (σ.set i (some (.ref p))):=by
 have T:=E.setNew hi sm hp m new;have key:∀(j:Nat)(x:S),(ρ.set i (some (.nest (.dct [] []))))[j]?=some (some x)->(j=i/\x=.nest (.dct [] []))\/(j≠i/\(ρ.set i (some (.own (.dct [] []))))[j]?=some (some x)):=λj x e=>by
  rcases aH e with⟨hj,q⟩|⟨ne,q⟩
  ·cases q;exact .inl ⟨hj,rfl⟩
  ·exact .inr ⟨ne,by rw[OY (Ne.symm ne)];exact q⟩
 refine⟨⟨λj d e=>?_,λj xs e=>?_,λj l xs ys a e1 e2 e3 e4=>?_,T.env.all⟩,T.base,λj xs a e1 e2=>?_,λj dn e=>?_⟩
 ·rcases key j _ e with⟨_,q⟩|⟨_,q⟩
  ·cases q
  ·exact T.env.val j d q
 ·rcases key j _ e with⟨_,q⟩|⟨_,q⟩
  ·cases q
  ·exact T.env.own j xs q
 ·rcases key j _ e1 with⟨_,q⟩|⟨_,q1⟩
  ·cases q
  ·rcases key l _ e2 with⟨_,q⟩|⟨_,q2⟩
   ·cases q
   ·exact T.env.one j l xs ys a q1 q2 e3 e4
 ·rcases key j _ e1 with⟨_,q⟩|⟨_,q⟩
  ·cases q
  ·exact T.mine j xs a q e2
 ·rcases key j _ e with⟨hj,q⟩|⟨ne,q⟩
  ·cases q;subst hj;refine⟨p,[],OX hi,⟨[],trivial,?_⟩,by simp,λb hb=>?_,λl d' w=>?_⟩
   ·obtain⟨o,vs,h1,h2,h3⟩:=new;rcases h3 with⟨kvs,e1,e2,_⟩|⟨kvs,e1,e2,_⟩
    ·have:kvs=[]:=(by cases kvs with|nil=>rfl|cons _ _=>cases e2);subst this e1;exact .inr (.inr ⟨rfl,rfl,h1⟩)
    ·have:kvs=[]:=(by cases kvs with|nil=>rfl|cons _ _=>cases e2);subst this e1;exact .inr (.inl ⟨[],rfl,h1,rfl⟩)
   ·rw[List.mem_singleton.mp hb];refine⟨OU,E.base.same.free hp,λz=>E.env.all.not hp (E.base.sub p z),λl d' w z=>?_⟩;rcases key l _ w with⟨_,q⟩|⟨nl,q⟩
    ·cases q
    ·exact nl (T.env.one l j d' (.dct [] []) p q (OX (by
      have:=(List.getElem?_eq_some_iff.mp e).1
      rw[List.length_set]at this;exact this)) z (OX hi))
   ·rcases key l _ w with⟨hl,_⟩|⟨nl,q⟩
    ·exact hl
    ·rw[OY (Ne.symm nl)]at q;exact absurd q (ji hn l d')
  ·rw[OY (Ne.symm ne)]at q;exact absurd q (ji hn j dn)
noncomputable def vB(i:Nat):bI:=λk ρ=>if E9 ρ then k.nx (ρ.set i (some (.nest (.dct [] []))))else un
theorem iH.den{K:RY}{H:Hp}{O O':ax}(s:aR (hid H O) (hid H O')):∀{bs:ax}{xs:List D},iH K H O bs xs->(∀b∈bs,b∉O')->aI K (hid H O') xs (bs.map .ref)
 |[],[],_,_=>cw.mpr rfl
 |b::bs,x::xs,h,n=>bb.mpr ⟨_,_,rfl,h.1.den s (n b OU),iH.den s h.2 λb' hb=>n b' (OV _ hb)⟩
 |[],_::_,h,_=>h.elim
 |_::_,[],h,_=>h.elim
theorem iH.nil{K:RY}{H:Hp}{O:ax}{xs:List D}(h:iH K H O [] xs):xs=[]:=by
 cases xs with
 |nil=>rfl
 |cons _ _=>exact h.elim
theorem pZ.den{K:RY}{H:Hp}{O O':ax}{a:Td}{bs:ax}{d:D}(h:pZ K H O a bs d)(s:aR (hid H O) (hid H O'))(n:∀b∈a::bs,b∉O'):cq K (hid H O') d (.ref a):=by
 obtain⟨xs,h1,h2⟩:=h;have g:=h1.den s λb hb=>n b (OV _ hb);have na:=n a OU;rcases h2 with⟨rfl,q⟩|⟨kvs,rfl,q,e⟩|⟨rfl,rfl,q⟩
 ·exact bX.mpr ⟨a,_,rfl,lT.of (by rw[gh na];exact q),g⟩
 ·exact Ls.mpr ⟨a,_,rfl,g,.inr (.inl ⟨kvs,by rw[gh na];exact q,rfl,e.symm⟩)⟩
 ·have:=h1.nil
  subst this;exact Ls.mpr ⟨a,_,rfl,g,.inl ⟨[],by rw[gh na];exact q,rfl,rfl⟩⟩
noncomputable def frzN(i:Nat)(ρ:aj):aj:=match ρ[i]? with
 |some (some (.nest d))=>setV i d ρ
 |_=>ρ
theorem cX.frzN{K:RY}{Hb:Hp}{Ob O:ax}{H:Hp}{ρ:aj}{σ:St}(E:cX K Hb Ob O H ρ σ)(i:Nat):∃O',cX K Hb Ob O' H (frzN i ρ) σ:=by
 unfold TG.frzN;split
 ·rename_i d hd;obtain⟨a,bs,h1,h2,h3,h4,h5⟩:=E.nst i d hd;have sub:∀b∈O.filter (λb=>decide (b∉a::bs)),b∈O:=λb hb=>(List.mem_filter.mp hb).1;have s:aR (hid H O) (hid H (O.filter λb=>decide (b∉a::bs))):=fg sub;have na:∀b∈a::bs,b∉O.filter λb=>decide (b∉a::bs):=λb hb z=>(of_decide_eq_true (List.mem_filter.mp z).2) hb;have bk:∀(l:Nat) x,(TG.setV i d ρ)[l]?=some (some x)->(∀d,x≠.val d)->ρ[l]?=some (some x):=λl x e nv=>by
   rcases aH e with⟨_,q⟩|⟨_,q⟩
   ·cases q;exact absurd rfl (nv _)
   ·exact q
  refine⟨O.filter λb=>decide (b∉a::bs),⟨λj d' e=>?_,λj xs e=>?_,λj l xs ys b e1 e2 e3 e4=>E.env.one j l xs ys b (bk j _ e1 (λ_ z=>nomatch z)) (bk l _ e2 (λ_ z=>nomatch z)) e3 e4,⟨E.env.all.1,λb hb=>E.env.all.2 b (sub b hb)⟩⟩,⟨E.base.same,λb hb=>?_,λb hb=>E.base.new b (sub b hb)⟩,λj xs b e1 e2=>E.mine j xs b (bk j _ e1 (λ_ z=>nomatch z)) e2,λj dn e=>?_⟩
  ·rcases aH e with⟨hj,q⟩|⟨ne,q⟩
   ·cases q;rw[hj];exact⟨.ref a,h1,h2.den s na⟩
   ·obtain⟨w,q1,q2⟩:=E.env.val j d' q;exact⟨w,q1,q2.mono s⟩
  ·obtain⟨b,q1,q2,q3⟩:=E.env.own j xs (bk j _ e (λ_ z=>nomatch z));refine⟨b,q1,List.mem_filter.mpr ⟨q2,decide_eq_true λz=>?_⟩,q3.mono rfl s⟩;exact(h4 b z).2.2.2 j xs (bk j _ e (λ_ z=>nomatch z)) q1
  ·exact List.mem_filter.mpr ⟨E.base.sub b hb,decide_eq_true λz=>(h4 b z).2.2.1 hb⟩
  ·have q:=bk j _ e (λ_ z=>nomatch z);have hj:=h5 j dn q;subst hj;rcases aH e with⟨_,q⟩|⟨ne,_⟩
   ·cases q
   ·exact absurd rfl ne
 ·exact⟨O,E⟩
noncomputable def vD(i:Nat)(F:bI):bI:=λk ρ=>F k (frzN i ρ)
end TG
namespace TG
open PySem PySem.Spec L2
variable[aA]
noncomputable def qY:bV->cP->D->Option (bV)
 |[],q,v=>some [(q,.lst [v])]
 |p::r,q,v=>if p.1=q then(match p.2 with
   |.lst ys=>if small (ys.length+1)then some ((p.1,.lst (ys++[v]))::r)else none
   |_=>none)else(qY r q v).map (p::·)
noncomputable def uR(ks xs:List D)(k v:D):Option (bV):=(iA ks xs).bind λal=>(eF k).bind λq=>if small al.length then qY al q v else none
theorem zP{ks ds:List D}{k v:D}{al':bV}(h:uR ks ds k v=some al'):∃al q,ks=encK al/\ds=al.map (·.2)/\k=.tup (q.map aY)/\small al.length=true/\qY al q v=some al':=by
 unfold uR at h;cases e1:iA ks ds with
 |none=>rw[e1]at h;cases h
 |some al=>
  rw[e1]at h;cases e2:eF k with
  |none=>rw[e2]at h;cases h
  |some q=>
   rw[e2]at h;obtain⟨h3,h4⟩:=rK (show(if small al.length then qY al q v else none)=some al' from h);exact⟨al,q,(fY e1).1,(fY e1).2,jj e2,h3,h4⟩
theorem iH.imp{K:RY}{H H':Hp}{O O':ax}:∀{bs:ax}{xs:List D},iH K H O bs xs->(∀c∈bs,∀x,cx K H O c x->cx K H' O' c x)->iH K H' O' bs xs
 |[],[],_,_=>trivial
 |b::bs,x::xs,h,f=>⟨f b OU x h.1,iH.imp h.2 λc hc=>f c (OV _ hc)⟩
 |[],_::_,h,_=>h.elim
 |_::_,[],h,_=>h.elim
theorem iH.snoc{K:RY}{H:Hp}{O:ax}{b:Td}{x:D}(hx:cx K H O b x):∀{bs:ax}{xs:List D},iH K H O bs xs->iH K H O (bs++[b]) (xs++[x])
 |[],[],_=>⟨hx,trivial⟩
 |b'::bs,x'::xs,h=>⟨h.1,iH.snoc hx h.2⟩
 |[],_::_,h=>h.elim
 |_::_,[],h=>h.elim
theorem ue{K:RY}{H:Hp}{O:ax}{q:cP}{v:D}:∀{al al':bV}{kvs:List (List Key×V)}{bs:ax},kvs.map (·.1)=al.map (·.1)->kvs.map (·.2)=bs.map .ref->iH K H O bs (al.map (·.2))->bs.Nodup->qY al q v=some al'->
  (∃b ys,gz kvs q=some (.ref b)/\b∈bs/\cx K H O b (.lst ys)/\small (ys.length+1)=true/\al'.map (·.1)=al.map (·.1)/\∀H' O',(∀c∈bs,c≠b->∀x,cx K H O c x->cx K H' O' c x)->cx K H' O' b (.lst (ys++[v]))->iH K H' O' bs (al'.map (·.2))) \/
  (gz kvs q=none/\al'=al++[(q,.lst [v])])
 |[],al',kvs,bs,e1,e2,h,nd,g=>by
  cases kvs with
  |cons _ _=>cases e1
  |nil=>cases g;exact .inr ⟨rfl,rfl⟩
 |p::al,al',kvs,bs,e1,e2,h,nd,g=>by
  cases kvs with
  |nil=>cases e1
  |cons p' kvs=>
   cases bs with
   |nil=>cases e2
   |cons b bs=>
    rw[O9,O9]at e1 e2;injection e1 with f1 f2;injection e2 with f3 f4;obtain⟨n1,n2⟩:=List.nodup_cons.mp nd;have h:cx K H O b p.2/\iH K H O bs (al.map (·.2)):=h;unfold qY at g;by_cases eq:p.1=q
    ·rw[if_pos eq]at g;left;split at g
     ·rename_i ys hp;obtain⟨g1,g2⟩:=bA g;subst g2;rw[hp]at h;refine⟨b,ys,by rw[iP (f1.trans eq),f3],OU,h.1,g1,rfl,λH' O' oth new=>⟨new,h.2.imp λc hc=>oth c (OV _ hc) λz=>n1 (by rw[<-z];exact hc)⟩⟩
     ·cases g
    ·rw[if_neg eq]at g;cases g2:qY al q v with
     |none=>rw[g2]at g;cases g
     |some al2=>
      rw[g2]at g;cases g;rcases ue f2 f4 h.2 n2 g2 with⟨c,ys,w1,w2,w3,w4,w5,w6⟩|⟨w1,w2⟩
      ·refine .inl ⟨c,ys,by rw[gV (by rw[f1];exact eq)];exact w1,OV _ w2,w3,w4,by rw[O9,O9,w5],λH' O' oth new=>⟨oth b OU (λz=>n1 (by rw[z];exact w2)) _ h.1,w6 H' O' (λc' hc=>oth c' (OV _ hc)) new⟩⟩
      ·exact .inr ⟨by rw[gV (by rw[f1];exact eq)];exact w1,by rw[w2];rfl⟩
theorem sI{kvs:List (List Key×V)}{q:cP}{v:V}(h:gz kvs q=none):putK kvs q v=kvs++[(q,v)]:=by
 unfold putK;rw[pJ,h];rfl
noncomputable def z8(i:Nat)(fk fv:FX):bI:=λk ρ=>match ρ[i]? with
 |some (some (.nest (.dct ks xs)))=>((wc (fk ρ)).bind λq=>(wc (fv ρ)).bind λv=>rO (uR ks xs q v)).bind λal=>k.nx (ρ.set i (some (.nest (bD al))))
 |_=>un
theorem Af{i:Nat}{fk fv:FX}{k:Ks}{ρ:aj}{r:R D}(h:z8 i fk fv k ρ=r)(hr:r≠un):∃al q v al',ρ[i]?=some (some (.nest (bD al)))/\fk ρ=.ok (.tup (q.map aY))/\fv ρ=.ok v/\small al.length=true/\qY al q v=some al'/\k.nx (ρ.set i (some (.nest (bD al'))))=r:=by
 unfold z8 at h;split at h
 ·rename_i ks xs hi;cases e1:fk ρ with
  |error z=>rw[e1]at h;exact absurd h.symm hr
  |ok qd=>
   rw[e1]at h;cases e2:fv ρ with
   |error z=>rw[e2]at h;exact absurd h.symm hr
   |ok v=>
    rw[e2]at h;have h':(rO (uR ks xs qd v)).bind (λal=>k.nx (ρ.set i (some (.nest (bD al)))))=r:=h;clear h;cases e3:uR ks xs qd v with
    |none=>rw[e3]at h';exact absurd h'.symm hr
    |some al'=>
     rw[e3]at h';obtain⟨al,q,f1,f2,f3,f4,f5⟩:=zP e3;subst f1 f2 f3;exact⟨al,q,v,al',hi,rfl,rfl,f4,f5,h'⟩
 ·exact absurd h.symm hr
theorem pG{K:RY}{H:Hp}{O:ax}{a:Td}{bs:ax}{al:bV}(h:pZ K H O a bs (bD al)):∃kvs:List (List Key×V),(H a=some (.dT kvs)\/(H a=some (.dK [])/\kvs=[]))/\kvs.map (·.1)=al.map (·.1)/\kvs.map (·.2)=bs.map .ref/\iH K H O bs (al.map (·.2)):=by
 obtain⟨xs,h1,h2⟩:=h;rcases h2 with⟨e,_⟩|⟨kvs,e,q,e2⟩|⟨e,e2,q⟩
 ·cases e
 ·injection e with f1 f2;subst f2;refine⟨kvs,.inl q,?_,e2,h1⟩;exact(jV (ks:=kvs.map (·.1)) (by rw[QW];exact f1)).symm
 ·injection e with f1 f2;subst f2 e2
  have:al=[]:=by
   cases al with
   |nil=>rfl
   |cons _ _=>cases f1
  subst this;exact⟨[],.inr ⟨q,rfl⟩,rfl,rfl,h1⟩
end TG
namespace TG
open PySem PySem.Spec L2
section
variable{prog:Ti}{w:Th}{A:Ts}{E:bq}{s:Tg}{it d v:Td}{i ep:Nat}{o:Obj}{es:Array UX}{ok ov:S9}
theorem xM{Q:bq}(ho:s.heap.get? d=some o)(hx:o.ExactDict)(hd:(d==sysModules)=false)(h:Q (.ref s.heap.objs.size) {s with heap:=s.heap.push {cls:=.type "dict_items",data:=.fields #[.ref d]}}):
  Tu (model prog w) A (call (.builtin "dict.items") [.ref d]) Q E s:=by
 refine Uj PySem.F.slot_dict_items ⟨o,ho,hx.1⟩ PySem.F.entry_dict_items ?_ (PySem.F.args_dict_items_1 _);unfold Builtin.«dict.items»;refine TH ?_;unfold Builtin.Dict.noArgs;refine TH (UV ⟨o,ho,hx.1⟩ ?_);show Tu _ _ (pure d) _ _ s;refine TF ?_;show Tu _ _ (Builtin.Dict.showsAll d >>= _) _ _ s;unfold Builtin.Dict.showsAll;rw[if_neg (by rw[hd];exact O7)];exact TH (TF (TH (Ul (TF ⟨_,rfl,h⟩))))
theorem wv{Q:bq}(hv:s.heap.IsItemsView v d)(ho:s.heap.get? d=some o)(hdat:o.data=.dict es ep)
  (hQ:Q (.ref s.heap.objs.size) {s with heap:=s.heap.push {cls:=.type "dict_itemiterator",data:=.fields #[.none,.bool false,.ref d,.int 0 0,.int es.size 0,.int ep 0,.none,.none]}}):Tu (model prog w) A (pyIter (.ref v)) Q E s:=by
 obtain⟨w1,hov,hcv,hdv⟩:=id hv;refine wpAny_pyIter_slot hv.typeIs F.slot_dict_items_iter (Uj F.slot_dict_items_iter hv.typeIs F.entry_dict_items_iter ?_ (F.args_dict_items_iter_1 _));unfold Builtin.«dict_items.__iter__»;refine TH (TF (TH ?_));unfold Builtin.Dict_items.dictOf;refine TH (Ug hov hdv (x:=.ref d) rfl (TF (TH ?_)));unfold Builtin.Dict_items.newIterator;refine TH (UW ho hdat (TH (UY ho hdat ?_)));simp only[show Builtin.Dict_items.ownsTuple "dict_itemiterator"=true by decide,if_true];refine Ul (TF ⟨_,rfl,"dict_itemiterator",_,⟨_,SD _ rfl,rfl⟩,F.slot_dict_itemiterator_next.lookup,?_⟩) (by simp only[sizeOk,Builtin.Dict_items.ownedTupleFields,O6,Pw,O8,PN,TY];omega)
 simpa [rawInt,Builtin.Dict_items.ownedTupleFields]using hQ
theorem wt{Q:Option S9->cQ}(hit:UZ s.heap it d i es.size ep ok ov)(hod:s.heap.get? d=some o)(hdd:o.data=.dict es ep)(hlt:i<es.size)
  (hQ:∀ h',U0 h' it d (i+1) es.size ep es[i].key es[i].val s.heap.objs.size->h'.get? s.heap.objs.size=some { cls:=.type "tuple",data:=.seq #[es[i].key,es[i].val] }->h'.objs.size=s.heap.objs.size+1 ->
   (∀b o,b≠it->s.heap.get? b=some o->h'.get? b=some o)->Q (some (.ref s.heap.objs.size)) {s with heap:=h'}):Tu (model prog w) A (pyNext (.ref it)) Q E s:=by
 obtain⟨hp,g,dr,tk,os⟩:=s;have hT:Shared.TypeIs ⟨hp,g,dr,tk,os⟩ (.ref it) "dict_itemiterator":=⟨_,hit,rfl⟩
 unfold pyNext;refine TH (UJ (Ui (name:=Str.ofString "__next__") hT F.slot_dict_itemiterator_next (Uj F.slot_dict_itemiterator_next hT F.entry_dict_itemiterator_next ?_ (F.args_dict_itemiterator_next_1 _))));refine TH (TF (TH (TH ?_)));first|refine TH (U1 hT (TF ?_))|refine TH (U2 hT (TF ?_))
 refine TH (U3 hit rfl ?_);have hown:Builtin.Dict_items.ownsTuple "dict_itemiterator"=true:=by decide
 simp only[hown,if_true];show Tu _ _ (if(Value.ref d==Value.none)=true then _ else _) _ _ _;rw[if_neg (show¬((Value.ref d==Value.none)=true)from O7)];refine TH (TF (TH (UW hod hdd ?_)));rw[if_neg (by simp)];refine TH (TF (TH (UY hod hdd ?_)));rw[if_neg (by simp)];refine TF ?_;simp only[show¬((i:Int)<0)from by omega,if_false,Px,Array.getElem?_eq_getElem hlt];refine TH ?_;first|refine TH (U1 hT (TF ?_))|refine TH (U2 hT (TF ?_))
 refine TH (U4 hT ?_);show Tu _ _ (setField (.ref it) 3 (rawInt ((i:Int)+1)) >>= _) _ _ ⟨hp,g,dr,tk,os⟩;refine TH (UD hit (by simp) λh₁ he₁ hs₁=>?_);replace hs₁:Sz it hp h₁:=hs₁
 replace he₁:UZ h₁ it d (i+1) es.size ep ok ov:=by
  have e:((i+1:Nat):Int)=(i:Int)+1:=by omega
  unfold UZ;rw[e];simpa [rawInt]using he₁
 have hT₁:Shared.TypeIs ⟨h₁,g,dr,tk,os⟩ (.ref it) "dict_itemiterator":=⟨_,he₁,rfl⟩
 refine TH (Uh (TH (U4 hT₁ (TH (U4 hT₁ ?_)))));show Tu _ _ (Builtin.Dict_items.pairFromOwner (.ref it) 6 es[i].key es[i].val) _ _ ⟨h₁,g,dr,tk,os⟩;unfold Builtin.Dict_items.pairFromOwner;refine TH (UI ?_);have he₂:UZ (h₁.push {cls:=.type "tuple",data:=.seq #[es[i].key,es[i].val]}) it d (i+1) es.size ep ok ov:=SA _ he₁;generalize hh₂:h₁.push {cls:=.type "tuple",data:=.seq #[es[i].key,es[i].val]}=h₂ at he₂;have hz₁:h₁.objs.size=hp.objs.size:=hs₁.1;have hil:it<hp.objs.size:=Sx hit;have ht₂:h₂.get? hp.objs.size=some {cls:=.type "tuple",data:=.seq #[es[i].key,es[i].val]}:=by rw[<-hh₂,<-hz₁];exact SD _ rfl
 have hz₂:h₂.objs.size=hp.objs.size+1:=by rw[<-hh₂,SE,hz₁]
 have hk₂:∀b o,b≠it->hp.get? b=some o->h₂.get? b=some o:=λb o hb e=>by rw[<-hh₂];exact SA _ (hs₁.extBut b o hb e)
 show Tu _ _ (Builtin.Dict_items.ownedTupleIsFree (.ref it) >>= _) _ _ ⟨h₂,g,dr,tk,os⟩;rw[hz₁];clear hh₂ he₁ hs₁ hT₁ hz₁ h₁;refine TH ?_;unfold Builtin.Dict_items.ownedTupleIsFree;refine TH (Ug he₂ rfl (x:=.none) rfl (TF ?_));simp only[if_true];refine TH (Ug he₂ rfl (x:=ok) rfl (TH (Ug he₂ rfl (x:=ov) rfl ?_)));refine TH (UD he₂ (by simp) λh₃ he₃ hs₃=>?_);replace hs₃:Sz it h₂ h₃:=hs₃
 replace he₃:UZ h₃ it d (i+1) es.size ep es[i].key ov:=he₃
 refine TH (UD he₃ (by simp) λh₄ he₄ hs₄=>?_);replace hs₄:Sz it h₃ h₄:=hs₄
 replace he₄:UZ h₄ it d (i+1) es.size ep es[i].key es[i].val:=he₄
 refine TH (UD he₄ (by simp) λh₅ he₅ hs₅=>?_);replace hs₅:Sz it h₄ h₅:=hs₅
 replace he₅:U0 h₅ it d (i+1) es.size ep es[i].key es[i].val hp.objs.size:=he₅
 refine TH (UD he₅ (by simp) λh₆ he₆ hs₆=>?_);replace hs₆:Sz it h₅ h₆:=hs₆
 replace he₆:U0 h₆ it d (i+1) es.size ep es[i].key es[i].val hp.objs.size:=he₆
 refine TH (UH (TF (TF ⟨_,rfl,TF (hQ h₆ he₆ ?_ ?_ ?_)⟩)))
 ·have n:=OZ hil;exact hs₆.extBut _ _ n (hs₅.extBut _ _ n (hs₄.extBut _ _ n (hs₃.extBut _ _ n ht₂)))
 ·show h₆.objs.size=hp.objs.size+1;rw[hs₆.1,hs₅.1,hs₄.1,hs₃.1,hz₂]
 ·exact λb o hb e=>hs₆.extBut b o hb (hs₅.extBut b o hb (hs₄.extBut b o hb (hs₃.extBut b o hb (hk₂ b o hb e))))
theorem zy{Q:Option S9->cQ}(hh:A.handled=none)(hit:UZ s.heap it d i es.size ep ok ov)(hod:s.heap.get? d=some o)(hdd:o.data=.dict es ep)(hge:es.size<=i)
  (hQ:∀h',SG it s.heap h'->Q none {s with heap:=h'}):Tu (model prog w) A (pyNext (.ref it)) Q E s:=by
 have hT:s.TypeIs (.ref it) "dict_itemiterator":=⟨_,hit,rfl⟩
 unfold pyNext;refine TH (UJ (Ui (name:=Str.ofString "__next__") hT F.slot_dict_itemiterator_next (Uj F.slot_dict_itemiterator_next hT F.entry_dict_itemiterator_next ?_ (F.args_dict_itemiterator_next_1 _))));refine TH (TF (TH (TH ?_)));first|refine TH (U1 hT (TF ?_))|refine TH (U2 hT (TF ?_))
 refine TH (U3 hit rfl ?_);have hown:Builtin.Dict_items.ownsTuple "dict_itemiterator"=true:=by decide
 simp only[hown,if_true];show Tu _ _ (if(Value.ref d==Value.none)=true then _ else _) _ _ s;rw[if_neg (show¬((Value.ref d==Value.none)=true)from O7)];refine TH (TF (TH (UW hod hdd ?_)));rw[if_neg (by simp)];refine TH (TF (TH (UY hod hdd ?_)));rw[if_neg (by simp)];refine TF ?_;simp only[show¬((i:Int)<0)from by omega,if_false,Px,Array.getElem?_eq_none hge];refine TH ?_;first|refine TH (U1 hT (TF ?_))|refine TH (U2 hT (TF ?_))
 show Tu _ _ (setField (.ref it) 2 .none >>= _) _ _ s;refine TH (Uz hit rfl (by simp) ?_);show Tu _ _ (newExc (.type "StopIteration") [] >>= _) _ _ _;refine TH ?_;simp only[newExc,newTuple];refine TH (Ul ?_ (by size_fits));refine TH (m:=firstArgMember _ _) (wpAny_of_eq (a:=Value.none) (by first|rfl|(simp only[firstArgMember];rfl)) ?_);refine Ul ?_ (by size_fits);simp only[raiseNew];refine TH (UA ?_);rw[show A.in1.handled=none from hh];refine TH (TF (wpAny_throw ?_));refine TH (UK (T:="StopIteration") (b:=true) ⟨_,SD _ rfl,rfl⟩ UL ?_);exact TF (hQ _ (((Heap.SameBut.update ..).extBut.push _).push _))
end
variable[aA]
noncomputable abbrev vc(al:bV):D:=.dct (.non::encK al) (al.map (·.2))
theorem wy{X:Cx}{pins:bc}{σ:St}{H:Hp}{s:Tg}{a:Td}{o:Obj}{kvs:List (List Key×V)}(I:Inv X pins σ H s)(e:H a=some (.frz o (.dT kvs))):s.heap.get? a=some o/\o.ExactDict/\(a==sysModules)=false/\∃es ep xs,o.data=.dict es ep/\KT H kvs xs/\es.toList=xs.map (entryOfKey (tupleKind (bP X.prog X.w))):=by
 obtain⟨ho,z,hd,xs,rel,o',es,ep,h1,h2,h3,h4,h5⟩:=(show b7 X.prog X.w H s.heap a (.frz o (.dT kvs))from I.hok a _ e)
 rw[ho]at h1;cases h1;exact⟨ho,h2,hd,es,ep,xs,h3,rel,h4⟩
noncomputable def L3(a:Td)(o:Obj)(kvs:List (List Key×V)):It:=
  ⟨fun i H=>H a=some (.frz o (.dT kvs))/\i < kvs.length,
   λi H v H'=>∃p b q w,v=.ref p/\H p=none/\H'=upd H p (.tup [.ref b,w])/\kvs[i]?=some (q,w)/\H b=some (.tup (q.map kV)),
   λi H=>H a=some (.frz o (.dT kvs))/\i=kvs.length⟩
theorem qm{α β:Type}{R:α->β->Prop}:∀{xs:List α}{ys:List β},Tj R xs ys->∀{i:Nat}{x:α},xs[i]?=some x->∃y,ys[i]?=some y/\R x y:=λh=>by
 induction h with
 |nil=>intro i x e;simp at e
 |cons hq _ ih=>
  intro i x e;cases i with
  |zero=>rw[Qx]at e;cases e;exact⟨_,rfl,hq⟩
  |succ i=>rw[Qy]at e ⊢;exact ih e
theorem xB{P:Ti}{w:Th}{K:RY}{es':bz}{k:Nat}{pos:Pos}{a it:Td}{o:Obj}{es:Array UX}{ep:Nat}{kvs:List (List Key×V)}(hda:o.data=.dict es ep):Turn P w K (.Tuple es' k pos) (L3 a o kvs) [it] it (λi h=>∃ok ov,UZ h it a i es.size ep ok ov)where
 mem:=by simp
 obj:=λi h ⟨ok,ov,hz⟩ c hc=>by rw[List.mem_singleton.mp hc];exact⟨_,hz,λv q=>by cases q⟩
 keep:=λi h h' ⟨ok,ov,hz⟩ kp=>⟨ok,ov,kp it (by simp) _ hz⟩
 item:=by
  rintro X hP hw hK hc i pins s σ H E I hf ⟨ok,ov,hit⟩ ⟨ha,hi⟩;subst hP hw hK;obtain⟨ho,hx,_,es2,ep2,xs,h3,rel,h4⟩:=wy I ha;rw[hda]at h3;cases h3;have hl:es.size=xs.length:=by rw[<-Array.length_toList,h4,Pa]
  have hkl:kvs.length=xs.length:=Paired.length rel;have hlt:i<es.size:=by omega
  obtain⟨x,ex,f1,f2,f3⟩:=qm rel (i:=i) (x:=kvs[i]) (by simp[hi]);have ee:es[i]=entryOfKey (tupleKind (bP X.prog X.w)) x:=by
   have:es.toList[i]?=some (entryOfKey (tupleKind (bP X.prog X.w)) x):=(by rw[h4,Pr,ex];rfl);rw[Array.getElem?_toList,Array.getElem?_eq_getElem hlt]at this;exact Option.some.inj this
  refine wt hit ho hda hlt λh' out tp sz kp=>⟨_,rfl,wpAny_letOwnedTupleGo_items out λh2 hit2 sb=>?_⟩
  have hpz:s.heap.objs.size≠it:=OZ (Sx hit);have tp2:=sb.extBut _ _ hpz tp;rw[ee]at tp2;have I':Inv X pins σ (upd H s.heap.objs.size (.tup [.ref x.2.1,kvs[i].2])) {s with heap:=h2}:=Inv.turnedL (ch:=[it]) (t':=s.toks) I hf (λc u hc e=>by
   have hc:c≠it:=(by simpa using hc);exact sb.extBut _ _ hc (kp c u hc e)) (O1 _) ⟨by show 2<=Tn;decide,[.ref x.2.1,x.2.2],.cons rfl (.cons f3 .nil),_,tp2,rfl,_,rfl⟩
  refine⟨.ref s.heap.objs.size,_,I',rfl,⟨_,x.2.1,kvs[i].1,kvs[i].2,rfl,I.fresh,rfl,by simp[hi],f2⟩,⟨_,_,hit2⟩,λc hc=>?_⟩;rw[List.mem_singleton.mp hc,ao (Ne.symm hpz)];exact(hf it (by simp)).1
 done:=by
  rintro X hP hw hK hc i pins s σ H E I hf ⟨ok,ov,hit⟩ ⟨ha,hi⟩;subst hP hw hK;obtain⟨ho,hx,_,es2,ep2,xs,h3,rel,h4⟩:=wy I ha;rw[hda]at h3;cases h3;have hl:es.size=xs.length:=by rw[<-Array.length_toList,h4,Pa]
  have hkl:kvs.length=xs.length:=Paired.length rel;exact zy (I.ok.hd hc) hit ho hda ‹0› λh' eb=>⟨rfl,Inv.turned0 (ch:=[it]) I hf λc u hc e=>eb c u (by simpa using hc) e⟩
 self:=λ_ _ _ _ _ ⟨_,_,hz⟩ h=>PySem.W.kcp_self hz h
theorem uC{K:RY}{H:Hp}:∀q:cP,aI K H (q.map aY) (q.map kV)
 |[]=>cw.mpr rfl
 |k::q=>bb.mpr ⟨kV k,_,rfl,by cases k with|inl i=>exact eM.mpr rfl|inr x=>exact eN.mpr rfl,uC q⟩
noncomputable abbrev je(p:List Key×D):D:=.tup [.tup (p.1.map aY),p.2]
theorem wm{K:RY}{Hd:Hp}{a:Td}{o:Obj}{kvs:List (List Key×V)}{al:bV}(h:Hd a=some (.frz o (.dT kvs)))(e1:kvs.map (·.1)=al.map (·.1))(e2:aI K Hd (al.map (·.2)) (kvs.map (·.2))):Walk K Hd (L3 a o kvs) (al.map je):=λHn O' i hO sm=>by
 have s':aR Hd Hn:=sm.trans (aq Hn O');have hl:kvs.length=al.length:=by have:=congrArg List.length e1;simpa using this
 refine⟨λd e=>?_,λhl'=>⟨s' _ _ h,by rw[hl',Pa,hl]⟩⟩;rw[Pr]at e;cases ep:al[i]? with
 |none=>rw[ep]at e;cases e
 |some p=>
  rw[ep]at e;cases e;have hi:i<al.length:=(List.getElem?_eq_some_iff.mp ep).1;refine⟨⟨s' _ _ h,by omega⟩,λx H2 ⟨c,b,q,w,ex,hc,eH,ek,hb⟩=>?_⟩;subst ex eH;have k1:q=p.1:=by
   have:=congrArg (λl=>l[i]?) e1
   simp only[Pr,ek,ep]at this;exact Option.some.inj this
  obtain⟨w',ew,dw⟩:=e2.get (i:=i) (d:=p.2) (by rw[Pr,ep];rfl);rw[Pr,ek]at ew;cases ew;subst k1;have bO:b∉O':=λz=>by
   obtain⟨u,q1,q2⟩:=hO.2 b z;rw[hb]at q1;cases q1;exact q2
  exact⟨bj hc _,dY hO hc (bb.mpr ⟨.ref b,_,rfl,bW.mpr ⟨b,_,rfl,by rw[gh bO];exact hb,uC p.1⟩,bb.mpr ⟨w,_,rfl,dw.mono sm,cw.mpr rfl⟩⟩)⟩
noncomputable def wC:D->Option (List D)
 |.dct (.non::ks) ds=>(iA ks ds).map λal=>al.map je
 |_=>none
noncomputable def mJ(f:FX):bC:=λρ=>(f ρ).bind λd=>rO (wC d)
theorem vw{K:RY}{H:Hp}{v:V}{al:bV}(h:cq K H (vc al) v):∃a o kvs,v=.ref a/\H a=some (.frz o (.dT kvs))/\kvs.map (·.1)=al.map (·.1)/\aI K H (al.map (·.2)) (kvs.map (·.2)):=by
 obtain⟨a,vs,e0,h2,h3⟩:=Ls.mp h;rcases h3 with⟨kvs,e,e1,e2⟩|⟨kvs,e,e1,e2⟩|⟨kvs,o,e,e1,e2⟩
 ·cases kvs with
  |nil=>cases e1
  |cons p r=>
   injection e1 with e1 _;rcases p with⟨k,v⟩
   cases k<;>cases e1
 ·cases kvs with
  |nil=>cases e1
  |cons p r=>injection e1 with e1 _;cases e1
 ·injection e1 with _ e1;subst e2;exact⟨a,o,kvs,e0,e,(jV (ks:=kvs.map (·.1)) (by rw[QW];exact e1)).symm,h2⟩
theorem cX.frzG{K:RY}{Hb:Hp}{Ob O:ax}{H H':Hp}{ρ:aj}{σ:St}(E:cX K Hb Ob O H ρ σ){i:Nat}{d d':D}(hd:ρ[i]?=some (some (.nest d))){a:Td}{bs:ax}(h1:σ[i]?=some (some (.ref a)))(h4:∀b∈a::bs,b∈O/\Hb b=none/\b∉Ob/\∀(j:Nat) d',ρ[j]?=some (some (.own d'))->σ[j]?≠some (some (.ref b)))(h5:∀(j:Nat) d',ρ[j]?=some (some (.nest d'))->j=i)
  (hH:∀b,b≠a->H' b=H b) (tab:aA.tab H') (dn:aR (hid H O) (hid H' (O.filter λb=>decide (b∉a::bs)))->(∀b∈a::bs,b∉O.filter λb=>decide (b∉a::bs))->cq K (hid H' (O.filter λb=>decide (b∉a::bs))) d' (.ref a)):cX K Hb Ob (O.filter λb=>decide (b∉a::bs)) H' (TG.setV i d' ρ) σ:=by
 have sub:∀b∈O.filter (λb=>decide (b∉a::bs)),b∈O:=λb hb=>(List.mem_filter.mp hb).1;have na:∀b∈a::bs,b∉O.filter λb=>decide (b∉a::bs):=λb hb z=>(of_decide_eq_true (List.mem_filter.mp z).2) hb;have aO:=(h4 a OU).1;have s:aR (hid H O) (hid H' (O.filter λb=>decide (b∉a::bs))):=λb u e=>by
  unfold hid at e ⊢;by_cases hb:b∈O
  ·rw[if_pos hb]at e;cases e
  ·rw[if_neg hb]at e;rw[if_neg λz=>hb (sub b z),hH b λz=>hb (by rw[z];exact aO)];exact e
 have bk:∀(l:Nat) x,(TG.setV i d' ρ)[l]?=some (some x)->(∀d,x≠.val d)->ρ[l]?=some (some x):=λl x e nv=>by
  rcases aH e with⟨_,q⟩|⟨_,q⟩
  ·cases q;exact absurd rfl (nv _)
  ·exact q
 refine⟨⟨λj d1 e=>?_,λj xs e=>?_,λj l xs ys b e1 e2 e3 e4=>E.env.one j l xs ys b (bk j _ e1 (λ_ z=>nomatch z)) (bk l _ e2 (λ_ z=>nomatch z)) e3 e4,⟨tab,λb hb=>?_⟩⟩,⟨λb u e=>?_,λb hb=>?_,λb hb=>E.base.new b (sub b hb)⟩,λj xs b e1 e2=>E.mine j xs b (bk j _ e1 (λ_ z=>nomatch z)) e2,λj dn e=>?_⟩
 ·rcases aH e with⟨hj,q⟩|⟨ne,q⟩
  ·cases q;rw[hj];exact⟨.ref a,h1,dn s na⟩
  ·obtain⟨w,q1,q2⟩:=E.env.val j d1 q;exact⟨w,q1,q2.mono s⟩
 ·obtain⟨b,q1,q2,q3⟩:=E.env.own j xs (bk j _ e (λ_ z=>nomatch z));have nb:b∉a::bs:=λz=>(h4 b z).2.2.2 j xs (bk j _ e (λ_ z=>nomatch z)) q1;exact⟨b,q1,List.mem_filter.mpr ⟨q2,decide_eq_true nb⟩,q3.mono (hH b λz=>nb (by rw[z];exact OU)).symm s⟩
 ·rw[hH b λz=>na b (by rw[z];exact OU) hb];exact E.env.all.2 b (sub b hb)
 ·rw[hH b λz=>by rw[z,(h4 a OU).2.1]at e;cases e];exact E.base.same b u e
 ·exact List.mem_filter.mpr ⟨E.base.sub b hb,decide_eq_true λz=>(h4 b z).2.2.1 hb⟩
 ·have q:=bk j _ e (λ_ z=>nomatch z);have hj:=h5 j dn q;subst hj;rcases aH e with⟨_,q⟩|⟨ne,_⟩
  ·cases q
  ·exact absurd rfl ne
theorem Kn{X:Cx}{pins:bc}{σ:St}{H:Hp}{s:Tg}{a:Td}{kvs:List (List Key×V)}(I:Inv X pins σ H s)(h1:H a=some (.dT kvs)):∃o,Inv X pins σ (upd H a (.frz o (.dT kvs))) s:=by
 obtain⟨z,hd,xs,rel,o,es,ep,g1,g2⟩:=(show b7 X.prog X.w H s.heap a (.dT kvs)from I.hok a _ h1)
 refine⟨o,li (ob:=.frz o (.dT kvs)) (h':=s.heap) (t':=s.toks) I (by rw[h1];exact trivial) ⟨rfl,λ_ _=>rfl⟩ ⟨o,g1⟩ ⟨g1,z,hd,xs,KT.keeps rel λb ys eb=>?_,o,es,ep,g1,g2⟩⟩;rw[ao (A9 eb h1 (λz=>nomatch z))];exact eb
noncomputable def JK(i:Nat)(ρ:aj):aj:=match ρ[i]? with
 |some (some (.nest (.dct ks ds)))=>match iA ks ds with
  |some al=>setV i (vc al) ρ
  |none=>ρ
 |_=>ρ
noncomputable def sj(i:Nat)(F:bI):bI:=λk ρ=>F k (JK i ρ)
end TG
namespace TG
open PySem PySem.Spec L2
section
variable{prog:Ti}{w:Th}{A:Ts}{E:bq}{s:Tg}{it d:Td}{i ep:Nat}{o:Obj}{es:Array UX}
theorem An{Q:bq}(hd:(d==sysModules)=false)(ho:s.heap.get? d=some o)(hx:o.ExactDict)(hdat:o.data=.dict es ep)
  (hQ:Q (.ref s.heap.objs.size) {s with heap:=s.heap.push {cls:=.type "dict_keyiterator",data:=.fields #[.ref d,.int 0 0,.int es.size 0,.int ep 0]}}):Tu (model prog w) A (pyIter (.ref d)) Q E s:=by
 have hT:s.TypeIs (.ref d) "dict":=⟨o,ho,hx.1⟩
 refine wpAny_pyIter_slot hT F.slot_dict_iter (Uj F.slot_dict_iter hT F.entry_dict_iter ?_ (F.args_dict_iter_1 _));unfold Builtin.«dict.__iter__»;refine TH ?_;unfold Builtin.Dict.dictSlotNone;refine TH (UV hT ?_);show Tu _ _ (pure (Value.ref d)) _ _ s;refine TF ?_;show Tu _ _ (Builtin.Dict.showsAll d >>= _) _ _ s;unfold Builtin.Dict.showsAll;rw[if_neg (by rw[hd];exact O7)];refine TH (TF (TH (UW ho hdat (TH (UY ho hdat ?_)))));refine TH (Ul (TF ⟨_,rfl,"dict_keyiterator",_,⟨_,SD _ rfl,rfl⟩,F.slot_dict_keyiterator_next.lookup,?_⟩));simpa [rawInt]using hQ
theorem AB{Q:Option S9->cQ}(hit:s.heap.IsKeyIter it d i es.size ep)(hod:s.heap.get? d=some o)(hdd:o.data=.dict es ep)(hlt:i<es.size)
  (hQ:∀h',h'.IsKeyIter it d (i+1) es.size ep->Sz it s.heap h'->Q (some es[i].key) {s with heap:=h'}):Tu (model prog w) A (pyNext (.ref it)) Q E s:=by
 obtain⟨oi,ho,hc,hd⟩:=id hit;unfold pyNext;refine TH (UJ (Ui (name:=Str.ofString "__next__") hit.typeIs F.slot_dict_keyiterator_next (Uj F.slot_dict_keyiterator_next hit.typeIs F.entry_dict_keyiterator_next ?_ (F.args_dict_keyiterator_next_1 _))));refine TH (TF (TH (TH ?_)));first|refine TH (U5 hit.typeIs (TF ?_))|refine TH (U6 hit.typeIs (TF ?_))
 refine TH (U3 ho hd ?_);have hown:Builtin.Dict_items.ownsTuple "dict_keyiterator"=false:=by decide
 simp only[hown,PY,if_false];show Tu _ _ (if(Value.ref d==Value.none)=true then _ else _) _ _ s;rw[if_neg (show¬((Value.ref d==Value.none)=true)from O7)];refine TH (TF (TH (UW hod hdd ?_)));rw[if_neg (by simp)];refine TH (TF (TH (UY hod hdd ?_)));rw[if_neg (by simp)];refine TF ?_;simp only[show¬((i:Int)<0)from by omega,if_false,Px,Array.getElem?_eq_getElem hlt];refine TH ?_;first|refine TH (U5 hit.typeIs (TF ?_))|refine TH (U6 hit.typeIs (TF ?_))
 refine TH (wpAny_isOneOf_keyiter hit.typeIs ?_);show Tu _ _ (setField (.ref it) 1 (rawInt ((i:Int)+1)) >>= _) _ _ s;refine TH (Uz ho hd (by simp) ?_);have hit':(s.heap.update it (Obj.mapFields (·.setIfInBounds 1 (rawInt ((i:Int)+1))))).IsKeyIter it d (i+1) es.size ep:=⟨_,SF _ ho (Obj.isFreed_of_fields (Obj.data_mapFields hd _)),(Obj.cls_mapFields ..).trans hc,by rw[Obj.data_mapFields hd];simp[rawInt]⟩
 refine TH (Uh (TH (wpAny_isOneOf_keyiter (s:={s with heap:=s.heap.update it (Obj.mapFields (·.setIfInBounds 1 (rawInt ((i:Int)+1))))}) hit'.typeIs ?_)));show Tu _ _ (pure es[i].key) _ _ _;exact TF (TF ⟨_,rfl,TF (hQ _ hit' (Heap.SameBut.update ..))⟩)
theorem A3{Q:Option S9->cQ}(hh:A.handled=none)(hit:s.heap.IsKeyIter it d i es.size ep)(hod:s.heap.get? d=some o)(hdd:o.data=.dict es ep)(hge:es.size<=i)(hQ:∀h',SG it s.heap h'->Q none {s with heap:=h'}):Tu (model prog w) A (pyNext (.ref it)) Q E s:=by
 obtain⟨oi,ho,hc,hd⟩:=id hit;unfold pyNext;refine TH (UJ (Ui (name:=Str.ofString "__next__") hit.typeIs F.slot_dict_keyiterator_next (Uj F.slot_dict_keyiterator_next hit.typeIs F.entry_dict_keyiterator_next ?_ (F.args_dict_keyiterator_next_1 _))));refine TH (TF (TH (TH ?_)));first|refine TH (U5 hit.typeIs (TF ?_))|refine TH (U6 hit.typeIs (TF ?_))
 refine TH (U3 ho hd ?_);have hown:Builtin.Dict_items.ownsTuple "dict_keyiterator"=false:=by decide
 simp only[hown,PY,if_false];show Tu _ _ (if(Value.ref d==Value.none)=true then _ else _) _ _ s;rw[if_neg (show¬((Value.ref d==Value.none)=true)from O7)];refine TH (TF (TH (UW hod hdd ?_)));rw[if_neg (by simp)];refine TH (TF (TH (UY hod hdd ?_)));rw[if_neg (by simp)];refine TF ?_;simp only[show¬((i:Int)<0)from by omega,if_false,Px,Array.getElem?_eq_none hge];refine TH ?_;first|refine TH (U5 hit.typeIs (TF ?_))|refine TH (U6 hit.typeIs (TF ?_))
 show Tu _ _ (setField (.ref it) 0 .none >>= _) _ _ s;refine TH (Uz ho hd (by simp) ?_);show Tu _ _ (newExc (.type "StopIteration") [] >>= _) _ _ _;refine TH ?_;simp only[newExc,newTuple];refine TH (Ul ?_ (by size_fits));refine TH (m:=firstArgMember _ _) (wpAny_of_eq (a:=Value.none) (by first|rfl|(simp only[firstArgMember];rfl)) ?_);refine Ul ?_ (by size_fits);simp only[raiseNew];refine TH (UA ?_);rw[show A.in1.handled=none from hh];refine TH (TF (wpAny_throw ?_));refine TH (UK (T:="StopIteration") (b:=true) ⟨_,SD _ rfl,rfl⟩ UL ?_);exact TF (hQ _ (((Heap.SameBut.update ..).extBut.push _).push _))
noncomputable def IR(d:Td)(o:Obj)(es:Array UX)(ep:Nat)(h:Tl):Prop:=h.get? d=some o/\o.ExactDict/\o.data=.dict es ep
theorem xL(hh:A.handled=none)(I:Td)(hne:d≠I):Walks prog w A I [I,d] [I] es.size (λi v=>∃e,es[i]?=some e/\v=e.key) (λi h=>h.IsKeyIter I d i es.size ep/\IR d o es ep h)where
 sub:=λb hb=>by simp at hb;simp[hb]
 frame:=λ_ _ _ st hk=>⟨st.1.at λo e=>hk I (by simp) o e,hk d (by simp) _ st.2.1,st.2.2⟩
 item:=λi s Q E hi st hQ=>AB st.1 st.2.1 st.2.2.2 hi λh' hit' hs'=>hQ _ h' s.toks ⟨es[i],by simp[hi],rfl⟩ ⟨hit',(hs'.2 d hne).trans st.2.1,st.2.2⟩ λb o hb e=>hs'.extBut b o (λh=>hb (by simp[h])) e
 done:=λs Q E st hQ=>A3 hh st.1 st.2.1 st.2.2.2 (O1 _) λh' he'=>hQ h' s.toks λb o hb e=>he' b o (λh=>hb (by simp[h])) e
 self:=λ_ _ _ _ st hQ=>wpAny_pyIter_keyiter st.1 hQ
theorem Ck(lo:(d==sysModules)=false):PySem.W.KdlSrc prog w "dict" d d es.size (λi v=>∃e,es[i]?=some e/\v=e.key) (IR d o es ep)where
 type:=λ_ hm=>⟨o,hm.1,hm.2.1.1⟩
 there:=λ_ hm=>⟨Sx hm.1,Sx hm.1⟩
 keep:=λ_ _ hm hk=>⟨hk d (.inl rfl) o hm.1,hm.2⟩
 notList:=by decide
 notTuple:=by decide
 hint:=λ_ _ _ _ hm hq=>PySem.W.kdl_hint_dict ⟨o,hm.1,hm.2.1.1⟩ hq
 iter:=λ_ _ hh hm=>⟨_,_,(λ_ _ hq=>An lo hm.1 hm.2.1 hm.2.2 hq),xL (ep:=ep) (o:=o) hh _ (OO (Sx hm.1)),⟨⟨_,SD _ rfl,rfl,rfl⟩,SA _ hm.1,hm.2⟩⟩
end
variable[aA]
noncomputable def DT:List D->List D->Option (bV)
 |.non::ks,ds=>iA ks ds
 |ks,ds=>iA ks ds
theorem yO{K:RY}{H:Hp}{v:V}{ks ds:List D}{al:bV}(h:cq K H (.dct ks ds) v)(e:DT ks ds=some al):
  ∃a,v=.ref a/\((∃kvs:List (List Key×V),Rd H a (.dT kvs)/\kvs.map (·.1)=al.map (·.1)/\aI K H (al.map (·.2)) (kvs.map (·.2)))\/(H a=some (.dK [])/\al=[])):=by
 unfold DT at e;split at e
 ·obtain⟨f1,f2⟩:=fY e;subst f1 f2;obtain⟨a,o,kvs,q1,q2,q3,q4⟩:=vw h;exact⟨a,q1,.inl ⟨kvs,.inr ⟨o,q2⟩,q3,q4⟩⟩
 ·obtain⟨f1,f2⟩:=fY e;subst f1 f2;obtain⟨a,q1,q2⟩:=qa h;rcases q2 with⟨kvs,q2,q3⟩|q2
  ·exact⟨a,q1,.inl ⟨kvs,.inl q2,q3⟩⟩
  ·exact⟨a,q1,.inr q2⟩
section
variable{X:Cx}
noncomputable def lG:List D->bF
 |[.dct ks ds]=>(DT ks ds).bind λal=>some (.lst (encK al))
 |_=>none
theorem Dd{pins:bc}{σ:St}{H:Hp}{s:Tg}(I:Inv X pins σ H s){a:Td}{kvs:List (List Key×V)}(e:Rd H a (.dT kvs)):kvs.length<=Tn/\(a==sysModules)=false/\∃o es ep,IR a o es ep s.heap/\es.size=kvs.length/\∀(i:Nat) u,es[i]?=some u->∃b q,u.key=.ref b/\kvs[i]?.map (·.1)=some q/\H b=some (.tup (q.map kV)):=by
 obtain⟨z,hd,xs,rel,o,es,ep,h1,h2,h3,h4,_⟩:=qq I.hok e;have hl:es.size=kvs.length:=by rw[<-Array.length_toList,h4,Pa];exact(Paired.length rel).symm
 refine⟨z,hd,o,es,ep,⟨h1,h2,h3⟩,hl,λi u eu=>?_⟩;have hi:i<kvs.length:=by
  have:=(Array.getElem?_eq_some_iff.mp eu).1
  omega
 obtain⟨x,ex,f1,f2,f3⟩:=qm rel (i:=i) (x:=kvs[i]) (by simp[hi])
 have:es.toList[i]?=some (entryOfKey (tupleKind (bP X.prog X.w)) x):=by rw[h4,Pr,ex];rfl
 rw[Array.getElem?_toList,eu]at this;cases this;exact⟨x.2.1,kvs[i].1,rfl,by simp[hi],f2⟩
theorem ww(hc:X.calm=true):dS X (.type "list") (xj X.K lG):=by
 rintro pins s σ H xs us Q I r ⟨O,ds,d,hO,hd,hg,q⟩;unfold lG at hg;split at hg
 ·rename_i ks vs0;cases hk:DT ks vs0 with
  |none=>rw[hk]at hg;cases hg
  |some al=>
   rw[hk]at hg;cases hg;obtain⟨v,ev,h1⟩:=hd.one;subst ev;obtain⟨a,ea,hh⟩:=yO h1 hk;subst ea;obtain⟨u,rfl,ru⟩:=vals1 r;cases ru;have fin:∀(H0:Hp)(kvs:List (List Key×V)),Inv X pins σ H0 s->Rd H0 a (.dT kvs)->kvs.map (·.1)=al.map (·.1)->(∀b ys,H0 b=some (.tup ys)->H b=some (.tup ys))->Tu (model X.prog X.w) X.A (call (.type "list") [.ref a]) (EP X pins σ Q) X.xe s:=λH0 kvs I0 hr hk2 ht=>by
    obtain⟨z,hs,o,es,ep,raw,hsz,hkey⟩:=Dd I0 hr;have hl:al.length=kvs.length:=(by have:=congrArg List.length hk2;simpa using this.symm);refine Su (Ck hs) (I.ok.hd hc) raw (by rw[hsz];exact z) λh' tk acc' c' kp e2 it=>?_;have key:∃ws:aK,Vals ws acc'.toList/\aI X.K (hid H O) (encK al) ws:=by
     have hlen:acc'.toList.length=al.length:=(by rw[Array.length_toList,it.1,hsz,hl]);have each:∀(j:Nat)(u:S9),acc'.toList[j]?=some u->∃b q,u=.ref b/\al[j]?.map (·.1)=some q/\H b=some (.tup (q.map kV)):=λj u e=>by
      obtain⟨en,e3,e4⟩:=it.2 j u (by rw[<-Array.getElem?_toList];exact e);obtain⟨b,q,w1,w2,w3⟩:=hkey j en e3;refine⟨b,q,by rw[e4,w1],?_,ht _ _ w3⟩
      have:=congrArg (λl=>l[j]?) hk2
      simp only[Pr]at this;rw[<-this];exact w2
     clear it e2;generalize acc'.toList=us at hlen each;clear hk hl hk2 h1 hh q
     induction us generalizing al with
     |nil=>
      cases al with
      |nil=>exact⟨[],.nil,cw.mpr rfl⟩
      |cons _ _=>cases hlen
     |cons u us ih=>
      cases al with
      |nil=>cases hlen
      |cons p al=>
       obtain⟨ws,w1,w2⟩:=ih (al:=al) (by simpa using hlen) λj u e=>by
        have:=each (j+1) u (by rw[Qy];exact e)
        rw[Qy]at this;exact this
       obtain⟨b,q,e1,e2,e3⟩:=each 0 u rfl;cases e2;have bO:b∉O:=λz=>by
        obtain⟨u',q1,q2⟩:=hO.2 b z;rw[e3]at q1;cases q1;exact q2
       exact⟨.ref b::ws,.cons (by rw[e1];rfl) w1,bb.mpr ⟨.ref b,ws,rfl,bW.mpr ⟨b,_,rfl,by rw[gh bO];exact e3,uC p.1⟩,w2⟩⟩
    obtain⟨ws,rv,dn⟩:=key;have wl:ws.length<=Tn:=(by rw[<-dn.length,Pa,hl];exact z);refine⟨.ref s.heap.objs.size,_,I.laid (t':=tk) kp (O1 _) (show b7 X.prog X.w _ h' _ (.lst ws)from⟨wl,acc'.toList,c',rv,by simpa using e2⟩),rfl,?_⟩;have hf:=I.hok.fresh (O1 s.heap.objs.size);exact q _ _ (bj hf _) (cN hO hf dn)
   rcases hh with⟨kvs,hr,e1,_⟩|⟨hr,e1⟩
   ·refine fin H kvs I ?_ e1 λ_ _ z=>z;rcases hr with hr|⟨o,hr⟩
    ·exact .inl ((aq H O) _ _ hr)
    ·exact .inr ⟨o,(aq H O) _ _ hr⟩
   ·have ha:=(aq H O) _ _ hr;refine fin _ [] (zU I ha) (.inl av) (by rw[e1];rfl) λb ys eb=>?_;by_cases z:b=a
    ·rw[z,av]at eb;cases eb
    ·rw[ao z]at eb;exact eb
 ·cases hg
end
end TG
namespace TG
open PySem PySem.Spec PySem.Calls L2
variable[aA]
noncomputable def w8(dd k:D):bF:=match dd with
 |.dct ks ds=>(DT ks ds).bind λal=>(eF k).bind λq=>iw al q
 |_=>none
theorem Je{H:Hp}{O:ax}{a:Td}{u:HO}(h:Rd (hid H O) a u):Rd H a u:=by
 rcases h with h|⟨o,h⟩
 ·exact .inl ((aq H O) _ _ h)
 ·exact .inr ⟨o,(aq H O) _ _ h⟩
noncomputable def As(i:Nat)(f:FX):bI:=λk ρ=>match ρ[i]? with
 |some (some (.own (.lst xs)))=>o4 (f ρ) k ρ λd=>match d with
  |.lst ys=>if small (xs.length+ys.length)then k.nx (ρ.set i (some (.own (.lst (xs++ys)))))else un
  |_=>un
 |_=>un
end TG
namespace L2
open PySem PySem.Spec PyProof.Rows
end L2
namespace TG
open PySem PySem.Spec L2
variable[aA]
end TG
namespace TG
open PySem PySem.Spec L2
variable[aA]
section
variable{K:RY}{Hb H:Hp}{Ob O:ax}{ρ:aj}{σ:St}
theorem cX.hide(E:cX K Hb Ob O H ρ σ){p:Td}{o:HO}(m:oV o)(hp:H p=none):cX K Hb Ob (p::O) (upd H p o) ρ σ:=
 ⟨E.env.hideNew m hp,⟨E.base.same.trans (bj hp o),fun a ha=>OV _ (E.base.sub a ha),fun a ha=>by
  rcases List.mem_cons.mp ha with z|z
  ·rw[z];exact .inr (E.base.same.free hp)
  ·exact E.base.new a z⟩,E.mine,λj d q=>(E.nst j d q).to rfl (mj hp) (λb q1 q2 q3 q4 ⟨o',ho⟩=>⟨ao (aD ho hp),OV _ q1,q2,q4⟩) λl d' w=>⟨d',w⟩⟩
theorem cX.new(E:cX K Hb Ob O H ρ σ){p:Td}(hp:H p=none):Hb p=none/\p∉Ob/\∀(j:Nat) d',ρ[j]?=some (some (.own d'))->σ[j]?≠some (some (.ref p)):=by
 have pO:=E.env.all.not hp;refine⟨E.base.same.free hp,λz=>pO (E.base.sub p z),λj d' w z=>?_⟩;obtain⟨c,e1,e2,_⟩:=E.env.own j d' w;rw[z]at e1;cases e1;exact pO e2
theorem cX.setL(E:cX K Hb Ob O H ρ σ){i:Nat}(hi:i<σ.length)(hn:E9 ρ=true){p:Td}{bs:ax}{d:D}(new:pZ K H O p bs d)(nd:(p::bs).Nodup)(hb:∀b∈p::bs,b∈O/\Hb b=none/\b∉Ob/\∀(j:Nat) d',ρ[j]?=some (some (.own d'))->σ[j]?≠some (some (.ref b))):
  cX K Hb Ob O H (ρ.set i (some (.nest d))) (σ.set i (some (.ref p))):=by
 have key:∀(j:Nat)(x:S),(ρ.set i (some (.nest d)))[j]?=some (some x)->(j=i/\x=.nest d)\/(j≠i/\ρ[j]?=some (some x)/\(σ.set i (some (.ref p)))[j]?=σ[j]?):=λj x e=>by
  rcases aH e with⟨hj,q⟩|⟨ne,q⟩
  ·cases q;exact .inl ⟨hj,rfl⟩
  ·exact .inr ⟨ne,q,OY (Ne.symm ne)⟩
 have own:∀(j:Nat) xs,(ρ.set i (some (.nest d)))[j]?=some (some (.own xs))->ρ[j]?=some (some (.own xs))/\(σ.set i (some (.ref p)))[j]?=σ[j]?:=λj xs e=>by
  rcases key j _ e with⟨_,q⟩|⟨_,q⟩
  ·cases q
  ·exact q
 refine⟨⟨λj d1 e=>?_,λj xs e=>?_,λj l xs ys a e1 e2 e3 e4=>?_,E.env.all⟩,E.base,λj xs a e1 e2=>?_,λj dn e=>?_⟩
 ·rcases key j _ e with⟨_,q⟩|⟨_,q,w⟩
  ·cases q
  ·rw[w];exact E.env.val j d1 q
 ·obtain⟨q,w⟩:=own j xs e;rw[w];exact E.env.own j xs q
 ·obtain⟨q1,w1⟩:=own j xs e1;obtain⟨q2,w2⟩:=own l ys e2;rw[w1]at e3;rw[w2]at e4;exact E.env.one j l xs ys a q1 q2 e3 e4
 ·obtain⟨q,w⟩:=own j xs e1;rw[w]at e2;exact E.mine j xs a q e2
 ·rcases key j _ e with⟨hj,q⟩|⟨_,q,_⟩
  ·cases q;subst hj;refine⟨p,bs,OX hi,new,nd,λb h=>?_,λl d' w=>?_⟩
   ·obtain⟨w1,w2,w3,w4⟩:=hb b h;exact⟨w1,w2,w3,λl d' w=>by obtain⟨q,z⟩:=own l d' w;rw[z];exact w4 l d' q⟩
   ·rcases key l _ w with⟨hl,_⟩|⟨_,q,_⟩
    ·exact hl
    ·exact absurd q (ji hn l d')
  ·exact absurd q (ji hn j dn)
theorem vp:∀{bs:ax}{xs:List D}{c:Nat}{x:D},iH K H O bs xs->bs.Nodup->xs[c]?=some x->∃b,bs[c]?=some b/\cx K H O b x/\∀(H':Hp)(O':ax)(x':D),(∀c'∈bs,c'≠b->∀z,cx K H O c' z->cx K H' O' c' z)->cx K H' O' b x'->iH K H' O' bs (xs.set c x')
 |b::bs,y::xs,0,x,h,nd,e=>by
  cases e;exact⟨b,rfl,h.1,λH' O' x' f n=>⟨n,h.2.imp λc hc=>f c (OV _ hc) λz=>(List.nodup_cons.mp nd).1 (by rw[<-z];exact hc)⟩⟩
 |b::bs,y::xs,c+1,x,h,nd,e=>by
  obtain⟨b',q1,q2,q3⟩:=vp h.2 (List.nodup_cons.mp nd).2 (show xs[c]?=some x from e);exact⟨b',q1,q2,λH' O' x' f n=>⟨f b OU (λz=>(List.nodup_cons.mp nd).1 (by rw[z];exact Pu q1)) _ h.1,q3 H' O' x' (λc' hc=>f c' (OV _ hc)) n⟩⟩
 |[],_::_,_,_,h,_,_=>h.elim
 |[],[],_,_,_,_,e=>by simp at e
end
noncomputable def nc(i:Nat):bI:=λk ρ=>if E9 ρ then k.nx (ρ.set i (some (.nest (.lst [.lst [],.lst []]))))else un
noncomputable def oJ(i c:Nat)(f:FX):bI:=λk ρ=>match ρ[i]? with
 |some (some (.nest (.lst xs)))=>(match xs[c]? with
  |some (.lst ys)=>(wc (f ρ)).bind λv=>if small (ys.length+1)then k.nx (ρ.set i (some (.nest (.lst (xs.set c (.lst (ys++[v])))))))else un
  |_=>un)
 |_=>un
theorem wF{i c:Nat}{f:FX}{k:Ks}{ρ:aj}{r:R D}(h:oJ i c f k ρ=r)(hr:r≠un):∃xs ys v,ρ[i]?=some (some (.nest (.lst xs)))/\xs[c]?=some (.lst ys)/\f ρ=.ok v/\small (ys.length+1)=true/\k.nx (ρ.set i (some (.nest (.lst (xs.set c (.lst (ys++[v])))))) )=r:=by
 unfold oJ at h;split at h
 ·rename_i xs hi;split at h
  ·rename_i ys hc;cases e1:f ρ with
   |error z=>rw[e1]at h;exact absurd h.symm hr
   |ok v=>
    rw[e1]at h;have h:(if small (ys.length+1)then k.nx (ρ.set i (some (.nest (.lst (xs.set c (.lst (ys++[v])))))))else un)=r:=h;cases hs:small (ys.length+1)with
    |false=>rw[hs]at h;exact absurd h.symm hr
    |true=>rw[hs]at h;exact⟨xs,ys,v,hi,hc,rfl,hs,h⟩
  ·exact absurd h.symm hr
 ·exact absurd h.symm hr
end TG
namespace TX
open PySem PySem.Spec L2 TG
variable[aA]
structure XE(X:Cx)(e:Te)(F:FX):Prop where h:FE X e F
structure XT(X:Cx)(e:Te)(F:bS):Prop where h:FT X e F
structure XW(X:Cx)(e:Te)(F:bS):Prop where h:FW X e F
structure XA(X:Cx)(e:bz)(F:bC):Prop where h:FA X e F
structure XS(X:Cx)(e:Tf)(F:bI):Prop where h:FS X e F
structure nB(X:Cx)(e:eE)(F:bI):Prop where h:MN X e F
structure XI(X:Cx)(t e:Te)(F:bC):Prop where h:FI X t e F
structure XG(X:Cx)(e:Te)(F:GF):Prop where h:FG X e F
structure Iz(X:Cx)(e:bz)(F:DS):Prop where h:ND X e F
structure XO(X:Cx)(e:Option Te)(F:aj->R dR):Prop where h:FO X e F
structure XN(X:Cx)(e:Te)(F:FX):Prop where h:FN X e F
structure JD(X:Cx)(e:bz)(F:bS):Prop where h:Nx X e F
structure XV(X:Cx)(e:Te)(i:Nat):Prop where h:PE X e (Dr i)
structure XB(X:Cx)(scope:Tt)(N:ay)(tg elt:Te)(ifs:bz)(g:GF)(C:bS)(Fe:FX)(cl:mO)(C':Td)(fp:ax)(s:Tg)(H:Hp)(E:bq):Prop where
 a:XG (ce X scope N cl C' fp s H E) tg g
 b:JD (ce X scope N cl C' fp s H E) ifs C
 c:XE (ce X scope N cl C' fp s H E) elt Fe
structure qW(X:Cx)(scope:Tt)(N:ay)(tg elt:Te)(ifs:bz)(g:GF)(C:bS)(Fe:FX):Prop where
 q:∀cl C' fp s H E,XB X scope N tg elt ifs g C Fe cl C' fp s H E
theorem qW.h{X:Cx}{scope:Tt}{N:ay}{tg elt:Te}{ifs:bz}{g:GF}{C:bS}{Fe:FX}(x:qW X scope N tg elt ifs g C Fe):Np X scope N tg elt ifs g C Fe:=λcl C' fp s H E=>⟨(x.q cl C' fp s H E).a.h,(x.q cl C' fp s H E).b.h,(x.q cl C' fp s H E).c.h⟩
theorem xv{X:Cx}(i:Nat){x:Str}{pos:Pos}(hN:X.N[i]?=some x:=by rfl)(hv:HS X.env.scope x:=by first|exact Or.inl rfl|exact Or.inr (Or.inl rfl)|exact Or.inr (Or.inr rfl))(hd:(x==("__debug__":Str))=false:=by decide)
  (hcd:(x==("__classdict__":Str))=false:=by decide):XV X (.Name x pos) i:=⟨pv i hN hv hd hcd⟩
theorem Nu{X:Cx}{e:Te}{f:bS}(h:XW X e f):XT X e f:=⟨FW.ft h.h⟩
section
variable[aA]{X:Cx}
theorem Fc{i:Nat}{x:Str}{pos:Pos}(h:XV X (.Name x pos) i):XE X (.Name x pos) (ae i):=⟨PE.weak h.h λσ H Q ⟨O,ρ,E,hF⟩=>by
  obtain⟨d,e,q⟩:=rF hF;obtain⟨v,e,dv⟩:=E.val i d e;exact⟨v,e,q v H (aR.refl H) dv⟩⟩
theorem Fi{i j pos}:XE X (.Constant (.int i) j pos) (fC (.int i)):=⟨mH Bs λ_ _=>eM.mpr rfl⟩
theorem Jj{b j pos}:XE X (.Constant (.bool b) j pos) (fC (.bl b)):=⟨mH JV λ_ _=>js.mpr rfl⟩
theorem Ed{j pos}:XE X (.Constant .none j pos) (fC .non):=⟨mH Hy λ_ _=>jp.mpr rfl⟩
theorem E5{x j pos}:XE X (.Constant (.str x) j pos) (fC (.str x)):=⟨mH Iw λ_ _=>eN.mpr rfl⟩
theorem Ei:XA X [] af:=⟨TG.Dc ⟩
theorem DQ{e:Te}{es:bz}{f:FX}{g:bC}(he:XE X e f)(hs:XA X es g)(hns:noStar e=true:=by rfl):XA X (e::es) (aa f g):=⟨TG.yI he.h hs.h hns⟩
theorem ED{es:bz}{g:bC}{k pos}(h:XA X es g):XE X (.Tuple es k pos) (bE g):=⟨PE.weak (HA h.h) λσ H Q ⟨O,ρ,E,hF⟩=>⟨O,ρ,E,(gE.bind hF).imp λxs hF vs H1 s1 d1=>by
  obtain⟨d,e,q⟩:=gE.rO hF;obtain⟨hz,e⟩:=bA e;subst e;refine⟨by rw[<-d1.length];exact dN hz,λp hp=>?_⟩;exact q _ _ (s1.trans (bj hp _)) (dY (E.all.same s1) hp d1)⟩⟩
theorem Ff{es:bz}{g:bC}{pos}(h:XA X es g):XE X (.List es pos) (fm g):=⟨PE.weak (oa h.h) λσ H Q ⟨O,ρ,E,hF⟩=>⟨O,ρ,E,(gE.bind hF).imp λxs hF vs H1 s1 d1=>by
  obtain⟨d,e,q⟩:=gE.rO hF;obtain⟨hz,e⟩:=bA e;subst e;refine⟨by rw[<-d1.length];exact dN hz,λp hp=>?_⟩;exact q _ _ (s1.trans (bj hp _)) (cN (E.all.same s1) hp d1)⟩⟩
theorem gD{a b:Te}{op:Operator}{r:R2}{g:D->D->bF}{fa fb:FX}{pos:Pos}(ho:iG X (TQ op) r)(s:cS X.K r g)(ha:XE X a fa)(hb:XE X b fb):XE X (.BinOp a op b pos) (f2 g fa fb):=⟨PE.weak (JX ho ha.h hb.h) (tN s)⟩
theorem ip{a b:Te}{op:TU}{r:R2}{g:D->D->bF}{fa fb:FX}{pos:Pos}(ho:iG X (TR op) r)(s:cS X.K r g)(ha:XE X a fa)(hb:XE X b fb)(hm:TV op b=false):XE X (.Compare a [op] [b] pos) (f2 g fa fb):=⟨PE.weak (D5 ho ha.h hb.h hm) (tN s)⟩
theorem ia{a b:Te}{op:TU}{r:R2}{g:D->D->bF}{fa fb:FX}{pos:Pos}(ho:iG X (TR op) r)(s:cS X.K r g)(ha:XE X a fa)(hb:XE X b fb)(hm:TV op b=false):XT X (.Compare a [op] [b] pos) (fB (f2 g fa fb)):=⟨PT.weak (FR ho ha.h hb.h hm) (vS (tN s))⟩
end
section
variable[aA]{X:Cx}{a b c:Te}{rest:bz}{pos:Pos}{f g:bS}
theorem Fw(h:XT X a f):XT X (.UnaryOp .Not a pos) (lj f):=⟨PT.weak (Ip h.h) λσ H Q ⟨O,ρ,E,hF⟩=>⟨O,ρ,E,(gE.bind hF).imp λb q H1 s1=>q H1 s1⟩⟩
theorem B7(h:XT X a f):XW X (.BoolOp .And [a] pos) f:=⟨EF h.h⟩
theorem FK(h:XT X a f):XW X (.BoolOp .Or [a] pos) f:=⟨Ho h.h⟩
theorem D7(ha:XT X a f)(hb:XW X (.BoolOp .And (b::rest) pos) g):XW X (.BoolOp .And (a::b::rest) pos) (j8 f g):=⟨PW.weak (IG ha.h hb.h) λσ H Q ⟨O,ρ,E,hF⟩=>⟨O,ρ,E,(gE.bind hF).imp λc hF H1 s1=>by
 cases c with
 |true=>exact vU ⟨O,ρ,E.same s1,(hF.mono s1).imp λb q H2 s2=>q H2 (s1.trans s2)⟩
 |false=>exact uW (hF H1 s1)⟩⟩
theorem Iu(ha:XT X a f)(hb:XW X (.BoolOp .Or (b::rest) pos) g):XW X (.BoolOp .Or (a::b::rest) pos) (xr f g):=⟨PW.weak (J5 ha.h hb.h) λσ H Q ⟨O,ρ,E,hF⟩=>⟨O,ρ,E,(gE.bind hF).imp λc hF H1 s1=>by
 cases c with
 |false=>exact uW ⟨O,ρ,E.same s1,(hF.mono s1).imp λb q H2 s2=>q H2 (s1.trans s2)⟩
 |true=>exact vU (hF H1 s1)⟩⟩
end
section
variable[aA]{X:Cx}{a b c:Te}{rest:bz}{pos:Pos}{f g:bS}{fa fb:FX}
theorem EB{op}(h:XE X a fa):XE X (.BoolOp op [a] pos) fa:=⟨Ia h.h⟩
theorem EX(ha:XE X a fa)(hb:XE X (.BoolOp .And (b::rest) pos) fb):XE X (.BoolOp .And (a::b::rest) pos) (iO fa fb):=⟨PE.weak (Hc ha.h hb.h) λσ H Q ⟨O,ρ,E,hF⟩=>⟨O,ρ,E,(gE.bind hF).imp λd hF x H1 s1 d1=>by
 cases d with
 |bl c=>
  refine⟨c,js.mp d1,?_⟩;cases c with
  |true=>exact vU ⟨O,ρ,E.same s1,(hF.mono s1).imp λd q v H2 s2 d2=>q v H2 (s1.trans s2) d2⟩
  |false=>exact uW (hF _ H1 s1 (js.mpr rfl))
 |_=>exact hF.elim⟩⟩
theorem Hr(ha:XE X a fa)(hb:XE X (.BoolOp .Or (b::rest) pos) fb):XE X (.BoolOp .Or (a::b::rest) pos) (El fa fb):=⟨PE.weak (KY ha.h hb.h) λσ H Q ⟨O,ρ,E,hF⟩=>⟨O,ρ,E,(gE.bind hF).imp λd hF x H1 s1 d1=>by
 cases d with
 |bl c=>
  refine⟨c,js.mp d1,?_⟩;cases c with
  |false=>exact uW ⟨O,ρ,E.same s1,(hF.mono s1).imp λd q v H2 s2 d2=>q v H2 (s1.trans s2) d2⟩
  |true=>exact vU (hF _ H1 s1 (js.mpr rfl))
 |_=>exact hF.elim⟩⟩
theorem Ez(ha:XE X a fa):XE X (.UnaryOp .Not a pos) (vg fa):=⟨PE.weak (IB ha.h) λσ H Q ⟨O,ρ,E,hF⟩=>⟨O,ρ,E,(gE.bind hF).imp λd hF x H1 s1 d1=>by
 obtain⟨d',e,q⟩:=gE.rO hF;cases d with
 |bl c=>
  cases e;exact⟨c,js.mp d1,q _ H1 s1 (js.mpr rfl)⟩
 |_=>cases e⟩⟩
theorem IQ(hc:XT X c f)(ha:XE X a fa)(hb:XE X b fb):XE X (.IfExp c a b pos) (KW f fa fb):=⟨PE.weak (BD hc.h ha.h hb.h) λσ H Q ⟨O,ρ,E,hF⟩=>⟨O,ρ,E,(gE.bind hF).imp λd hF H1 s1=>by
 cases d with
 |true=>exact vU ⟨O,ρ,E.same s1,(hF.mono s1).imp λd q v H2 s2 d2=>q v H2 (s1.trans s2) d2⟩
 |false=>exact uW ⟨O,ρ,E.same s1,(hF.mono s1).imp λd q v H2 s2 d2=>q v H2 (s1.trans s2) d2⟩⟩⟩
end
section
variable[aA]{X:Cx}
theorem Ju{a b:Te}{fa fb:FX}{pos:Pos}(ha:XE X a fa)(hb:XE X b fb)(hs:pf b):XE X (.Subscript a b pos) (f2 ah fa fb):=⟨PE.weak (Gv LQ ha.h hb.h hs) (tN bZ)⟩
theorem BA:XO X none au:=⟨λpins s σ H Q I ⟨O,ρ,E,q⟩=>EZ pins s σ H Q I (q H (aR.refl H))⟩
theorem CB{e:Te}{f:FX}(h:XE X e f):XO X (some e) (aQ f):=⟨λpins s σ H Q I ⟨O,ρ,E,hF⟩=>
 Gb h.h pins s σ H Q I ⟨O,ρ,E,(gE.bind hF).imp λd hF v H1 s1 d1=>by
  obtain⟨o,e,q⟩:=gE.rO hF;cases d with
  |int i=>
   cases e;exact⟨i,eM.mp d1,q H1 s1⟩
  |_=>cases e⟩⟩
theorem Aj{e:Te}{f:FX}{l h:aj->R dR}{lo hi:Option Te}{p2 pos:Pos}(he:XE X e f)(hl:XO X lo l)(hh:XO X hi h):XE X (.Subscript e (.Slice lo hi none p2) pos) (aB f l h):=⟨PE.weak (BX Mv he.h hl.h hh.h) λσ H Q ⟨O,ρ,E,hF⟩=>⟨O,ρ,E,(gE.bind hF).imp λa hF x H1 s1 d1=>⟨O,ρ,E.same s1,((gE.bind hF).mono s1).imp λlo' hF H2 s2=>⟨O,ρ,E.same (s1.trans s2),((gE.bind hF).mono (s1.trans s2)).imp λhi' hF H3 s3=>by
  obtain⟨d,e,q⟩:=gE.rO hF;exact⟨O,a,d,E.all.same ((s1.trans s2).trans s3),d1.mono (bi (s2.trans s3)),e,λv H4 s4 d4=>q v H4 (((s1.trans s2).trans s3).trans s4) d4⟩⟩⟩⟩⟩
end
section
variable[aA]{X:Cx}{x:Str}{p pos:Pos}{e:Te}{es:bz}{id T:String}{g:List D->bF}{f:bC}
theorem gJ(hc:dS X (.builtin id) (xj X.K g))(hg:Gl X x)(hm:X.mg x=none)(hv:Tr x=some (.builtin id))(ha:XA X (e::es) f)(hn:x≠"__name__":=by decide)(hdb:(x==("__debug__":Str))=false:=by decide)(hns:(e::es).all noStar=true:=by rfl):XE X (.Call (.Name x p) (e::es) [] pos) (fL g f):=⟨PE.weak (vq hc hg hm hv ha.h hn hdb (cB (Pz _ _ ▸ hns).1) (eX (Pz _ _ ▸ hns).2)) (Bm pT)⟩
theorem fI(hc:dS X (.type T) (xj X.K g))(hg:Gl X x)(hm:X.mg x=none)(hv:Tr x=some (.type T))(ha:XA X (e::es) f)(hn:x≠"__name__":=by decide)(hdb:(x==("__debug__":Str))=false:=by decide)(hns:(e::es).all noStar=true:=by rfl):XE X (.Call (.Name x p) (e::es) [] pos) (fL g f):=⟨PE.weak (tL hc hg hm hv ha.h hn hdb (cB (Pz _ _ ▸ hns).1) (eX (Pz _ _ ▸ hns).2)) (Bm pT)⟩
theorem ph{f:FX}{xT:Str}{p2:Pos}(ok:wJ X.K T)(hg:Gl X "isinstance")(hm:X.mg "isinstance"=none)(hgT:Gl X xT)(hmT:X.mg xT=none)(hvT:Tr xT=some (.type T))(he:XE X e f)(hn2:xT≠"__name__":=by decide)(hd2:(xT==("__debug__":Str))=false:=by decide)(hns:noStar e=true:=by rfl):XE X (.Call (.Name "isinstance" p) [e,.Name xT p2] [] pos) (iD T f):=⟨PE.weak (vq (C7 ok) hg hm AY (gC he.h (gC (EV (v:=.ty T) hgT hmT hvT rfl hn2 hd2) jk (cB rfl)) (cB hns)) (by decide) (by decide) (cB hns) (eX rfl)) λσ H Q ⟨O,ρ,E,hF⟩=>⟨O,ρ,E,(gE.bind hF).imp λa hF v H1 s1 d1=>by
  obtain⟨d,e,q⟩:=gE.rO hF;obtain⟨h1,h2⟩:=bA e;subst h2;exact⟨O,v,a,rfl,h1,d1,q _ H1 s1 (js.mpr rfl)⟩⟩⟩
end
section
variable[aA]{X:Cx}{a:Te}{f:FX}{pos:Pos}
theorem zf(h:XE X a f)(he:∀whole,isTrue a X.env whole=(do let v<-whole;standAt a.pos;holding [v] (truthy v)):=by intro _;rfl):XT X a (cH f):=⟨PT.weak (Dh h.h he) λσ H Q ⟨O,ρ,E,hF⟩=>⟨O,ρ,E,(gE.bind hF).imp λd hF x H1 s1 d1=>by
 obtain⟨r,hF,q⟩:=gE.rO hF;refine⟨r,?_,q H1 s1⟩;cases d with
 |non=>cases hF;rw[jp.mp d1];rfl
 |bl b=>cases hF;rw[js.mp d1];rfl
 |int i=>cases hF;rw[eM.mp d1];rfl
 |str y=>
  obtain⟨hz,e⟩:=bA hF;subst e;rw[eN.mp d1];refine⟨dN hz,?_⟩;show(y.length !=0)=((y.length:Int) !=0)
  cases y.length<;>rfl
 |tup xs=>
  cases hF;obtain⟨p,vs,e,g1,g2⟩:=bW.mp d1;rw[e];refine .inr (.inl ⟨vs,bK (aq H1 O) g1,?_⟩);have l:=g2.length;cases xs<;>cases vs<;>first|rfl|(simp at l)
 |lst xs=>
  cases hF;obtain⟨p,vs,e,g1,g2⟩:=bX.mp d1;rw[e];refine .inl ⟨vs,(aq H1 O).seq g1,?_⟩;have l:=g2.length;cases xs<;>cases vs<;>first|rfl|(simp at l)
 |_=>cases hF⟩⟩
end
section
variable[aA]{X:Cx}{tg:Te}
theorem Es{e:Te}{f:FX}(h:XE X e f):XI X tg e (az f):=by
 refine⟨?_⟩;rintro pins s σ H R I ⟨O,ρ,E,hG⟩;have hG':=gE.bind hG;cases hf:f ρ with
 |error z=>exact yF h.h pins s σ H R I ⟨O,ρ,E,by rw[hf]at hG' ⊢;cases z with|none=>exact hG'.elim|some x=>exact hG'⟩
 |ok d=>
  rw[hf]at hG';obtain⟨ds,e1,q⟩:=gE.rO (α:=List D) (o:=qL d) hG';cases d with
  |lst xs=>
   cases e1;refine yF h.h pins s σ H R I ⟨O,ρ,E,?_⟩;rw[hf];refine λv H1 s1 d1=>?_;obtain⟨p,vs,ev,g1,g2⟩:=bX.mp d1;exact⟨p,ev,⟨vs,(aq H1 O).seq g1⟩,q _ H1 s1 (zM g1 g2)⟩
  |tup xs=>
   cases e1;refine HL h.h pins s σ H R I ⟨O,ρ,E,?_⟩;rw[hf];refine λv H1 s1 d1=>?_;obtain⟨p,vs,ev,g1,g2⟩:=bW.mp d1;exact⟨p,ev,⟨vs,bK (aq H1 O) g1⟩,q _ H1 s1 (CC g1 g2)⟩
  |_=>cases e1
theorem wO{a:Te}{f:bC}{p pos:Pos}(hg:Gl X "range")(hm:X.mg "range"=none)(ha:XA X [a] f)(hs:Tv [a] X.env=[(false,eval a X.env)]:=by rfl):XI X tg (.Call (.Name "range" p) [a] [] pos) (eI f):=by
 refine⟨?_⟩;rintro pins s σ H R I ⟨O,ρ,E,hG⟩;refine zR hg hm ha.h hs pins s σ H R I ⟨O,ρ,E,(gE.bind hG).imp λes hG' vs H1 s1 d1=>?_⟩;clear hG;obtain⟨ds,hG,q⟩:=gE.rO hG';clear hG';unfold jm at hG;split at hG
 ·rename_i j;obtain⟨h1,h2⟩:=bA hG;subst h2;obtain⟨j1,j2⟩:=of_decide_eq_true h1;obtain⟨v,ev,dv⟩:=d1.one;exact⟨j,by rw[ev,eM.mp dv],j1,j2,q _ H1 s1 (qM 0 _)⟩
 ·cases hG
theorem xN{a b:Te}{f:bC}{p pos:Pos}(hg:Gl X "range")(hm:X.mg "range"=none)(ha:XA X [a,b] f)(hs:Tv [a,b] X.env=[(false,eval a X.env),(false,eval b X.env)]:=by rfl)(hs2:Tv [b] X.env=[(false,eval b X.env)]:=by rfl):XI X tg (.Call (.Name "range" p) [a,b] [] pos) (mR f):=by
 refine⟨?_⟩;rintro pins s σ H R I ⟨O,ρ,E,hG⟩;refine Ah hg hm ha.h hs hs2 pins s σ H R I ⟨O,ρ,E,(gE.bind hG).imp λes hG' vs H1 s1 d1=>?_⟩;clear hG;obtain⟨ds,hG,q⟩:=gE.rO hG';clear hG';unfold mM at hG;split at hG
 ·rename_i i j;obtain⟨h1,h2⟩:=bA hG;subst h2;rw[Pz]at h1;obtain⟨i1,i2⟩:=of_decide_eq_true h1.1;obtain⟨j1,j2⟩:=of_decide_eq_true h1.2;obtain⟨v,w,ev,dv,dw⟩:=d1.two;exact⟨i,j,by rw[ev,eM.mp dv,eM.mp dw],⟨i1,i2,j1,j2⟩,q _ H1 s1 (qM i _)⟩
 ·cases hG
end
section
variable[aA]{X:Cx}{pos:Pos}
theorem Dg{i:Nat}{x:Str}(hN:X.N.Nodup)(hi:X.N[i]?=some x)(hx:Loc X.env.scope x)(hf:X.fn x=true\/X.env.scope.names.lookup x=some .local:=by first|exact .inl rfl|exact .inr rfl|assumption):XG X (.Name x pos) (gN i):=by
 refine⟨?_⟩;rintro pins s σ H v u Q I r ⟨O,ρ,d,ρ',E,hd,hg,q⟩;cases hg;have hiσ:i<σ.length:=by rw[I.len];exact(List.getElem?_eq_some_iff.mp hi).1
 refine Gc hN hi hx hf pins s σ H v u Q I r (q _ (E.setV hiσ hd) λj x e nv=>?_);rcases aH e with⟨_,eq⟩|⟨ne,eq⟩
 ·cases eq;exact absurd rfl (nv _)
 ·exact⟨OY (Ne.symm ne),eq⟩
theorem BQ:Iz X [] Gx:=by
 refine⟨?_⟩;rintro pins s σ H vs us Q I r ⟨O,ρ,ds,ρ',E,hd,hg,q⟩;cases ds with
 |nil=>
  cases hg;rw[cw]at hd;exact EE pins s σ H vs us Q I r ⟨hd,q _ E λi x e _=>⟨rfl,e⟩⟩
 |cons _ _=>cases hg
theorem zG{e:Te}{es:bz}{g:GF}{h:DS}(h1:XG X e g)(h2:Iz X es h)(hs:(assignEach (e::es) X.env).map (·.2)=assign e X.env::(assignEach es X.env).map (·.2):=by rfl):Iz X (e::es) (CW g h):=by
 refine⟨?_⟩;rintro pins s σ H vs us Q I r ⟨O,ρ,ds,ρ',E,hd,hg,q⟩;cases ds with
 |nil=>cases hg
 |cons d ds=>
  obtain⟨ρ1,e1,e2⟩:=bind_some hg;rw[bb]at hd;obtain⟨v,vr,ev,d1,d2⟩:=hd;exact B2 h1.h h2.h hs pins s σ H vs us Q I r ⟨v,vr,ev,O,ρ,d,ρ1,E,d1,e1,λσ1 E1 k1=>⟨O,ρ1,ds,ρ',E1,d2,e2,λσ2 E2 k2=>q σ2 E2 λi x e nv=>by
   obtain⟨a1,a2⟩:=k2 i x e nv;obtain⟨b1,b2⟩:=k1 i x a2 nv;exact⟨a1.trans b1,b2⟩⟩⟩
theorem F7{es:bz}{k:Nat}{g:DS}{n:Nat}(hc:X.calm=true)(h:Iz X es g)(hn:(assignEach es X.env).length=n:=by rfl)(hst:(assignEach es X.env).findIdx? (·.1)=none:=by rfl):XG X (.Tuple es k pos) (gT n g):=by
 refine⟨?_⟩;rintro pins s σ H v u Q I r ⟨O,ρ,d,ρ',E,hd,hg,q⟩;cases d with
 |tup xs=>
  obtain⟨p,vs,ev,g1,g2⟩:=bW.mp hd;have hg':(if xs.length=n then g xs ρ else none)=some ρ':=hg;by_cases hl:xs.length=n
  ·rw[if_pos hl]at hg';exact HD hc h.h hn hst pins s σ H v u Q I r ⟨p,vs,ev,bK (aq H O) g1,by rw[<-g2.length];exact hl,O,ρ,xs,ρ',E,g2,hg',q⟩
  ·rw[if_neg hl]at hg';cases hg'
 |_=>cases hg
end
section
variable[aA]
theorem CA{X:Cx}:JD X [] bx:=⟨λpins s σ H Q I ⟨O,ρ,E,q⟩=>F8 pins s σ H Q I (q H (aR.refl H))⟩
theorem Bq{X:Cx}{c:Te}{F:bS}(h:XT X c F):JD X [c] F:=⟨Ee h.h⟩
end
section
variable[aA]{X:Cx}{elt tg iter:Te}{ifs:bz}{scope:Tt}{pos:Pos}{N:ay}{ix:gA}{G:bC}{g:GF}{C:bS}{Fe:FX}
theorem Ht(hc:X.calm=true)(ok:mr X scope N ix)(tk:oW ix g)(hi:XI X tg iter G)(hb:qW X scope N tg elt ifs g C Fe)(hs:∀x,TL iter X.env x=pure x:=by intro _;rfl):XE X (.ListComp elt [⟨tg,iter,ifs,0⟩] scope pos) (du ix G g C Fe):=⟨PE.weak (GH hc ok.cell ok.kind ok.names ok.free ok.ix hi.h hb.h.k hs) (GW tk)⟩
end
section
variable[aA]{X:Cx}{st:Tf}{rest body:eE}{pos:Pos}
theorem BO:nB X [] aV:=⟨λHb Ob=>vA.weak Fy λE σ H ⟨O,ρ,k,r,S,hF,hk⟩=>hk.nx O ρ σ H S hF⟩
theorem AJ{F1 F2:bI}(h1:XS X st F1)(h2:nB X rest F2):nB X (st::rest) (ai F1 F2):=⟨λHb Ob=>vA.weak (AU (h1.h Hb Ob) (h2.h Hb Ob)) λE σ H ⟨O,ρ,k,r,S,hF,hk⟩=>
 ⟨O,ρ,{k with nx:=F2 k},r,S,hF,hk.ne,λO' ρ' σ' H' S' e=>⟨O',ρ',k,r,S',e,hk⟩,hk.bk,hk.ct,hk.rt,hk.ex⟩⟩
theorem CD{F1:bI}(h1:XS X st F1):nB X [st] F1:=⟨λHb Ob=>yj (h1.h Hb Ob)⟩
theorem FJ{e:Te}{f:FX}(h:XE X e f):XS X (.Return (some e) pos) (aJ f):=⟨λHb Ob=>PS.weak (Hw h.h) λE σ H ⟨O,ρ,k,r,S,hF,hk⟩=>
 ⟨O,ρ,S.env,gE.on hF hk S λd e v H' s' d'=>hk.rt d O v H' e.symm (S.base.same' s') d'⟩⟩
theorem Di:XS X (.Pass pos) aV:=⟨λHb Ob=>PS.weak EH λE σ H ⟨O,ρ,k,r,S,hF,hk⟩=>hk.nx O ρ σ H S hF⟩
theorem Fv{x j pos'}:XS X (.Expr (.Constant (.str x) j pos) pos') aV:=⟨λHb Ob=>PS.weak IC λE σ H ⟨O,ρ,k,r,S,hF,hk⟩=>hk.nx O ρ σ H S hF⟩
theorem HZ{c:Te}{a b:eE}{tc:bS}{A B:bI}(hc:XT X c tc)(ha:nB X a A)(hb:nB X b B):XS X (.If c a b pos) (eQ tc A B):=⟨λHb Ob=>PS.weak (Jz hc.h (ha.h Hb Ob) (hb.h Hb Ob)) λE σ H ⟨O,ρ,k,r,S,hF,hk⟩=>
 ⟨O,ρ,S.env,gE.on hF hk S fun z e H1 s1=>by
  cases z with
  |true=>exact vU ⟨O,ρ,k,r,S.same s1,e,hk⟩
  |false=>exact uW ⟨O,ρ,k,r,S.same s1,e,hk⟩⟩⟩
theorem FZ{i:Nat}{x:Str}{e:Te}{f:FX}{pos':Pos}(hN:X.N.Nodup)(hi:X.N[i]?=some x)(hx:Loc X.env.scope x)(he:XE X e f)(hs:swapsWith e (some (.Name x pos')) pos.line X.env=pure false:=by rfl)(hf:X.fn x=true\/X.env.scope.names.lookup x=some .local:=by first|exact .inl rfl|exact .inr rfl|assumption):XS X (.Assign [.Name x pos'] e pos) (aM i f):=⟨rZ (List.getElem?_eq_some_iff.mp hi).1 (tM hN hi hx he.h hs hf)⟩
theorem Jt{elt tg iter:Te}{ifs:bz}{scope:Tt}{N:ay}{ix:gA}{G:bC}{g:GF}{C:bS}{Fe:FX}{i:Nat}{y:Str}{lpos py spos:Pos}(hN:X.N.Nodup)(hi':X.N[i]?=some y)(hx:Loc X.env.scope y)(hc:X.calm=true)(ok:mr X scope N ix)(tk:oW ix g)(hi:XI X tg iter G)(hb:qW X scope N tg elt ifs g C Fe)(hsw:swapsWith (.ListComp elt [⟨tg,iter,ifs,0⟩] scope lpos) (some (.Name y py)) spos.line X.env=pure true:=by rfl)(hs:∀x,TL iter X.env x=pure x:=by intro _;rfl)(hf:X.fn y=true\/X.env.scope.names.lookup y=some .local:=by first|exact .inl rfl|exact .inr rfl|assumption):XS X (.Assign [.Name y py] (.ListComp elt [⟨tg,iter,ifs,0⟩] scope lpos) spos) (aM i (du ix G g C Fe)):=⟨rZ (List.getElem?_eq_some_iff.mp hi').1 (PS.weak (Gu hN hi' hx hc ok.cell ok.kind ok.names ok.free ok.ix hi.h hb.h.k hsw hs hf) λE σ H q=>GW tk σ H _ q)⟩
theorem Fg{tg e:Te}{f:FX}{g:GF}(he:XE X e f)(hg:XG X tg g)(hs:swapsWithSole [tg] e pos.line X.env=pure false:=by rfl)(hw:swappedStores [tg] e X.env=pure none:=by rfl)(h1:(assignEach [tg] X.env).map (·.2)=[assign tg X.env]:=by rfl):XS X (.Assign [tg] e pos) (Ft f g):=⟨λHb Ob=>PS.weak (IT he.h hg.h hs hw h1) λE σ H ⟨O,ρ,k,r,S,hF,hk⟩=>
 ⟨O,ρ,S.env,gE.on hF hk S fun d e v H1 s1 d1=>by
  cases hg.h:g d ρ with
  |none=>rw[hg.h]at e;exact absurd e.symm hk.ne
  |some ρ1=>
   rw[hg.h]at e;refine⟨O,ρ,d,ρ1,(S.same s1).env,d1,hg.h,λσ' E' own=>hk.nx O ρ1 σ' H1 ((S.same s1).after E' own) e⟩⟩⟩
theorem CF:XS X st qB:=⟨λHb Ob pins s σ H E I ⟨O,ρ,k,r,S,hF,hk⟩=>absurd hF.symm hk.ne⟩
theorem yT{st:eE}:nB X st qB:=⟨λHb Ob pins s σ H E I ⟨O,ρ,k,r,S,hF,hk⟩=>absurd hF.symm hk.ne⟩
theorem zF{st:eE}{F:bI}(is:List Nat)(h:nB X st F):nB X st (bQ is F):=⟨λHb Ob=>vA.weak (h.h Hb Ob) λE σ H ⟨O,ρ,k,r,S,hF,hk⟩=>⟨O,TG.kill is ρ,k,r,S.kill is,hF,hk⟩⟩
theorem Ey{tg iter:Te}{G:bC}{g:GF}{B:bI}(hp:TK (model X.prog X.w) X.A X.env X.xe)(hc:X.calm=true)(hi:XI X tg iter G)(hg:XG X tg g)(hb:nB X body B)(hs:∀x,TL iter X.env x=pure x:=by intro _;rfl):XS X (.For tg iter body [] pos) (eS G g B):=⟨λHb Ob pins s σ H E I ⟨O,ρ,k,r,S,hF,hk⟩=>by
 have hall:vA X body (λE σ H=>∃Hb',L9 X Hb' Ob B E σ H):=λpins s σ H E I ⟨Hb',q⟩=>hb.h Hb' Ob pins s σ H E I q;refine HJ hp hc hi.h hg.h hall hs pins s σ H E I ⟨O,ρ,S.env,gE.on hF hk S λds hF J H1 s1 wk=>?_⟩;have E1:=S.same s1;refine⟨λi m σ H=>m=ds.length-i/\i<=ds.length/\∃O' ρ',cX X.K (lb H1 O Ob) Ob O' H ρ' σ/\f7 g B k (ds.drop i) ρ'=r,
  ⟨ds.length,by rw[Qn],Ph _,O,ρ,E1.loop,by rw[P7];exact hF⟩,?_⟩
 rintro i m σ' H' ⟨rfl,hi',O',ρ',E',hr⟩;have sD:=Dk E1.base E'.base;by_cases hlt:i<ds.length
 ·right;obtain⟨go,yl⟩:=(wk H' O' i E'.env.all sD).1 ds[i] (by simp[hlt]);refine⟨go,λσ2 H2=>ds.length-(i+1)=ds.length-(i+1)/\i+1<=ds.length/\∃O' ρ',cX X.K (lb H1 O Ob) Ob O' H2 ρ' σ2/\f7 g B k (ds.drop (i+1)) ρ'=r,λσ2 H2 z=>⟨ds.length-(i+1),by omega,z⟩,λx H2 y=>?_⟩;obtain⟨s2,dx⟩:=yl x H2 y;have E':=E'.same s2;rw[Qp hlt]at hr;cases hg':g ds[i] ρ' with
  |none=>
   have hr':(rO (g ds[i] ρ')).bind (λρ1=>B ⟨f7 g B k (ds.drop (i+1)),k.nx,f7 g B k (ds.drop (i+1)),k.ex⟩ ρ1)=r:=hr;rw[hg']at hr';exact absurd hr'.symm hk.ne
  |some ρ1=>
   have hr':(rO (g ds[i] ρ')).bind (λρ1=>B ⟨f7 g B k (ds.drop (i+1)),k.nx,f7 g B k (ds.drop (i+1)),k.ex⟩ ρ1)=r:=hr;rw[hg']at hr';refine⟨O',ρ',ds[i],ρ1,E'.env,dx,hg',λσ3 E3 own=>?_⟩;have E3':cX X.K (lb H1 O Ob) Ob O' H2 ρ1 σ3:=E'.after E3 own;exact⟨lb H1 O Ob,O',ρ1,⟨f7 g B k (ds.drop (i+1)),k.nx,f7 g B k (ds.drop (i+1)),k.ex⟩,r,E3',hr',hk.loop E1.base (λO4 ρ4 σ4 H4 E4 z=>⟨rfl,hlt,O4,ρ4,E4,z⟩) (λO4 ρ4 σ4 H4 E4 z=>⟨rfl,hlt,O4,ρ4,E4,z⟩) rfl rfl rfl rfl⟩
 ·left;have ei:i=ds.length:=by omega
  subst ei;refine⟨(wk H' O' ds.length E'.env.all sD).2 rfl,?_⟩;rw[Qs]at hr;exact hk.nx O' ρ' σ' H' (E'.back E1.base) hr⟩
end
section
variable[aA]{X:Cx}{pos:Pos}
theorem Fz{es:bz}{g:bC}(h:XA X es g):XN X (.List es pos) (fm g):=⟨PE.weak (oa h.h) λσ H Q ⟨O,ρ,E,hF⟩=>⟨O,ρ,E,(gE.bind hF).imp λxs hF vs H1 s1 d1=>by
  obtain⟨d,e,q⟩:=gE.rO hF;obtain⟨hz,e⟩:=bA e;subst e;refine⟨by rw[<-d1.length];exact dN hz,λp hp=>?_⟩;exact q p _ (s1.trans (bj hp _)) (s1.free hp) ⟨_,av,trivial⟩ (jQ hp d1)⟩⟩
theorem Bz{x:Str}{p:Pos}{e:Te}{f:bC}(hg:Gl X x)(hm:X.mg x=none)(hv:Tr x=some (.type "list"))(ha:XA X [e] f)(hn:x≠"__name__":=by decide)(hdb:(x==("__debug__":Str))=false:=by decide)(hns:noStar e=true:=by rfl):XN X (.Call (.Name x p) [e] [] pos) (fL lu f):=⟨PE.weak (tL jr hg hm hv ha.h hn hdb (cB hns) (eX rfl)) λσ H Q ⟨O,ρ,E,hF⟩=>⟨O,ρ,E,(gE.bind hF).imp λds hF vs H1 s1 d1=>by
  obtain⟨d,hg,q⟩:=gE.rO hF;unfold lu at hg;split at hg
  ·rename_i ys;cases hg;obtain⟨v,ev,h1⟩:=d1.one;rw[bX]at h1;obtain⟨p,ws,ep,g1,g2⟩:=h1;exact⟨p,ws,by rw[ev,ep],.inl ((aq H1 O).seq g1),λl hl=>q l _ (s1.trans (bj hl _)) (s1.free hl) ⟨_,av,trivial⟩ (jQ hl g2)⟩
  ·rename_i ys;cases hg;obtain⟨v,ev,h1⟩:=d1.one;rw[bW]at h1;obtain⟨p,ws,ep,g1,g2⟩:=h1;exact⟨p,ws,by rw[ev,ep],.inr (bK (aq H1 O) g1),λl hl=>q l _ (s1.trans (bj hl _)) (s1.free hl) ⟨_,av,trivial⟩ (jQ hl g2)⟩
  ·cases hg⟩⟩
theorem Av:XN X (.Dict [] [] pos) oH:=⟨TG.Cj ⟩
theorem En{i:Nat}{x:Str}{e:Te}{f:FX}{pos':Pos}(hN:X.N.Nodup)(hi:X.N[i]?=some x)(hx:Loc X.env.scope x)(he:XN X e f)(hs:swapsWith e (some (.Name x pos')) pos.line X.env=pure false:=by rfl)(hf:X.fn x=true\/X.env.scope.names.lookup x=some .local:=by first|exact .inl rfl|exact .inr rfl|assumption):XS X (.Assign [.Name x pos'] e pos) (iC i f):=⟨sJ (List.getElem?_eq_some_iff.mp hi).1 (tM hN hi hx he.h hs hf)⟩
end
section
variable[aA]
theorem yY{X:Cx}{elt tg iter:Te}{ifs:bz}{scope:Tt}{N:ay}{ix:gA}{G:bC}{g:GF}{C:bS}{Fe:FX}{i:Nat}{y:Str}{lpos py spos:Pos}(hN:X.N.Nodup)(hi':X.N[i]?=some y)(hx:Loc X.env.scope y)(hc:X.calm=true)(ok:mr X scope N ix)(tk:oW ix g)(hi:XI X tg iter G)(hb:qW X scope N tg elt ifs g C Fe)(hsw:swapsWith (.ListComp elt [⟨tg,iter,ifs,0⟩] scope lpos) (some (.Name y py)) spos.line X.env=pure true:=by rfl)(hs:∀x,TL iter X.env x=pure x:=by intro _;rfl)(hf:X.fn y=true\/X.env.scope.names.lookup y=some .local:=by first|exact .inl rfl|exact .inr rfl|assumption):XS X (.Assign [.Name y py] (.ListComp elt [⟨tg,iter,ifs,0⟩] scope lpos) spos) (iC i (du ix G g C Fe)):=⟨sJ (List.getElem?_eq_some_iff.mp hi').1 (PS.weak (Gu hN hi' hx hc ok.cell ok.kind ok.names ok.free ok.ix hi.h hb.h.k hsw hs hf) λE σ H q=>C2 tk σ H _ (GV σ H _ q))⟩
theorem IX{X:Cx}{elt tg iter:Te}{ifs:bz}{scope:Tt}{pos:Pos}{N:ay}{ix:gA}{G:bC}{g:GF}{C:bS}{Fe:FX}(hc:X.calm=true)(ok:mr X scope N ix)(tk:oW ix g)(hi:XI X tg iter G)(hb:qW X scope N tg elt ifs g C Fe)(hs:∀x,TL iter X.env x=pure x:=by intro _;rfl):XN X (.ListComp elt [⟨tg,iter,ifs,0⟩] scope pos) (du ix G g C Fe):=⟨PE.weak (GH hc ok.cell ok.kind ok.names ok.free ok.ix hi.h hb.h.k hs) λσ H Q q=>C2 tk σ H _ (GV σ H _ q)⟩
theorem Iy{X : Cx}{i : Nat}{x m : Str}{id : String}{r : V -> aK -> Hp -> VK -> Prop}{u : List D -> List D -> Option (List D)}{e : Te}{es : bz}{f : bC}{npos apos cpos pos : Pos}(slot : Slot "list" m id)(hty : typeOf (.builtin id) = pure (.type "method_descriptor"))(hm : Ln X id r)(ok : Gq X.K r u)(hx : XV X (.Name x npos) i)(he : XA X (e :: es) f)(hbase : Uq (.Name x npos) m X.env (eval (.Name x npos) X.env) = eval (.Name x npos) X.env := by rfl)(hfew : ((backTo cpos (Tv (e :: es) X.env)).all (fun x => !x.1) && (backToKw cpos (T2 [] X.env)).all (fun x => x.1.isSome)
      && decide ((e::es:bz).length+([]:List Ur).length+(if([]:List Ur).isEmpty then 0 else 1)<30))=true:=by rfl)(hline:(apos.endLine==cpos.line)=true:=by rfl)(hs:Tv (e::es) X.env=(false,eval e X.env)::Tv es X.env:=by rfl)(hplain:(backTo cpos (Tv es X.env)).any (·.1)=false:=by rfl)(hsw:swapsWith (.Call (.Attribute (.Name x npos) m apos) (e::es) [] cpos) none pos.line X.env=pure false:=by rfl):XS X (.Expr (.Call (.Attribute (.Name x npos) m apos) (e::es) [] cpos) pos) (xR i u f):=⟨λHb Ob pins s σ H E I ⟨O,ρ,k,rr,S,hF,hk⟩=>by
  unfold xR at hF;split at hF
  · rename_i xs hxs
    obtain⟨a,ha,haO,hat⟩:=S.env.own i _ hxs;obtain⟨o,vs0,ho,eo,dn⟩:=hat;subst eo;refine pq (vk F.plainAttrs_list slot hty hm hx.h he.h hbase hfew hline hs hplain) hsw pins s σ H E I ⟨.ref a,ha,.inl ⟨rfl,vs0,lT.of ho⟩,O,ρ,S.env,gE.on hF hk S λds hr vs H1 s1 d1=>?_⟩;have S1:=S.same s1;cases hu1:u xs ds with
    |none=>rw[hu1]at hr;exact absurd hr.symm hk.ne
    |some ys=>
      rw[hu1]at hr;exact ok H1 O a xs ys ds vs0 vs _ S1.env.all haO (s1 _ _ ho) (dn.mono (bi s1)) d1 hu1 λws' v new=>hk.nx O _ σ _ (S1.setO hxs ha trivial (oy haO new)) hr
  ·exact absurd hF.symm hk.ne⟩
theorem DB{X:Cx}{st:eE}{F:bI}(i:Nat)(h:nB X st F):nB X st (eT i F):=⟨λHb Ob=>vA.weak (h.h Hb Ob) λE σ H ⟨O,ρ,k,r,S,hF,hk⟩=>by
 obtain⟨O',S'⟩:=S.frz i;exact⟨O',TG.frz i ρ,k,r,S',hF,hk⟩⟩
theorem Bx{X:Cx}{e:Te}{f:bS}(is:List Nat)(h:XT X e f):XT X e (j6 is f):=⟨PT.weak h.h λσ H Q ⟨O,ρ,E,hF⟩=>by
 obtain⟨O',E'⟩:=E.frzs is;refine⟨O',TG.frzs is ρ,E',?_⟩;unfold j6 at hF;cases hf:f (TG.frzs is ρ)with
 |error z=>rw[hf]at hF;exact hF.elim
 |ok d=>rw[hf]at hF;exact hF⟩
theorem wI{X:Cx}{k k':Nat}{ps:ay}{g:cT}{h:bC}{x:Str}{p pos:Pos}{e:Te}{es:bz}(C:Callee X.prog X.w X.K X.mg X.base k x ps g)(hn:Ar ps.length g)(hr:eY k' X.A)(hk:k<=k')(ha:XA X (e::es) h)(hg:Gl X x:=by rfl)(hdb:(x==("__debug__":Str))=false:=by decide)(hns:(e::es).all noStar=true:=by rfl):XE X (.Call (.Name x p) (e::es) [] pos) (fR g h):=by
 refine⟨?_⟩;obtain⟨f,fd,F,b,kp,m⟩:=C;exact PE.weak (Cv F (hr.mono hk) hg m kp b ha.h hdb (cB (Pz _ _ ▸ hns).1) (eX (Pz _ _ ▸ hns).2)) (zt hn)
end
section
variable[aA]{X:Cx}{a b c:Te}{fa fb fc:FX}{pos:Pos}
theorem zY{op op':TU}{r r':R2}{g g':D->D->bF}(ho:iG X (TR op) r)(s:cS X.K r g)(ho':iG X (TR op') r')(s':cS X.K r' g')(ha:XE X a fa)(hb:XE X b fb)(hc:XE X c fc)(hm:lastMarks [op,op'] [b,c]=false:=by with_unfolding_all rfl):XE X (.Compare a [op,op'] [b,c] pos) (lQ g g' fa fb fc):=⟨PE.weak (Bf ho ho' ha.h hb.h hc.h hm) (sQ s s')⟩
theorem zp{op op':TU}{r r':R2}{g g':D->D->bF}(ho:iG X (TR op) r)(s:cS X.K r g)(ho':iG X (TR op') r')(s':cS X.K r' g')(ha:XE X a fa)(hb:XE X b fb)(hc:XE X c fc)(hm:lastMarks [op,op'] [b,c]=false:=by with_unfolding_all rfl):XT X (.Compare a [op,op'] [b,c] pos) (fB (lQ g g' fa fb fc)):=⟨PT.weak (Bv ho ho' ha.h hb.h hc.h hm) (vS (sQ s s'))⟩
theorem FH(ha:XE X a fa):XE X (.UnaryOp .USub a pos) (lP fa):=⟨PE.weak (JA IM ha.h) (Hv λx d v O H Q _ e dv q=>by
 cases x with
 |int i=>cases e;exact⟨i,eM.mp dv,q _ H (aR.refl H) (eM.mpr rfl)⟩
 |_=>cases e)⟩
end
section
variable[aA]{X:Cx}
theorem Ec{a b:Te}{es:bz}{k:Nat}{tpos:Pos}{f:bC}{p pos:Pos}(hg:Gl X "zip")(hm:X.mg "zip"=none)(ha:XA X [a,b] f)(hs:Tv [a,b] X.env=(false,eval a X.env)::Tv [b] X.env:=by rfl)(hpl:(backTo pos (Tv [b] X.env)).any (·.1)=false:=by rfl):XI X (.Tuple es k tpos) (.Call (.Name "zip" p) [a,b] [] pos) (oT f):=by
 refine⟨?_⟩;rintro pins s σ H RR I ⟨O,ρ,E,hG⟩;have hA:=ha.h pos pins s σ H (λvs H1=>∃ds r,rh ds=some r/\aI X.K (hid H1 O) ds vs/\∀J,Walk X.K (hid H1 O) J r->RR J H1) I ⟨O,ρ,E,(gE.bind hG).imp λds hG vs H1 s1 d1=>by
  obtain⟨r,e,q⟩:=gE.rO hG;exact⟨ds,r,e,d1,λJ wk=>q J H1 s1 wk⟩⟩
 refine SU (jP I hg hm PyProof.Rows.boot_zip (SL (cM hA λus s1 ⟨vs,H1,I1,r1,ds,r,er,d1,q⟩=>?_) hs hpl));exact Jr I1 er d1 r1 q
theorem qS{a:Te}{es:bz}{k:Nat}{tpos:Pos}{f:bC}{p pos:Pos}(hg:Gl X "enumerate")(hm:X.mg "enumerate"=none)(ha:XA X [a] f)(hs:Tv [a] X.env=(false,eval a X.env)::Tv [] X.env:=by rfl)(hpl:(backTo pos (Tv [] X.env)).any (·.1)=false:=by rfl):XI X (.Tuple es k tpos) (.Call (.Name "enumerate" p) [a] [] pos) (fU f):=by
 refine⟨?_⟩;rintro pins s σ H RR I ⟨O,ρ,E,hG⟩;have hA:=ha.h pos pins s σ H (λvs H1=>∃ds r,sR ds=some r/\aI X.K (hid H1 O) ds vs/\∀J,Walk X.K (hid H1 O) J r->RR J H1) I ⟨O,ρ,E,(gE.bind hG).imp λds hG vs H1 s1 d1=>by
  obtain⟨r,e,q⟩:=gE.rO hG;exact⟨ds,r,e,d1,λJ wk=>q J H1 s1 wk⟩⟩
 refine SU (jP I hg hm PyProof.Rows.boot_enumerate (SL (cM hA λus s1 ⟨vs,H1,I1,r1,ds,r,er,d1,q⟩=>?_) hs hpl));exact Ej I1 er d1 r1 q
end
section
variable[aA]{X:Cx}{a o e:Te}{es:bz}{fa fo:FX}{fas:bC}{f m x:Str}{cs:ay}{pos apos p:Pos}{k k':Nat}{ps:ay}
theorem A8{tbl : List (Str × (cT))}{pl : Sem Bool}(tb : qf X.prog X.w X.K X.mg X.base k m ps tbl)(hr : eY k' X.A)(hk : k <= k')(ho : XE X o fo)(ha : XA X (e :: es) fas)(hns : (e :: es).all noStar = true := by rfl)(ht : eval (.Call (.Attribute o m apos) (e :: es) [] pos) X.env = (do
      let ov<-eval o X.env
      standAt apos.atName
      let (f,first)<-holding [ov] (getMethod ov m pl)
      T1 pos f first (backTo pos (Tv (e::es) X.env)) (backToKw pos (T2 [] X.env))):=by rfl):XE X (.Call (.Attribute o m apos) (e::es) [] pos) (jc m tbl fo fas):=⟨vZ tb (hr.mono hk) ho.h (λpins s1 σ H1 O ρ a f od Q g fd _ kp F b ar I1 E1 dO hP=>by
    refine Se (first:=[.ref a]) (h₀:=X.base) I1.ok.mod.kin kp (cM (ha.h pos pins s1 σ H1 _ I1 ⟨O,ρ,E1,(gE.bind hP).imp λas hP vs H2 s2 d2=>pY (vs:=.ref a::vs) ar (E1.all.same s2) (bb.mpr ⟨_,_,rfl,dO.mono (bi s2),d2⟩) ((hP.mono s2).imp λd q v H3 s3 d3=>q v H3 (s2.trans s3) d3)⟩) λus s2 ⟨vs,H2,I2,r,Ex,hx,q2⟩=>⟨I2.kIn,?_⟩) (cB (Pz _ _ ▸ hns).1) (eX (Pz _ _ ▸ hns).2);exact uj (us:=.ref a::us) (vs:=.ref a::vs) F (hr.mono hk) b hx I2 (.cons rfl r) q2) ht⟩
theorem yW{tbl : List (Str × (cT))}{pl : Sem Bool}(tb : qf X.prog X.w X.K X.mg X.base k m ps tbl)(hr : eY k' X.A)(hk : k <= k')(ho : XE X o fo)(ht : eval (.Call (.Attribute o m apos) [] [] pos) X.env = (do
      let ov<-eval o X.env
      standAt apos.atName
      let (f,first)<-holding [ov] (getMethod ov m pl)
      T1 pos f first (backTo pos (Tv [] X.env)) (backToKw pos (T2 [] X.env))):=by rfl):XE X (.Call (.Attribute o m apos) [] [] pos) (jc m tbl fo af):=⟨vZ tb (hr.mono hk) ho.h (λpins s1 σ H1 O ρ a f od Q g fd _ kp F b ar I1 E1 dO hP=>by
    have hP':gE X σ O H1 (g [od]) λd=>∀v H',aR H1 H'->cq X.K (hid H' O) d v->Q v H':=hP;obtain⟨Ex,hx,q2⟩:=pY (vs:=[.ref a]) ar E1.all (bb.mpr ⟨_,_,rfl,dO,cw.mpr rfl⟩) hP';exact PySem.W.callWith_K0 (first:=[.ref a]) I1.kIn kp (uj (us:=[.ref a]) (vs:=[.ref a]) F (hr.mono hk) b hx I1 (.cons rfl .nil) q2)) ht⟩
theorem Ew{c:Str}{fs:ay}(IA:ub X.prog X.w X.K X.mg X.base k c ps fs)(hr:eY k' X.A)(hk:k+1<=k')(hg:Gl X c)(ha:XA X (e::es) fas)(hdb:(c==("__debug__":Str))=false:=by decide)(hns:(e::es).all noStar=true:=by rfl):XE X (.Call (.Name c p) (e::es) [] pos) (fNew c fs fas):=by
 refine⟨?_⟩;obtain⟨C,f,fd,h1,h2,h3,h4,h5⟩:=IA;refine PE.weak (Fj (dvs:=[]) (E:=E0) h2 h3 (hr.mono hk) hg h5 h4 .nil Kg ha.h hdb (cB (Pz _ _ ▸ hns).1) (eX (Pz _ _ ▸ hns).2)) λσ H Q ⟨O,ρ,E,hF⟩=>⟨O,ρ,E,(gE.bind hF).imp λas hF vs H1 s1 d1 x dx hx hd ne=>?_⟩
 by_cases hl:as.length=fs.length
 ·rw[if_pos hl]at hF;rw[Pj];refine⟨x,dx,vs,rfl,by rw[<-d1.length,hl],by rw[av],rfl,?_⟩;obtain⟨sm,dn⟩:=vi h1 hl d1 (E.all.same s1) hx hd ne;exact hF _ _ (s1.trans sm) dn
 ·rw[if_neg hl]at hF;exact hF.elim
end
section
variable[aA]
theorem AW{X:Cx}{i:Nat}{x:Str}{idx value:Te}{fk fv:FX}{npos tpos pos:Pos}(hu:X.A.units+64<T5)(hx:XV X (.Name x npos) i)(hi:XE X idx fk)(hv:XE X value fv)(hs:swapsWith value (some (.Subscript (.Name x npos) idx tpos)) pos.line X.env=pure false:=by rfl):XS X (.Assign [.Subscript (.Name x npos) idx tpos] value pos) (qD i fk fv):=⟨λHb Ob pins s σ H E I ⟨O,ρ,k,rr,S,hF,hk⟩=>by
 unfold qD at hF;split at hF
 ·rename_i ks ds hxs;obtain⟨a,ha,haO,hat⟩:=S.env.own i _ hxs;have hP:=gE.on hF hk S (Q:=λal=>k.nx (ρ.set i (some (.own (bD al))))=rr) λp e=>e;refine Bc ‹0› hx.h hi.h hv.h hs pins s σ H E I ⟨O,ρ,S.env,(gE.bind hP).imp λy hP v H1 s1 d1=>?_⟩;have S1:=S.same s1;refine⟨.ref a,ha,O,ρ,S1.env,((gE.bind hP).mono s1).imp λj hP w H2 s2 d2=>?_⟩;have S2:=S1.same s2;obtain⟨al',hg,e⟩:=gE.rO hP;obtain⟨al,q,f1,f2,f3,f4,f5⟩:=xH hg;subst f1 f2 f3 f5;have s12:=s1.trans s2;obtain⟨b,ws,eb,g1,g2⟩:=bW.mp d2;rw[fG g2]at g1;have hat2:cx X.K H2 O a (bD al):=hat.mono (let ⟨_,z⟩:=hat.some;o5 s12 z) (bi s12);have dv:cq X.K (hid H2 O) y v:=d1.mono (bi s2);have fin:∀kvs:List (List Key×V),kvs.map (·.1)=al.map (·.1)->aI X.K (hid H2 O) (al.map (·.2)) (kvs.map (·.2))->cx X.K (upd H2 a (.dT (putK kvs q v))) O a (bD (fw al q y)):=λkvs k2 k3=>
   ⟨_,_,av,(yh dv k2 k3).mono (eL haO),.inr ⟨putK kvs q v,rfl,uc (vd k2 q v y),rfl⟩⟩
  rcases MD hat2 with⟨kvs,k1,k2,k3⟩|⟨k1,rfl⟩
  ·have hl:kvs.length=al.length:=(by have:=congrArg List.length k2;simpa using this);exact⟨a,q,b,kvs,rfl,eb,(aq H2 O) _ _ g1,.inl k1,by rw[hl];exact Qq (of_decide_eq_true f4) (by decide),hk.nx O _ σ _ (S2.setO hxs ha trivial (fin kvs k2 k3)) e⟩
  ·exact⟨a,q,b,[],rfl,eb,(aq H2 O) _ _ g1,.inr ⟨k1,rfl⟩,by decide,hk.nx O _ σ _ (S2.setO hxs ha trivial (fin [] rfl (cw.mpr rfl))) e⟩
 ·exact absurd hF.symm hk.ne⟩
end
section
variable[aA]{X:Cx}{pins:bc}{s:Tg}{σ:L2.St}{H:Hp}{O:ax}
theorem zb{f:FX}{j:Nat}{k:Nat}{c P cc:Td}{e:Te}{p lpos kp pos np mp p2 spos:Pos}{row many:Str}{params:Ua}{scope:Tt}(hr:eY k X.A)(hg:Gl X "sorted")(hm:X.mg "sorted"=none)(B:DF X.mg X.base c P)(hcode:X.env.code=.ref c)(hT:∀H,aA.tab H->H P=some (.ext (oh P lpos (X.env.qual++"<lambda>"))))(he:XE X e f)(hN:X.N[j]?=some many)(hkm:X.env.kindOf many=some .cell)(hv:HS X.env.scope many)(hcc:X.env.cells.lookup many=some cc)(hcl:closureFor scope X.env=pure [(many,cc)])(hdef:defaultsOf params X.env=([],[]))(hbind:∀cdv ctv v,bindArgs (PySem.W.kla_fn "<lambda>" (X.env.qual++"<lambda>") params (cutE row many np mp p2 spos) scope [(many,cc)] ((X.mg "__name__").getD .none) cdv ctv) ⟨[v],[]⟩=pure [(row,v)])(hco:scope.isCoroutine=false)(hgen:scope.isGenerator=false)(hk:scope.kind=.function)(hno:∀x∈scope.names,x.2≠.cell)(hlr:scope.names.lookup row=some .local)(hlm:scope.names.lookup many=some .free)(d1:(row==("__debug__":Str))=false)(d2:(many==("__debug__":Str))=false)(d3:(many==("__classdict__":Str))=false)(hns:noStar e=true:=by rfl):XE X (.Call (.Name "sorted" p) [e] [⟨some "key",.Lambda params (cutE row many np mp p2 spos) scope lpos,kp⟩] pos) (f2 nW f (ae j)):=by
 refine⟨?_⟩;rintro pins s σ H Q I ⟨O,ρ,E,hF⟩;refine T9 (jP I hg hm lX ?_);have st:backTo pos (Tv [e] X.env)=(false,eval e X.env)::backTo pos (Tv [] X.env):=by rw[cB hns];rfl
 refine PyProof.Rows.callWith_kw ?_ ?_ (eX (by rw[Qa,hns];rfl))
 ·refine cM (gC he.h jk (cB hns) pos pins s σ H (λvs H1=>∃v d a m,vs=[v]/\aR H H1/\ρ[j]?=some (some (.val m))/\nW a m=some d/\cq X.K (hid H1 O) a v/\∀v H',aR H H'->cq X.K (hid H' O) d v->Q v H') I ⟨O,ρ,E,(gE.bind hF).imp λa hF v H1 s1 d1=>?_⟩) λus s1 ⟨vs,H1,I1,rv,v,d,a,m,ev,s1',em,hd,dn,q⟩=>?_
  ·obtain⟨m,em,hF⟩:=rF (gE.bind hF);obtain⟨d,e,q⟩:=gE.rO hF;exact⟨v,d,a,m,rfl,s1,em,e,d1,q⟩
  ·subst ev;obtain⟨u,eu,ru⟩:=vals1 rv;subst eu;have E1:=E.same s1';show Tu _ _ (evalAll ((do let v<-eval (.Lambda params (cutE row many np mp p2 spos) scope lpos) X.env;standAt pos;pure v)::[])) _ _ s1;refine wpAny_evalAll_cons (TH (Cq I1 B hcode (hT _ E1.all.1) hdef hcl λfa c' ctv s2 H2 I2 s2' hfa hcr=>TH (Ut (TF (wpAny_evalAll_nil ?_)))));show Tu (model X.prog X.w) X.A (call (.builtin "sorted") [u] [(Str.ofString "key",.ref fa)]) (EP X pins σ Q) X.xe s2;have E2:=E1.same s2';obtain⟨vm,e3,dm⟩:=E2.val j m em;have core:∀(i:Int)(xs:List D),m=.int i->0<=i->qo i.toNat xs=some d->∀(ys:aK)(its:aU),aI X.K (hid H2 O) xs ys->Vals ys its->
     (∀(Q':aU->cQ),(∀h' tk,(∀b o,s2.heap.get? b=some o->h'.get? b=some o)->Q' its {s2 with heap:=h',toks:=tk})->Tu (model X.prog X.w) X.A.in1 (collect u) Q' X.xe s2)->
     Tu (model X.prog X.w) X.A (call (.builtin "sorted") [u] [(Str.ofString "key",.ref fa)]) (EP X pins σ Q) X.xe s2:=by
    intro i xs ei h0 hs ys its dl ri hcol;subst ei;rw[eM]at dm;subst dm;obtain⟨mm,hns',hl⟩:=I2.loc;obtain⟨uv,ruv,lk⟩:=hl j many (.int i) hN e3 hv;obtain⟨t,rfl⟩:=ruv;have hcell:s2.heap.IsCell cc (some (.int i t)):=by
     rcases lk with⟨z,_⟩|⟨_,c2,ec,hc2⟩
     ·rw[hkm]at z;cases z
     ·rw[hcc]at ec;cases ec;exact hc2
    have dp:=hr.dp;exact wV I2 E2.all dl ri h0 hs hfa hcr ‹0› (λv=>hbind (.ref c') ctv v) hco hgen hk hno hlr hlm hcell d1 d2 d3 hcol λv H' sm dd=>q v H' ((s1'.trans s2').trans sm) dd
   have dn2:=dn.mono (bi (O:=O) s2');unfold nW at hd;split at hd
   ·rename_i xs i;split at hd
    ·rename_i h0;obtain⟨l,ys,el,g1,g2⟩:=bX.mp dn2;subst el;cases ru;obtain⟨its,ri,pl,hz⟩:=I2.list ((aq H2 O).seq g1);have hlen:=ri.length;obtain⟨o,ho,hc,n,hd'⟩:=pl.isList;exact core i xs rfl h0 hd ys its g2 ri λQ' hQ=>UT l (.inl rfl) ho hc hd' (λh' k=>by simpa using hQ h' s2.toks k) (by simp only[O6]<;>omega)
    ·cases hd
   ·rename_i xs i;split at hd
    ·rename_i h0;obtain⟨l,ys,el,g1,g2⟩:=bW.mp dn2;subst el;cases ru;obtain⟨its,ri,⟨o,ho,hc,n,hd'⟩,hz⟩:=I2.tuple (bK (aq H2 O) g1);have hlen:=ri.length;exact core i xs rfl h0 hd ys its g2 ri λQ' hQ=>UT l (.inr rfl) ho hc hd' (λh' k=>by simpa using hQ h' s2.toks k) (by simp only[O6]<;>omega)
    ·cases hd
   ·cases hd
 ·exact st
end
section
variable[aA]
theorem Dv{X:Cx}{i:Nat}{x:Str}{idx value:Te}{fk fv:FX}{npos tpos pos:Pos}(hu:X.A.units+64<T5)(hx:XV X (.Name x npos) i)(hi:XE X idx fk)(hv:XE X value fv)(hs:swapsWith value (some (.Subscript (.Name x npos) idx tpos)) pos.line X.env=pure false:=by rfl):XS X (.Assign [.Subscript (.Name x npos) idx tpos] value pos) (lA i fk fv):=⟨λHb Ob pins s σ H E I ⟨O,ρ,k,rr,S,hF,hk⟩=>by
 unfold lA at hF;split at hF
 ·rename_i ks ds hxs;obtain⟨a,ha,haO,hat⟩:=S.env.own i _ hxs;have hP:=gE.on hF hk S (Q:=λal=>k.nx (ρ.set i (some (.own (vQ al))))=rr) λp e=>e;refine DJ ‹0› hx.h hi.h hv.h hs pins s σ H E I ⟨O,ρ,S.env,(gE.bind hP).imp λy hP v H1 s1 d1=>?_⟩;have S1:=S.same s1;refine⟨.ref a,ha,O,ρ,S1.env,((gE.bind hP).mono s1).imp λj hP w H2 s2 d2=>?_⟩;have S2:=S1.same s2;obtain⟨al',hg,e⟩:=gE.rO hP;obtain⟨al,q,f1,f2,f3,f4,f5⟩:=wQ hg;subst f1 f2 f3 f5;have s12:=s1.trans s2;have hat2:cx X.K H2 O a (vQ al):=hat.mono (let ⟨_,z⟩:=hat.some;o5 s12 z) (bi s12);have dv:cq X.K (hid H2 O) y v:=d1.mono (bi s2);have fin:∀kvs:List (Key×V),kvs.map (·.1)=al.map (·.1)->aI X.K (hid H2 O) (al.map (·.2)) (kvs.map (·.2))->cx X.K (upd H2 a (.dK (putK kvs q v))) O a (vQ (oS al q y)):=λkvs k2 k3=>
   ⟨_,_,av,(B8 dv k2 k3).mono (eL haO),.inl ⟨putK kvs q v,rfl,EK (zK k2 q v y),rfl⟩⟩
  rcases MT hat2 with⟨kvs,k1,k2,k3⟩|⟨k1,rfl⟩
  ·have hl:kvs.length=al.length:=(by have:=congrArg List.length k2;simpa using this);exact⟨a,q,kvs,rfl,qp d2,.inl k1,by rw[hl];exact Qq (of_decide_eq_true f4) (by decide),hk.nx O _ σ _ (S2.setO hxs ha trivial (fin kvs k2 k3)) e⟩
  ·exact⟨a,q,[],rfl,qp d2,.inr ⟨k1,rfl⟩,by decide,hk.nx O _ σ _ (S2.setO hxs ha trivial (fin [] rfl (cw.mpr rfl))) e⟩
 ·exact absurd hF.symm hk.ne⟩
end
section
variable[aA]{X:Cx}{o e f:Te}{apos cpos:Pos}
theorem Ak{fo fk fx : FX}(hu : X.A.units + 64 < T5)(ho : XE X o fo)(he : XE X e fk)(hf : XE X f fx)(hbase : Uq o "get" X.env (eval o X.env) = eval o X.env := by rfl)(hfew : ((backTo cpos (Tv [e, f] X.env)).all (fun x => !x.1) && (backToKw cpos (T2 [] X.env)).all (fun x => x.1.isSome)
      && decide (([e,f]:bz).length+([]:List Ur).length+(if([]:List Ur).isEmpty then 0 else 1)<30))=true:=by rfl)(hline:(apos.endLine==cpos.line)=true:=by rfl)(htr:backTo cpos (Tv [e,f] X.env)=[(false,eval e X.env),(false,eval f X.env)]:=by rfl):XE X (.Call (.Attribute o "get" apos) [e,f] [] cpos) (iE fo fk fx):=⟨PE.weak (zk ‹0› ho.h he.h hf.h ⟨hbase,hfew,hline,htr⟩) λσ H Q ⟨O,ρ,E,hF⟩=>⟨O,ρ,E,(gE.bind hF).imp λdd hF v H1 s1 d1=>by
    cases dd with
    |dct ks ds=>
      obtain⟨a,vs,rfl,_,hd⟩:=id (Ls.mp d1);refine⟨a,rfl,?_,O,ρ,E.same s1,((gE.bind hF).mono s1).imp λk hF y H2 s2 d2=>⟨O,ρ,(E.same s1).same s2,((gE.bind hF).mono (s1.trans s2)).imp λx hF z H3 s3 d3=>?_⟩⟩
      · rcases hd with⟨kvs,e1,_⟩|⟨kvs,e1,_⟩|⟨kvs,o,e1,_⟩
        ·exact .inl ⟨kvs,.inl ((aq H1 O) _ _ e1)⟩
        ·exact .inr ⟨kvs,.inl ((aq H1 O) _ _ e1)⟩
        ·exact .inr ⟨kvs,.inr ⟨o,(aq H1 O) _ _ e1⟩⟩
      · obtain⟨d,hg,q⟩:=gE.rO hF
        obtain⟨al,qk,f1,f2,f3,f4⟩:=wz hg;subst f1 f2 f3 f4;have s23:=s2.trans s3;have d1':cq X.K (hid H3 O) (bD al) (.ref a):=d1.mono (bi s23);have d2':=d2.mono (bi s3);obtain⟨b,ws,eb,g1,g2⟩:=bW.mp d2';rw[fG g2]at g1;have g1':=(aq H3 O) _ _ g1;obtain⟨a',ea,hh⟩:=qa d1';cases ea;subst eb;rcases hh with⟨kvs,k1,k2,k3⟩|⟨k1,rfl⟩
        · refine⟨gz kvs qk,.inl (wg.t ((aq H3 O) _ _ k1) g1'),q _ H3 (s1.trans s23) ?_⟩
          rcases pP qk k2 k3 with⟨z1,z2⟩|⟨w,d,z1,z2,z3⟩
          ·rw[z1,z2];exact d3
          ·rw[z1,z2];exact z3
        ·exact⟨none,.inr ⟨(aq H3 O) _ _ k1,rfl,b,qk,rfl,g1'⟩,q _ H3 (s1.trans s23) d3⟩
    |_=>exact hF.elim⟩⟩
end
section
variable[aA]{X:Cx}{pos:Pos}
theorem BW{i:Nat}{x:Str}{dp pos':Pos}(hN:X.N.Nodup)(hi:X.N[i]?=some x)(hx:Loc X.env.scope x)(hs:swapsWith (.Dict [] [] dp) (some (.Name x pos')) pos.line X.env=pure false:=by rfl)(hf:X.fn x=true\/X.env.scope.names.lookup x=some .local:=by first|exact .inl rfl|exact .inr rfl|assumption):XS X (.Assign [.Name x pos'] (.Dict [] [] dp) pos) (vB i):=⟨λHb Ob pins s σ H E I ⟨O,ρ,k,r,S,hF,hk⟩=>by
 unfold vB at hF;cases hn:E9 ρ with
 |false=>rw[hn]at hF;exact absurd hF.symm hk.ne
 |true=>
  rw[hn]at hF;exact tM hN hi hx Cj hs hf pins s σ H E I ⟨O,ρ,S.env,λp H1 s1 hp m o=>hk.nx _ _ _ H1 (S.setNewN (by rw[I.len];exact(List.getElem?_eq_some_iff.mp hi).1) s1 hp m hn o) hF⟩⟩
end
section
variable[aA]
theorem Ag{X:Cx}{st:eE}{F:bI}(i:Nat)(h:nB X st F):nB X st (vD i F):=⟨λHb Ob=>vA.weak (h.h Hb Ob) λE σ H ⟨O,ρ,k,r,S,hF,hk⟩=>by
 obtain⟨O',S'⟩:=S.frzN i;exact⟨O',TG.frzN i ρ,k,r,S',hF,hk⟩⟩
end
section
variable[aA]{X:Cx}
theorem EL{i:Nat}{x:Str}{ke ve:Te}{fk fv:FX}{npos ap1 cp1 lp ap2 cp2 pos:Pos}(hu:X.A.units+64<T5)(hx:XV X (.Name x npos) i)(hke:XE X ke fk)(hve:XE X ve fv)(hn1:noStar ke=true:=by rfl)(hn2:noStar ve=true:=by rfl)(hb1:Uq (.Name x npos) "setdefault" X.env (eval (.Name x npos) X.env)=eval (.Name x npos) X.env:=by rfl)(hf1:((backTo cp1 (Tv [ke,.List [] lp] X.env)).all (λx=>!x.1)&&(backToKw cp1 (T2 [] X.env)).all (λx=>x.1.isSome)&&decide (([ke,.List [] lp]:bz).length+([]:List Ur).length+(if([]:List Ur).isEmpty then 0 else 1)<30))=true:=by rfl)(hl1:(ap1.endLine==cp1.line)=true:=by rfl)(hp1:(backTo cp1 (Tv [.List [] lp] X.env)).any (·.1)=false:=by rfl)(hb2:Uq (.Call (.Attribute (.Name x npos) "setdefault" ap1) [ke,.List [] lp] [] cp1) "append" X.env (eval (.Call (.Attribute (.Name x npos) "setdefault" ap1) [ke,.List [] lp] [] cp1) X.env)=eval (.Call (.Attribute (.Name x npos) "setdefault" ap1) [ke,.List [] lp] [] cp1) X.env:=by rfl)(hf2:((backTo cp2 (Tv [ve] X.env)).all (λx=>!x.1)&&(backToKw cp2 (T2 [] X.env)).all (λx=>x.1.isSome)&&decide (([ve]:bz).length+([]:List Ur).length+(if([]:List Ur).isEmpty then 0 else 1)<30))=true:=by rfl)(hl2:(ap2.endLine==cp2.line)=true:=by rfl)(hp2:(backTo cp2 (Tv [] X.env)).any (·.1)=false:=by rfl)(hsw:swapsWith (.Call (.Attribute (.Call (.Attribute (.Name x npos) "setdefault" ap1) [ke,.List [] lp] [] cp1) "append" ap2) [ve] [] cp2) none pos.line X.env=pure false:=by rfl):XS X (.Expr (.Call (.Attribute (.Call (.Attribute (.Name x npos) "setdefault" ap1) [ke,.List [] lp] [] cp1) "append" ap2) [ve] [] cp2) pos) (z8 i fk fv):=by
 replace hx:=hx.h
 exact⟨λHb Ob pins s σ H E I ⟨O,ρ,k,rr,S,hF,hk⟩=>by
 obtain⟨al,q,v,al',hi,hfk,hfv,hsm,hg,hnx⟩:=Af hF hk.ne;obtain⟨a,bs,ha,hat,nd,hbs,one⟩:=S.nst i _ hi;obtain⟨kvs,hH,ek,ev,hO⟩:=pG hat;obtain⟨na,nb⟩:=List.nodup_cons.mp nd;obtain⟨aO,aHb,aOb,aS⟩:=hbs a OU;have hlen:kvs.length<Tn:=by
  have:kvs.length=al.length:=by have:=congrArg List.length ek;simpa using this
  rw[this];exact Qq (of_decide_eq_true hsm) (by decide)
 refine pq (vk F.plainAttrs_list F.slot_list_append F.type_list_append km (vk F.plainAttrs_dict F.slot_dict_setdefault F.type_dict_setdefault (Ea hu) hx (gC hke.h (gC (oa jk) jk) (cB hn1)) hb1 hf1 hl1 (cB hn1) hp1) (yI hve.h Dc hn2) hb2 hf2 hl2 (cB hn2) hp2) hsw pins s σ H E I ?_;refine⟨.ref a,ha,.inr (.inr (.inl ⟨rfl,?_⟩)),O,ρ,S.env,?_⟩
 ·rcases hH with h|⟨h,_⟩
  ·exact .inr ⟨_,h⟩
  ·exact .inl ⟨_,h⟩
 rw[hfk];intro y H1 s1 d1;refine⟨Ph _,λp hp=>?_⟩;obtain⟨b,ws,eb,g1,g2⟩:=bW.mp d1;rw[fG g2]at g1;have hb1':H1 b=some (.tup (q.map kV)):=(aq H1 O) _ _ g1;have bp:b≠p:=aD hb1' hp;have ap:a≠p:=by
  rcases hH with h|⟨h,_⟩
  ·exact aD (s1 _ _ h) hp
  ·exact aD (s1 _ _ h) hp
 have pHb:Hb p=none:=(S.base.same.trans s1).free hp;have pO:p∉O:=(S.env.all.same s1).not hp;have pOb:p∉Ob:=λz=>pO (S.base.sub p z);have bsp:∀c∈bs,c≠p:=λc hc=>by
  obtain⟨o,ho⟩:=hO.some c hc;exact aD (s1 _ _ ho) hp
 have E2:dB X.K (p::O) (upd H1 p (.lst [])) ρ σ:=(S.env.same s1).hideNew trivial hp;have sm2:aR (hid H O) (hid (upd H1 p (.lst [])) (p::O)):=(bi s1).trans (mj hp);have sH2:aR H (upd H1 p (.lst [])):=s1.trans (bj hp _);have pS:∀(j:Nat) d',ρ[j]?=some (some (.own d'))->σ[j]?≠some (some (.ref p)):=λj d' w z=>by
  obtain⟨c,e1,e2,_⟩:=S.env.own j d' w;rw[z]at e1;cases e1;exact pO e2
 have fin:∀(H3:Hp)(l:Td)(wl:aK)(ys:List D)(bs':ax)(kvs':List (List Key×V)),dB X.K (p::O) H3 ρ σ->aR (hid (upd H1 p (.lst [])) (p::O)) (hid H3 (p::O))->(∀c o,c≠a->(upd H1 p (.lst [])) c=some o->H3 c=some o)->l∈bs'->l≠a->H3 l=some (.lst wl)->aI X.K (hid H3 (p::O)) ys wl->ys.length+1<=100000->
   (H3 a=some (.dT kvs'))->kvs'.map (·.1)=al'.map (·.1)->kvs'.map (·.2)=bs'.map .ref->(a::bs').Nodup->(∀c∈bs',c∈bs\/c=p)->
   (∀H' O',(∀c∈bs',c≠l->∀x,cx X.K H3 (p::O) c x->cx X.K H' O' c x)->cx X.K H' O' l (.lst (ys++[v]))->iH X.K H' O' bs' (al'.map (·.2)))->
   Ly X.K "list" (.ref l) H3/\Lq X (aa fv af) σ H3 λvs H4=>tY (.ref l) vs H4 λ_ H5=>E.nx σ H5:=by
  intro H3 l wl ys bs' kvs' E3 sm3 keep3 lb la hl3 dl ln ha3 k1 k2 nd' mem new;refine⟨.inl ⟨rfl,wl,lT.of hl3⟩,p::O,ρ,E3,?_⟩;have e1:(aa fv af) ρ=.ok [v]:=by
   show(fv ρ).bind _=_;rw[hfv];rfl
  rw[e1];intro vs H4 s4 dv;obtain⟨y',rfl,dy⟩:=dv.one;have lO:l∈p::O:=by
   rcases mem l lb with z|z
   ·exact OV _ (hbs l (OV _ z)).1
   ·rw[z];exact OU
  have lHb:Hb l=none:=by
   rcases mem l lb with z|z
   ·exact(hbs l (OV _ z)).2.1
   ·rw[z];exact pHb
  have lS:∀(j:Nat) d',ρ[j]?=some (some (.own d'))->σ[j]?≠some (some (.ref l)):=by
   rcases mem l lb with z|z
   ·exact(hbs l (OV _ z)).2.2.2
   ·rw[z];exact pS
  have hl4:=s4 _ _ hl3;have sm5:aR (hid H3 (p::O)) (hid (upd H4 l (.lst (wl++[y']))) (p::O)):=(bi s4).trans (eL lO);have wlen:=dl.length;refine⟨l,wl,y',rfl,rfl,hl4,by rw[<-wlen];exact OL (Nat.lt_of_succ_le ln) (by decide),hk.nx (p::O) _ σ _ (S.setN hi (λc hc=>OV _ hc) ((sm2.trans sm3).trans sm5) ⟨λc u h=>?_,λc hc=>OV _ (S.base.sub c hc),λc hc=>?_⟩ ((E3.all.same s4).upd lO trivial) (λj xs c w1 w2=>?_) ?_) hnx⟩
  ·have ca:c≠a:=λz=>by rw[z,aHb]at h;cases h
   have cl:c≠l:=λz=>by rw[z,lHb]at h;cases h
   rw[ao cl];exact s4 _ _ (keep3 c u ca (sH2 _ _ (S.base.same c u h)))
  ·rcases List.mem_cons.mp hc with z|z
   ·rw[z];exact .inr pHb
   ·exact S.base.new c z
  ·obtain⟨c',q1,q2,q3⟩:=S.env.own j xs w1;rw[w2]at q1;cases q1;obtain⟨o,ho⟩:=q3.some;have ca:c≠a:=λz=>aS j xs w1 (by rw[<-z];exact w2);have cl:c≠l:=λz=>lS j xs w1 (by rw[<-z];exact w2);rw[ho,ao cl];exact(s4 _ _ (keep3 c o ca (sH2 _ _ ho))).symm
  ·refine⟨a,bs',ha,⟨al'.map (·.2),new _ _ (λc hc ne x hx=>hx.mono ?_ sm5) ⟨_,_,av,rfl,?_⟩,.inr (.inl ⟨kvs',?_,?_,k2⟩)⟩,nd',λc hc=>?_,λj d' w=>?_⟩
   ·obtain⟨o,ho⟩:=hx.some;rw[ao ne,ho,s4 _ _ ho]
   ·exact(dl.mono sm5).append (bb.mpr ⟨y',[],rfl,dy.mono (eL lO),cw.mpr rfl⟩)
   ·show D.dct (encK al') _=_;rw[uc k1]
   ·rw[ao (Ne.symm la)];exact s4 _ _ ha3
   ·have own:∀(j:Nat) d',(ρ.set i (some (.nest (bD al'))))[j]?=some (some (.own d'))->ρ[j]?=some (some (.own d')):=λj d' w=>by
     rcases aH w with⟨_,z⟩|⟨_,z⟩
     ·cases z
     ·exact z
    rcases List.mem_cons.mp hc with z|z
    ·rw[z];exact⟨OV _ aO,aHb,aOb,λj d' w=>aS j d' (own j d' w)⟩
    ·rcases mem c z with z'|z'
     ·obtain⟨w1,w2,w3,w4⟩:=hbs c (OV _ z');exact⟨OV _ w1,w2,w3,λj d' w=>w4 j d' (own j d' w)⟩
     ·rw[z'];exact⟨OU,pHb,pOb,λj d' w=>pS j d' (own j d' w)⟩
   ·rcases aH w with⟨hj,_⟩|⟨_,z⟩
    ·exact hj
    ·exact one j d' z
 have hH2:upd H1 p (.lst []) a=some (.dT kvs)\/(upd H1 p (.lst []) a=some (.dK [])/\kvs=[]):=by
  rw[ao ap];rcases hH with h|⟨h,z⟩
  ·exact .inl (s1 _ _ h)
  ·exact .inr ⟨s1 _ _ h,z⟩
 have hO2:iH X.K (upd H1 p (.lst [])) (p::O) bs (al.map (·.2)):=hO.mono sm2 λc hc ⟨o,ho⟩=>by rw[ao (bsp c hc),ho,s1 _ _ ho]
 refine⟨a,b,q,kvs,.ref p,rfl,by rw[eb],by rw[ao bp];exact hb1',hH2,hlen,λv' hv=>?_,λhv=>?_⟩
 ·rcases ue ek ev hO2 nb hg with⟨c,ys,w1,w2,w3,w4,w5,w6⟩|⟨w1,_⟩
  ·rw[w1]at hv;cases hv;obtain⟨o,wl,h1,h2,h3⟩:=w3;subst h2;rcases hH2 with hH2|⟨_,z⟩
   ·exact fin _ c wl ys bs kvs E2 (λ_ _ z=>z) (λ_ _ _ z=>z) w2 (λz=>na (by rw[<-z];exact w2)) h1 h3 (of_decide_eq_true w4) hH2 (ek.trans w5.symm) ev nd (λ_ z=>.inl z) w6
   ·subst z;cases w1
  ·rw[w1]at hv;cases hv
 ·rcases ue ek ev hO2 nb hg with⟨c,ys,w1,_⟩|⟨_,w2⟩
  ·rw[w1]at hv;cases hv
  ·subst w2;have aO2:a∈p::O:=OV _ aO;refine fin (upd (upd H1 p (.lst [])) a (.dT (putK kvs q (.ref p)))) p [] [] (bs++[p]) (putK kvs q (.ref p)) (E2.rewrite (show oV (.dT (putK kvs q (.ref p)))from trivial) aO2 aS) (eL aO2) (λc o ne z=>by rw[ao ne];exact z) (by simp) (Ne.symm ap) (by rw[ao (Ne.symm ap)];exact av) (cw.mpr rfl) (by decide) av ?_ ?_ ?_ (λc hc=>?_) λH' O' oth new=>?_
   ·rw[sI hv,Qk,Qk,ek];rfl
   ·rw[sI hv,Qk,Qk,ev];rfl
   ·refine List.nodup_cons.mpr ⟨λz=>?_,List.nodup_append.mpr ⟨nb,by simp,λc hc c' hc' e=>?_⟩⟩
    ·rcases List.mem_append.mp z with z|z
     ·exact na z
     ·exact ap (List.mem_singleton.mp z)
    ·rw[List.mem_singleton.mp hc']at e;exact bsp c hc e
   ·rcases List.mem_append.mp hc with z|z
    ·exact .inl z
    ·exact .inr (List.mem_singleton.mp z)
   ·rw[Qk];refine iH.snoc new (hO2.imp λc hc x hx=>oth c (OW _ hc) (bsp c hc) x (hx.mono ?_ (eL aO2)));exact(ao λz=>na (by rw[<-z];exact hc)).symm⟩
theorem y6{o:Te}{es:bz}{k:Nat}{tpos:Pos}{f:FX}{apos cpos:Pos}(ho:XE X o f)(hbase:Uq o "items" X.env (eval o X.env)=eval o X.env:=by rfl)(hline:(apos.endLine==cpos.line)=true:=by rfl):XI X (.Tuple es k tpos) (.Call (.Attribute o "items" apos) [] [] cpos) (mJ f):=by
 refine⟨?_⟩;rintro pins s σ H RR I ⟨O,ρ,E,hG⟩;refine wpAny_Call_method0_late hbase hline (cM (ho.h pins s σ H (λv H1=>∃a o kvs,v=.ref a/\H1 a=some (.frz o (.dT kvs))/\RR (L3 a o kvs) H1) I ⟨O,ρ,E,(gE.bind hG).imp λd hG v H1 s1 d1=>?_⟩) λv s1 ⟨x,H1,I1,r1,a,o,kvs,ex,ha,hR⟩=>?_)
 ·obtain⟨ds,hg,q⟩:=gE.rO hG;unfold wC at hg;split at hg
  ·rename_i ks dl;cases e1:iA ks dl with
   |none=>rw[e1]at hg;cases hg
   |some al=>
    rw[e1]at hg;cases hg;obtain⟨f1,f2⟩:=fY e1;subst f1 f2;obtain⟨a,o,kvs,q1,q2,q3,q4⟩:=vw d1;exact⟨a,o,kvs,q1,(aq H1 O) _ _ q2,q _ H1 s1 (wm q2 q3 q4)⟩
  ·cases hg
 ·subst ex;cases r1;obtain⟨hob,hx,hsm,es2,ep,xs,hda,_⟩:=wy I1 ha;refine⟨"dict","dict.items",F.plainAttrs_dict,F.slot_dict_items,F.type_dict_items,⟨o,hob,hx.1⟩,λc e=>by cases e;exact⟨o,hob,hx.2.1⟩,Calls.callWith_builtin rfl (PySem.evalArgs_none ?_)⟩;refine xM hob hx hsm (wv ⟨_,SD _ rfl,rfl,rfl⟩ (SA _ hob) hda ?_);have le:s1.heap.objs.size<=(s1.heap.push {cls:=.type "dict_items",data:=.fields #[.ref a]}).objs.size:=by rw[SE];exact Pk _
  refine⟨_,_,_,_,H1,rfl,I1.kept (t':=s1.toks) λb u e=>SA _ (SA _ e),xB hda,⟨_,_,SD _ rfl⟩,λb hb=>?_,hR⟩;rw[List.mem_singleton.mp hb];exact I1.fpOk le (I1.hok.fresh le)
end
section
variable[aA]
theorem yZ{X:Cx}{st:eE}{F:bI}(i:Nat)(h:nB X st F):nB X st (sj i F):=⟨λHb Ob pins s σ H E I ⟨O,ρ,k,r,S,hF,hk⟩=>by
 unfold sj JK at hF;split at hF
 ·rename_i ks ds hd;split at hF
  ·rename_i al hal;obtain⟨f1,f2⟩:=fY hal;subst f1 f2;obtain⟨a,bs,h1,h2,h3,h4,h5⟩:=S.nst i _ hd;obtain⟨kvs,hH,ek,ev,hO⟩:=pG h2;obtain⟨na,_⟩:=List.nodup_cons.mp h3;have fin:∀(H0:Hp)(I0:Inv X pins σ H0 s),H0 a=some (.dT kvs)->(∀b,b≠a->H0 b=H b)->Tu (model X.prog X.w) X.A (execs st X.env) (SP X pins E) X.xe s:=λH0 I0 ha0 hH0=>by
    obtain⟨o,I1⟩:=Kn I0 ha0;have hH':∀b,b≠a->upd H0 a (.frz o (.dT kvs)) b=H b:=λb nb=>by rw[ao nb];exact hH0 b nb
    have tab:aA.tab (upd H0 a (.frz o (.dT kvs))):=by
     have:upd H0 a (.frz o (.dT kvs))=upd H a (.frz o (.dT kvs)):=by
      funext b;by_cases z:b=a
      ·rw[z,av,av]
      ·rw[ao z,ao z,hH0 b z]
     rw[this];obtain⟨u,q1,q2⟩:=S.env.all.2 a (h4 a OU).1;exact aA.own S.env.all.1 q1 q2
    refine h.h Hb Ob pins s σ _ E I1 ⟨_,_,k,r,S.frzG hd h1 h4 h5 hH' tab λsm nn=>?_,hF,hk⟩;have hO':iH X.K (upd H0 a (.frz o (.dT kvs))) O bs (al.map (·.2)):=hO.mono (λb u e=>by
     unfold hid at e ⊢;by_cases hb:b∈O
     ·rw[if_pos hb]at e;cases e
     ·rw[if_neg hb]at e;rw[if_neg hb,hH' b λz=>hb (by rw[z];exact(h4 a OU).1)];exact e) λb hb _=>hH' b λz=>na (by rw[<-z];exact hb)
    have sub:∀b∈O.filter (λb=>decide (b∉a::bs)),b∈O:=λb hb=>(List.mem_filter.mp hb).1;have g:=hO'.den (fg sub) λb hb=>nn b (OV _ hb);refine Ls.mpr ⟨a,_,rfl,g,.inr (.inr ⟨kvs,o,by rw[gh (nn a OU)];exact av,by rw[uc ek],ev.symm⟩)⟩
   rcases hH with hH|⟨hH,z⟩
   ·exact fin H I hH λ_ _=>rfl
   ·subst z;exact fin _ (zU I hH) av λb nb=>ao nb
  ·exact h.h Hb Ob pins s σ H E I ⟨O,ρ,k,r,S,hF,hk⟩
 ·exact h.h Hb Ob pins s σ H E I ⟨O,ρ,k,r,S,hF,hk⟩⟩
end
section
variable[aA]{X:Cx}
theorem EI{o e:Te}{fo fk:FX}{pos:Pos}(hu:X.A.units+64<T5)(ho:XE X o fo)(hi:XE X e fk)(hs:Jc e):XE X (.Subscript o e pos) (f2 w8 fo fk):=⟨PE.weak (FY ‹0› ho.h hi.h hs) λσ H Q ⟨O,ρ,E,hF⟩=>⟨O,ρ,E,(gE.bind hF).imp λdd hF v H1 s1 d1=>⟨O,ρ,E.same s1,((gE.bind hF).mono s1).imp λk hF y H2 s2 d2=>by
  obtain⟨d,hg,q⟩:=gE.rO hF;cases dd with
  |dct ks ds=>
   have hg:(DT ks ds).bind (λal=>(eF k).bind λq=>iw al q)=some d:=hg;cases hk:DT ks ds with
   |none=>rw[hk]at hg;cases hg
   |some al=>
    rw[hk]at hg;cases ht:eF k with
    |none=>rw[ht]at hg;cases hg
    |some qk=>
     rw[ht]at hg;have hg:iw al qk=some d:=hg;obtain⟨a,ea,hh⟩:=yO (d1.mono (bi s2)) hk;rw[jj ht]at d2;obtain⟨b,ws,eb,g1,g2⟩:=bW.mp d2;rw[fG g2]at g1;rcases hh with⟨kvs,hr,e1,e2⟩|⟨_,rfl⟩
     ·rcases pP qk e1 e2 with⟨_,z2⟩|⟨w,d',z1,z2,z3⟩
      ·rw[z2]at hg;cases hg
      ·rw[z2]at hg;cases hg;exact⟨a,w,ea,by rw[<-z1];exact .inr ⟨kvs,qk,b,Je hr,eb,(aq H2 O) _ _ g1,rfl⟩,q w H2 (s1.trans s2) z3⟩
     ·cases hg
  |_=>cases hg⟩⟩⟩
end
section
variable[aA]
theorem Fp{X:Cx}{i:Nat}{x:Str}{e:Te}{f:FX}{npos apos cpos pos:Pos}(hx:XV X (.Name x npos) i)(he:XN X e f)(hns:noStar e=true:=by rfl)(hbase:Uq (.Name x npos) "extend" X.env (eval (.Name x npos) X.env)=eval (.Name x npos) X.env:=by rfl)(hfew:((backTo cpos (Tv [e] X.env)).all (λx=>!x.1)&&(backToKw cpos (T2 [] X.env)).all (λx=>x.1.isSome)&&decide (([e]:bz).length+([]:List Ur).length+(if([]:List Ur).isEmpty then 0 else 1)<30))=true:=by rfl)(hline:(apos.endLine==cpos.line)=true:=by rfl)(hplain:(backTo cpos (Tv [] X.env)).any (·.1)=false:=by rfl)(hsw:swapsWith (.Call (.Attribute (.Name x npos) "extend" apos) [e] [] cpos) none pos.line X.env=pure false:=by rfl):XS X (.Expr (.Call (.Attribute (.Name x npos) "extend" apos) [e] [] cpos) pos) (As i f):=⟨λHb Ob pins s σ H E I ⟨O,ρ,k,rr,S,hF,hk⟩=>by
 unfold As at hF;split at hF
 ·rename_i xs hxs;obtain⟨a,ha,haO,hat⟩:=S.env.own i _ hxs;obtain⟨o,vs0,ho,eo,dn⟩:=hat;subst eo;refine pq (vk F.plainAttrs_list F.slot_list_extend F.type_list_extend zH hx.h (gC he.h jk (cB hns)) hbase hfew hline (cB hns) hplain) hsw pins s σ H E I ⟨.ref a,ha,.inl ⟨rfl,vs0,lT.of ho⟩,O,ρ,S.env,gE.on hF hk S λd hr p H1 s1 hp m own=>?_⟩;have S1:=S.same s1;cases d with
  |lst ys=>
   have hr:(if small (xs.length+ys.length)then k.nx (ρ.set i (some (.own (.lst (xs++ys)))))else un)=rr:=hr;cases hsm:small (xs.length+ys.length)with
   |false=>rw[hsm]at hr;exact absurd hr.symm hk.ne
   |true=>
    rw[hsm]at hr;obtain⟨o,zs,h1,h2,h3⟩:=own;subst h2;have dz:aI X.K (hid H1 O) ys zs:=h3.mono (fg λb hb=>OV _ hb);have hz:=dN hsm;exact⟨a,p,vs0,zs,rfl,rfl,s1 _ _ ho,h1,by rw[<-dn.length,<-dz.length];exact hz,hk.nx O _ σ _ (S1.setO hxs ha trivial (oy haO ((dn.mono (bi s1)).append dz))) hr⟩
  |_=>exact absurd (show un=rr from hr).symm hk.ne
 ·exact absurd hF.symm hk.ne⟩
end
section
variable[aA]{X:Cx}
theorem z9{i:Nat}{x:Str}{l1 l2 l3 pos pos':Pos}(hN:X.N.Nodup)(hi:X.N[i]?=some x)(hx:Loc X.env.scope x)(hs:swapsWith (.List [.List [] l1,.List [] l2] l3) (some (.Name x pos')) pos.line X.env=pure false:=by rfl)(hf:X.fn x=true\/X.env.scope.names.lookup x=some .local:=by first|exact .inl rfl|exact .inr rfl|assumption):XS X (.Assign [.Name x pos'] (.List [.List [] l1,.List [] l2] l3) pos) (nc i):=⟨λHb Ob pins s σ H E I ⟨O,ρ,k,r,S,hF,hk⟩=>by
 unfold nc at hF;cases hn:E9 ρ with
 |false=>rw[hn]at hF;exact absurd hF.symm hk.ne
 |true=>
  rw[hn]at hF;refine tM hN hi hx (oa (gC (oa jk) (gC (oa jk) jk))) hs hf pins s σ H E I ?_;refine⟨Ph _,λp1 h1=>⟨Ph _,λp2 h2=>⟨by show 2<=Tn;decide,λp hp=>?_⟩⟩⟩;have S1:=S.hide (o:=.lst []) trivial h1;have S2:=S1.hide (o:=.lst []) trivial h2;have S3:=S2.hide (o:=.lst [.ref p1,.ref p2]) trivial hp;obtain⟨a1,a2,a3⟩:=S.new h1;obtain⟨b1,b2,b3⟩:=S1.new h2;obtain⟨c1,c2,c3⟩:=S2.new hp;have n12:p1≠p2:=aD av h2;have n1:p1≠p:=aD (by rw[ao n12];exact av) hp;have n2:p2≠p:=aD av hp;refine hk.nx _ _ _ _ (S3.setL (by rw[I.len];exact(List.getElem?_eq_some_iff.mp hi).1) hn (bs:=[p1,p2]) ⟨[.lst [],.lst []],⟨⟨_,[],by rw[ao n1,ao n12];exact av,rfl,cw.mpr rfl⟩,⟨_,[],by rw[ao n2];exact av,rfl,cw.mpr rfl⟩,trivial⟩,.inl ⟨rfl,av⟩⟩ (by simp[n12,n1.symm,n2.symm]) λb hb=>?_) hF;rcases List.mem_cons.mp hb with z|hb
  ·rw[z];exact⟨OU,c1,c2,c3⟩
  ·rcases List.mem_cons.mp hb with z|hb
   ·rw[z];exact⟨by simp,a1,a2,a3⟩
   ·rw[List.mem_singleton.mp hb];exact⟨by simp,b1,b2,b3⟩⟩
theorem CV{i c:Nat}{ci:Int}{x:Str}{ve:Te}{fv:FX}{j:Nat}{npos jpos spos ap cp pos:Pos}(hx:XV X (.Name x npos) i)(hve:XE X ve fv)(hci:ci=(c:Int):=by rfl)(hpl:pf (.Constant (.int ci) j jpos):=by intro _ _;rfl)(hn2:noStar ve=true:=by rfl)(hb2:Uq (.Subscript (.Name x npos) (.Constant (.int ci) j jpos) spos) "append" X.env (eval (.Subscript (.Name x npos) (.Constant (.int ci) j jpos) spos) X.env)=eval (.Subscript (.Name x npos) (.Constant (.int ci) j jpos) spos) X.env:=by rfl)(hf2:((backTo cp (Tv [ve] X.env)).all (λx=>!x.1)&&(backToKw cp (T2 [] X.env)).all (λx=>x.1.isSome)&&decide (([ve]:bz).length+([]:List Ur).length+(if([]:List Ur).isEmpty then 0 else 1)<30))=true:=by rfl)(hl2:(ap.endLine==cp.line)=true:=by rfl)(hp2:(backTo cp (Tv [] X.env)).any (·.1)=false:=by rfl)(hsw:swapsWith (.Call (.Attribute (.Subscript (.Name x npos) (.Constant (.int ci) j jpos) spos) "append" ap) [ve] [] cp) none pos.line X.env=pure false:=by rfl):XS X (.Expr (.Call (.Attribute (.Subscript (.Name x npos) (.Constant (.int ci) j jpos) spos) "append" ap) [ve] [] cp) pos) (oJ i c fv):=by
 replace hx:=hx.h
 exact⟨λHb Ob pins s σ H E I ⟨O,ρ,k,rr,S,hF,hk⟩=>by
 obtain⟨xs,ys,v,hi,hxc,hfv,hsm,hnx⟩:=wF hF hk.ne;subst hci;obtain⟨a,bs,ha,⟨xs',hO,hat⟩,nd,hbs,one⟩:=S.nst i _ hi;obtain⟨rfl,hHa⟩:xs'=xs/\H a=some (.lst (bs.map .ref)):=by
  rcases hat with⟨e,q⟩|⟨_,e,_⟩|⟨e,_⟩
  ·cases e;exact⟨rfl,q⟩
  ·cases e
  ·cases e
 obtain⟨na,nb⟩:=List.nodup_cons.mp nd;obtain⟨aO,aHb,aOb,aS⟩:=hbs a OU;obtain⟨l,hl,⟨o,wl,hl3,eo,dl⟩,new⟩:=vp hO nb hxc;subst eo;have lb:=Pu hl;have la:l≠a:=λz=>na (by rw[<-z];exact lb);obtain⟨lO,lHb,lOb,lS⟩:=hbs l (OV _ lb);refine pq (vk F.plainAttrs_list F.slot_list_append F.type_list_append km (Gv yo hx Bs hpl) (yI hve.h Dc hn2) hb2 hf2 hl2 (cB hn2) hp2) hsw pins s σ H E I ?_;refine⟨.ref a,ha,a,bs.map .ref,(c:Int),.ref l,rfl,rfl,lT.of hHa,E6 (by rw[Pr,hl];rfl),.inl ⟨rfl,wl,lT.of hl3⟩,O,ρ,S.env,?_⟩;have e1:(aa fv af) ρ=.ok [v]:=by
  show(fv ρ).bind _=_;rw[hfv];rfl
 rw[e1];intro vs H4 s4 dv;obtain⟨y',rfl,dy⟩:=dv.one;have hl4:=s4 _ _ hl3;have sm5:aR (hid H O) (hid (upd H4 l (.lst (wl++[y']))) O):=(bi s4).trans (eL lO);have wlen:=dl.length;refine⟨l,wl,y',rfl,rfl,hl4,by rw[<-wlen];exact OL (Nat.lt_of_succ_le (of_decide_eq_true hsm)) (by decide),hk.nx O _ σ _ (S.setN hi (λc hc=>hc) sm5 ⟨λc u h=>?_,S.base.sub,S.base.new⟩ ((S.env.all.same s4).upd lO trivial) (λj xs c w1 w2=>?_) ?_) hnx⟩
 ·have cl:c≠l:=λz=>by rw[z,lHb]at h;cases h
  rw[ao cl];exact s4 _ _ (S.base.same c u h)
 ·obtain⟨c',q1,q2,q3⟩:=S.env.own j xs w1;rw[w2]at q1;cases q1;obtain⟨o,ho⟩:=q3.some;have cl:c≠l:=λz=>lS j xs w1 (by rw[<-z];exact w2);rw[ho,ao cl];exact(s4 _ _ ho).symm
 ·have own:∀(j:Nat) d' d2,(ρ.set i (some (.nest d2)))[j]?=some (some (.own d'))->ρ[j]?=some (some (.own d')):=λj d' d2 w=>by
   rcases aH w with⟨_,z⟩|⟨_,z⟩
   ·cases z
   ·exact z
  refine⟨a,bs,ha,⟨_,new _ _ (.lst (ys++[v])) (λc hc ne x hx=>hx.mono ?_ sm5) ⟨_,_,av,rfl,?_⟩,.inl ⟨rfl,?_⟩⟩,nd,λc hc=>?_,λj d' w=>?_⟩
  ·obtain⟨o,ho⟩:=hx.some;rw[ao ne,ho,s4 _ _ ho]
  ·exact(dl.mono sm5).append (bb.mpr ⟨y',[],rfl,dy.mono (eL lO),cw.mpr rfl⟩)
  ·rw[ao (Ne.symm la)];exact s4 _ _ hHa
  ·obtain⟨w1,w2,w3,w4⟩:=hbs c hc;exact⟨w1,w2,w3,λj d' w=>w4 j d' (own j d' _ w)⟩
  ·rcases aH w with⟨hj,_⟩|⟨_,z⟩
   ·exact hj
   ·exact one j d' z⟩
end
noncomputable abbrev Lk(K:RY)(f:Td)(nm qual:Str)(st:Tf)(oc:S9)(od:Option Td)(kV dc pm:S9)(an:Option Td)(cd ct:S9)(sl:Array (Option S9)):Prop:=K.lookup f=some ⟨oc,od,.func (Sg nm qual (jw st) (dG st) (aw st) .none kV dc pm an cd ct),sl⟩
structure yq(P:Ti)(w:Th)(K:RY)(mg:cj)(base:Tl)(k:Nat)(N:ay)(qual:Str)(st:Tf)(f:Td)(B:bI):Prop where
 h:∀(cdv:S9)(A:Ts)(outer:List Env)(s:Tg)(H:Hp)(E:XK),eY k (A.deeper (SN qual (aw st) s.heap.objs.size f cdv))->TK (model P w) (A.deeper (SN qual (aw st) s.heap.objs.size f cdv)) (SN qual (aw st) s.heap.objs.size f cdv) (g9 (j4 P w) P w K mg base N qual (aw st) f cdv A outer s H E).xe->
  nB (g9 (j4 P w) P w K mg base N qual (aw st) f cdv A outer s H E) (dG st) B
structure Hj(P:Ti)(w:Th)(K:RY)(mg:cj)(base:Tl)(k:Nat)(N:ay)(qual:Str)(st:Tf)(f:Td)(B:bI):Prop where
 h:∀(cdv:S9)(A:Ts)(outer:List Env)(s:Tg)(H:Hp)(E:XK),rj K f cdv->eY k (A.deeper (SN qual (aw st) s.heap.objs.size f cdv))->TK (model P w) (A.deeper (SN qual (aw st) s.heap.objs.size f cdv)) (SN qual (aw st) s.heap.objs.size f cdv) (g9 (j4 P w) P w K mg base N qual (aw st) f cdv A outer s H E).xe->
  nB (g9 (j4 P w) P w K mg base N qual (aw st) f cdv A outer s H E) (dG st) B
theorem Hj.ok{P:Ti}{w:Th}{K:RY}{mg:cj}{base:Tl}{k:Nat}{N:ay}{qual:Str}{st:Tf}{f:Td}{B:bI}(h:Hj P w K mg base k N qual st f B):ui P w K mg base k N qual st f B:=⟨λcdv A outer s H E hc hr hp=>(h.h cdv A outer s H E hc hr hp).h⟩
theorem yq.ok{P:Ti}{w:Th}{K:RY}{mg:cj}{base:Tl}{k:Nat}{N:ay}{qual:Str}{st:Tf}{f:Td}{B:bI}(h:yq P w K mg base k N qual st f B):BodyOk P w K mg base k N qual st f B:=⟨λcdv A outer s H E hr hp=>(h.h cdv A outer s H E hr hp).h⟩
section
variable{X:Cx}{x:Str}{pos:Pos}
theorem xw(i:Nat)(hN:X.N[i]?=some x:=by rfl)(hv:HS X.env.scope x:=by first|exact Or.inl rfl|exact Or.inr (Or.inl rfl)|exact Or.inr (Or.inr rfl))(hd:(x==("__debug__":Str))=false:=by decide)(hcd:(x==("__classdict__":Str))=false:=by decide):XE X (.Name x pos) (ae i):=Fc (xv i hN hv hd hcd)
theorem xi{a b:Te}{fa fb:FX}(ha:XE X a fa)(hb:XE X b fb)(hs:pf b:=by exact λ_ _=>rfl):XE X (.Subscript a b pos) (f2 ah fa fb):=Ju ha hb hs
theorem xs(i:Nat){e:Te}{f:FX}{pos':Pos}(hN:X.N.Nodup)(he:XE X e f)(hi:X.N[i]?=some x:=by rfl)(hx:Loc X.env.scope x:=by first|exact Or.inl rfl|exact Or.inr rfl)(hs:swapsWith e (some (.Name x pos')) pos.line X.env=pure false:=by rfl)(hf:X.fn x=true\/X.env.scope.names.lookup x=some .local:=by first|exact .inl rfl|exact .inr rfl|assumption):XS X (.Assign [.Name x pos'] e pos) (aM i f):=FZ hN hi hx he hs hf
end
noncomputable def Ml:ay->Bool
 |[]=>true
 |x::r=>!(r.contains x)&&Ml r
theorem pF{l:ay}(h:Ml l=true):l.Nodup:=by
 induction l with
 |nil=>exact PR
 |cons x r ih=>
  simp only[Ml,Pz,Rm]at h;exact List.nodup_cons.mpr ⟨λm=>by rw[List.contains_iff_mem.mpr m]at h;exact absurd h.1 (by decide),ih h.2⟩
noncomputable def GR:Te->ay
 |.Name x _=>[x]
 |.Tuple es _ _=>es.filterMap λe=>match e with
  |.Name x _=>some x
  |_=>none
 |_=>[]
noncomputable def Cd(N:ay):gA->ay->ay
 |[],_=>[]
 |some j::r,t=>N.getD j ""::Cd N r t
 |none::r,x::t=>x::Cd N r t
 |none::r,[]=>""::Cd N r []
section
variable{X:Cx}{elt tg iter:Te}{ifs:bz}{scope:Tt}{ix:gA}{G:bC}{g:GF}{C:bS}{Fe:FX}{i:Nat}{y:Str}{lpos py pos:Pos}
theorem xl(hc:X.calm=true)(tk:oW ix g)(hi:XI X tg iter G)(hb:qW X scope (Cd X.N ix (GR tg)) tg elt ifs g C Fe)(ok:kj X.env.scope.names X.N scope (Cd X.N ix (GR tg)) ix=true:=by rfl)(hs:∀x,TL iter X.env x=pure x:=by intro _;rfl):XE X (.ListComp elt [⟨tg,iter,ifs,0⟩] scope pos) (du ix G g C Fe):=Ht hc (.of ok) tk hi hb hs
theorem NY(hc:X.calm=true)(tk:oW ix g)(hi:XI X tg iter G)(hb:qW X scope (Cd X.N ix (GR tg)) tg elt ifs g C Fe)(ok:kj X.env.scope.names X.N scope (Cd X.N ix (GR tg)) ix=true:=by rfl)(hs:∀x,TL iter X.env x=pure x:=by intro _;rfl):XN X (.ListComp elt [⟨tg,iter,ifs,0⟩] scope pos) (du ix G g C Fe):=IX hc (.of ok) tk hi hb hs
theorem NE(hN:X.N.Nodup)(hc:X.calm=true)(tk:oW ix g)(hi:XI X tg iter G)(hb:qW X scope (Cd X.N ix (GR tg)) tg elt ifs g C Fe)(hi':X.N[i]?=some y:=by rfl)(hx:Loc X.env.scope y:=by first|exact Or.inl rfl|exact Or.inr rfl)(ok:kj X.env.scope.names X.N scope (Cd X.N ix (GR tg)) ix=true:=by rfl)(hsw:swapsWith (.ListComp elt [⟨tg,iter,ifs,0⟩] scope lpos) (some (.Name y py)) pos.line X.env=pure true:=by rfl)(hs:∀x,TL iter X.env x=pure x:=by intro _;rfl)(hf:X.fn y=true\/X.env.scope.names.lookup y=some .local:=by first|exact .inl rfl|exact .inr rfl|assumption):XS X (.Assign [.Name y py] (.ListComp elt [⟨tg,iter,ifs,0⟩] scope lpos) pos) (aM i (du ix G g C Fe)):=Jt hN hi' hx hc (.of ok) tk hi hb hsw hs hf
theorem Oa(hN:X.N.Nodup)(hc:X.calm=true)(tk:oW ix g)(hi:XI X tg iter G)(hb:qW X scope (Cd X.N ix (GR tg)) tg elt ifs g C Fe)(hi':X.N[i]?=some y:=by rfl)(hx:Loc X.env.scope y:=by first|exact Or.inl rfl|exact Or.inr rfl)(ok:kj X.env.scope.names X.N scope (Cd X.N ix (GR tg)) ix=true:=by rfl)(hsw:swapsWith (.ListComp elt [⟨tg,iter,ifs,0⟩] scope lpos) (some (.Name y py)) pos.line X.env=pure true:=by rfl)(hs:∀x,TL iter X.env x=pure x:=by intro _;rfl)(hf:X.fn y=true\/X.env.scope.names.lookup y=some .local:=by first|exact .inl rfl|exact .inr rfl|assumption):XS X (.Assign [.Name y py] (.ListComp elt [⟨tg,iter,ifs,0⟩] scope lpos) pos) (iC i (du ix G g C Fe)):=yY hN hi' hx hc (.of ok) tk hi hb hsw hs hf
end
structure U where
 P:Ti
 w:Th
 K:RY
 mg:cj
 base:Tl
 cL:Td
 T:Td
noncomputable abbrev Ca(u:U)(k:Nat)(x:Str)(ps:ay)(g:cT):Prop:=Callee u.P u.w u.K u.mg u.base k x ps g
noncomputable abbrev Ma(u:U)(k:Nat)(c m:Str)(ps:ay)(g:cT):Prop:=MethAt u.P u.w u.K u.mg u.base k c m ps g
noncomputable abbrev Ta(u:U)(k:Nat)(m:Str)(ps:ay)(t:List (Str×(cT))):Prop:=qf u.P u.w u.K u.mg u.base k m ps t
noncomputable def Df(u:U)(x:Str)(st:Tf):Prop:=∃f fd,uF u.K x x st f fd/\u.mg x=some (.ref f)
noncomputable def Dl(u:U)(x:Str)(st:Tf):Prop:=∃f fd,uF u.K x x st f fd/\u.mg x=some (.ref f)/\rj u.K f (.ref u.cL)
noncomputable def Dm(u:U)(c m qual:Str)(st:Tf):Prop:=∃C f fd,clsAt u.K c C/\zh u.K C/\Meth u.K C m f/\uF u.K m qual st f fd
noncomputable def Bd(x qual:Str)(st:Tf)(ps:ay):Prop:=∀us:aU,us.length=ps.length->∀(kV doc pm:S9)(an:Option Td)(cdv ct:S9),bindArgs (Sg x qual (jw st) (dG st) (aw st) .none kV doc pm an cdv ct) ⟨us,[]⟩=pure (ps.zip us)
theorem uF.bd{K:RY}{x qual:Str}{st:Tf}{f:Td}{fd:T6}{ps:ay}(F:uF K x qual st f fd)(h:Bd x qual st ps):Binds K fd ps []:=F.binds λkV doc pm an cdv ct us e=>h us e kV doc pm an cdv ct
section
variable{u:U}{x c m qual:Str}{st:Tf}{ps:ay}{k:Nat}{B:bI}
theorem DV(M:ay)(d:Df u x st)(b:Bd x x st ps)(sc:dJ (ps++M) ps (aw st))(h:(ps++M).Nodup->∀f,yq u.P u.w u.K u.mg u.base k (ps++M) x st f B):Ca u (k+1) x ps (aG B ps.length (ps++M).length):=by
 obtain⟨f,fd,F,e⟩:=d;exact zc F (uF.bd F b) e sc (h sc.nd f).ok
theorem FU(d:Df u x st)(b:Bd x x st ps):Ca u k x ps λ_=>un:=by
 obtain⟨f,fd,F,e⟩:=d;exact vP k F (uF.bd F b) e
theorem Oi(M:ay)(d:Dl u x st)(b:Bd x x st ps)(sc:dJ (ps++M) ps (aw st))(h:(ps++M).Nodup->∀(f:Td)(A:Ts)(outer:List Env)(s:Tg)(H:Hp)(E:XK),eY k (A.deeper (SN x (aw st) s.heap.objs.size f (.ref u.cL)))->TK (model u.P u.w) (A.deeper (SN x (aw st) s.heap.objs.size f (.ref u.cL))) (SN x (aw st) s.heap.objs.size f (.ref u.cL)) (g9 (j4 u.P u.w) u.P u.w u.K u.mg u.base (ps++M) x (aw st) f (.ref u.cL) A outer s H E).xe->
  nB (g9 (j4 u.P u.w) u.P u.w u.K u.mg u.base (ps++M) x (aw st) f (.ref u.cL) A outer s H E) (dG st) B):Ca u (k+1) x ps (aG B ps.length (ps++M).length):=by
 obtain⟨f,fd,F,e,hc⟩:=d;refine we F (uF.bd F b) e sc (Hj.ok ⟨λcdv A outer s H E hd hr hp=>?_⟩);obtain rfl:=hd.one hc;exact h sc.nd f A outer s H E hr hp
theorem N4(M:ay)(d:Dm u c m qual st)(b:Bd m qual st ps)(sc:dJ (ps++M) ps (aw st))(h:(ps++M).Nodup->∀f,yq u.P u.w u.K u.mg u.base k (ps++M) qual st f B):Ma u (k+1) c m ps (aG B ps.length (ps++M).length):=by
 obtain⟨C,f,fd,h1,h2,h3,F⟩:=d;exact Ai h1 h2 h3 F (uF.bd F b) sc (h sc.nd f).ok
theorem NN(M:ay){f:Td}{fd:T6}(F:uF u.K x x st f fd)(sc:dJ (ps++M) ps (aw st))(h:(ps++M).Nodup->yq u.P u.w u.K u.mg u.base k (ps++M) x st f B):gS u.P u.w u.K u.mg u.base (j4 u.P u.w) (k+1) f fd ps (y8 u.K ps.length (aG B ps.length (ps++M).length)):=uq F sc (h sc.nd).ok
end
noncomputable def KD(K:RY)(x:Str)(st:Tf):Prop:=∃f oc od kV dc pm an cd ct sl,Sj K Tp x=some (some (.ref f))/\Lk K f x x st oc od kV dc pm an cd ct sl/\Si K cd x=true/\Sd K (.ref f)=true
theorem KD.mk{K:RY}{x:Str}{st:Tf}{f:Td}{oc:S9}{od:Option Td}{kV dc pm:S9}{an:Option Td}{cd ct:S9}{sl:Array (Option S9)}(a:Sj K Tp x=some (some (.ref f)))(l:Lk K f x x st oc od kV dc pm an cd ct sl)(c:Si K cd x=true)(k:Sd K (.ref f)=true):KD K x st:=⟨f,oc,od,kV,dc,pm,an,cd,ct,sl,a,l,c,k⟩
noncomputable def KDs(K:RY):List (Str×Tf)->Prop
 |[]=>True
 |p::r=>KD K p.1 p.2/\KDs K r
theorem KDs.mk{K:RY}{x:Str}{st:Tf}{r:List (Str×Tf)}(h:KD K x st)(t:KDs K r):KDs K ((x,st)::r):=⟨h,t⟩
noncomputable def Lc(u:U)(Z:Prop):List (Str×Tf)->Prop
 |[]=>Z
 |p::r=>Lc u Z r/\Df u p.1 p.2
noncomputable def KZs(K:RY):ay->Prop
 |[]=>True
 |x::r=>Sj K Tp x=some none/\KZs K r
theorem KZs.mk{K:RY}{x:Str}{r:ay}(h:Sj K Tp x=some none)(t:KZs K r):KZs K (x::r):=⟨h,t⟩
noncomputable def Zs(u:U):ay->Prop
 |[]=>True
 |x::r=>Zs u r/\u.mg x=none
section
variable{u:U}{h:Tl}
theorem Lc.of{Z:Prop}(X:u.K.In h)(G:h.Ns Tp u.mg)(z:Z):∀{l:List (Str×Tf)},KDs u.K l->Lc u Z l
 |[],_=>z
 |_::_,h=>by
  obtain⟨⟨_,_,_,_,_,_,_,_,_,_,a,l,c,k⟩,r⟩:=h;exact⟨Lc.of X G z r,_,_,j9 l c k,Sv X G a⟩
theorem Zs.of(X:u.K.In h)(G:h.Ns Tp u.mg):∀{l:ay},KZs u.K l->Zs u l
 |[],_=>trivial
 |_::_,⟨a,r⟩=>⟨Zs.of X G r,PySem.W.mg_none_of X G a⟩
end
theorem CY{us:aU}{n:Nat}(h:us.length=n+1):∃a r,us=a::r/\r.length=n:=by
 cases us with
 |nil=>cases h
 |cons a r=>exact⟨a,r,rfl,Nat.succ.inj h⟩
theorem JM{us:aU}(h:us.length=1):∃a,us=[a]:=List.length_eq_one_iff.mp h
theorem IH{us:aU}(h:us.length=2):∃a b,us=[a,b]:=by
 obtain⟨a,r,rfl,k⟩:=CY h;obtain⟨b,rfl⟩:=JM k;exact⟨a,b,rfl⟩
theorem KH{us:aU}(h:us.length=3):∃a b c,us=[a,b,c]:=by
 obtain⟨a,r,rfl,k⟩:=CY h;obtain⟨b,c,rfl⟩:=IH k;exact⟨a,b,c,rfl⟩
theorem Ku{us:aU}(h:us.length=4):∃a b c d,us=[a,b,c,d]:=by
 obtain⟨a,r,rfl,k⟩:=CY h;obtain⟨b,c,d,rfl⟩:=KH k;exact⟨a,b,c,d,rfl⟩
theorem Kx{us:aU}(h:us.length=5):∃a b c d e,us=[a,b,c,d,e]:=by
 obtain⟨a,r,rfl,k⟩:=CY h;obtain⟨b,c,d,e,rfl⟩:=Ku k;exact⟨a,b,c,d,e,rfl⟩
theorem MA{us:aU}(h:us.length=6):∃a b c d e f,us=[a,b,c,d,e,f]:=by
 obtain⟨a,r,rfl,k⟩:=CY h;obtain⟨b,c,d,e,f,rfl⟩:=Kx k;exact⟨a,b,c,d,e,f,rfl⟩
end TX
namespace TG
open L2
instance(priority:=low) noTabs:aA:=⟨λ_=>True,λ_ _=>trivial,λ_ _ _=>trivial⟩
open PySem PySem.Spec L2
theorem nr{α:Sort _}{a b:α}(h:a=b):a=b:=h
theorem cV{α β:Type}(a:α)(f:α->R β):Except.bind (Except.ok a:R α) f=f a:=nr rfl
theorem rH{α β:Type}(x:Option Ex)(f:α->R β):Except.bind (Except.error x:R α) f=.error x:=nr rfl
theorem pN{α:Type}(a:α)(k:Ks)(ρ:aj)(f:α->R D):o4 (.ok a) k ρ f=f a:=nr rfl
theorem rT{α:Type}(x:Ex)(k:Ks)(ρ:aj)(f:α->R D):o4 (.error (some x)) k ρ f=k.ex x ρ:=nr rfl
theorem ik{α:Type}(a:α):wc (.ok a:R α)=.ok a:=nr rfl
theorem eB{α:Type}(a:α):rO (some a)=.ok a:=nr rfl
theorem ge_0(d:D)(ρ:aj):qO (some (.val d)::ρ) 0=.ok d:=rfl
theorem zQ(x:Option S)(ρ:aj)(i:Nat):qO (x::ρ) (i+1)=qO ρ i:=rfl
theorem nh(i:Nat)(ρ:aj):ae i ρ=qO ρ i:=rfl
theorem Al(d:D)(ρ:aj):fC d ρ=.ok d:=rfl
theorem n9(ρ:aj):af ρ=.ok []:=rfl
theorem kI(f:FX)(g:bC)(ρ:aj):aa f g ρ=(f ρ).bind λx=>(g ρ).bind λxs=>.ok (x::xs):=rfl
theorem om(g:bC)(ρ:aj):bE g ρ=(g ρ).bind λxs=>rO (oI xs):=rfl
theorem ny(g:bC)(ρ:aj):fm g ρ=(g ρ).bind λxs=>rO (jK xs):=rfl
theorem zq(g:D->bF)(f:FX)(ρ:aj):f1 g f ρ=(f ρ).bind λa=>rO (g a):=rfl
theorem zj(g:D->D->bF)(f h:FX)(ρ:aj):f2 g f h ρ=(f ρ).bind λa=>(h ρ).bind λb=>rO (g a b):=rfl
theorem za(f:FX)(ρ:aj):fB f ρ=(f ρ).bind λd=>rO (LJ d):=rfl
theorem zO(g:List D->bF)(f:bC)(ρ:aj):fL g f ρ=(f ρ).bind λds=>rO (g ds):=rfl
theorem zN(g:cT)(f:bC)(ρ:aj):fR g f ρ=(f ρ).bind g:=nr rfl
theorem nu(f:bS)(ρ:aj):lj f ρ=(f ρ).bind λb=>.ok (!b):=rfl
theorem n6(f g:bS)(ρ:aj):j8 f g ρ=(f ρ).bind λb=>if b then g ρ else .ok false:=rfl
theorem rp(f g:bS)(ρ:aj):xr f g ρ=(f ρ).bind λb=>if b then .ok true else g ρ:=rfl
theorem jh(f:FX)(ρ:aj):cH f ρ=(f ρ).bind λd=>rO (truth d):=rfl
theorem ki(f g:FX)(ρ:aj):iO f g ρ=(f ρ).bind λd=>wH d (g ρ):=rfl
theorem nN(f g:FX)(ρ:aj):El f g ρ=(f ρ).bind λd=>Kc d (g ρ):=rfl
theorem ky(f:FX)(ρ:aj):vg f ρ=(f ρ).bind λa=>rO (pH a):=rfl
theorem rG(t:bS)(f g:FX)(ρ:aj):KW t f g ρ=(t ρ).bind λc=>if c then f ρ else g ρ:=rfl
theorem nM(T:String)(f:FX)(ρ:aj):iD T f ρ=(f ρ).bind λa=>rO (jv T a):=rfl
theorem nF(f:FX)(ρ:aj):MX f ρ=(f ρ).bind λa=>.ok (.bl (isNon a)):=rfl
theorem kC(f:FX)(ρ:aj):Ko f ρ=(f ρ).bind λa=>.ok (.bl (!isNon a)):=rfl
theorem nU(f:FX)(ρ:aj):lP f ρ=(f ρ).bind λa=>rO (Jm a):=rfl
theorem iW(f:FX)(ρ:aj):HG f ρ=(f ρ).bind λa=>rO (BM a):=rfl
theorem n8(f:FX)(ρ:aj):LN f ρ=(f ρ).bind λa=>rO (Ib a):=rfl
theorem jf(g g':D->D->bF)(fa fb fc:FX)(ρ:aj):lQ g g' fa fb fc ρ=(fa ρ).bind λx=>(fb ρ).bind λy=>(rO (g x y)).bind λz=>wH z ((fc ρ).bind λw=>rO (g' y w)):=rfl
theorem iM(f:FX)(ρ:aj):az f ρ=(f ρ).bind λd=>rO (qL d):=rfl
theorem gK(f:bC)(ρ:aj):eI f ρ=(f ρ).bind λds=>rO (jm ds):=rfl
theorem gH(f:bC)(ρ:aj):mR f ρ=(f ρ).bind λds=>rO (mM ds):=rfl
theorem nH(f:bC)(ρ:aj):oT f ρ=(f ρ).bind λds=>rO (rh ds):=rfl
theorem kY(f:bC)(ρ:aj):fU f ρ=(f ρ).bind λds=>rO (sR ds):=rfl
theorem mY(z:Str):NT (.str z)=some z:=rfl
theorem gL(ρ:aj):au ρ=.ok none:=rfl
theorem kF(f:FX)(ρ:aj):aQ f ρ=(f ρ).bind λd=>rO (xO d):=rfl
theorem i5(f:FX)(l h:aj->R dR)(ρ:aj):aB f l h ρ=(f ρ).bind λa=>(l ρ).bind λlo=>(h ρ).bind λhi=>rO (qC a lo hi):=rfl
theorem kU(ρ:aj):bx ρ=.ok true:=rfl
theorem ku(k:Ks)(ρ:aj):aV k ρ=k.nx ρ:=nr rfl
theorem gF(A B:bI)(k:Ks)(ρ:aj):ai A B k ρ=A {k with nx:=B k} ρ:=nr rfl
theorem kc(f:FX)(k:Ks)(ρ:aj):aJ f k ρ=o4 (f ρ) k ρ .ok:=nr rfl
theorem iT(k:Ks)(ρ:aj):Kt k ρ=.ok .non:=nr rfl
theorem lR(c:bS)(A B:bI)(k:Ks)(ρ:aj):eQ c A B k ρ=o4 (c ρ) k ρ λb=>if b then A k ρ else B k ρ:=nr rfl
theorem kZ(i:Nat)(f:FX)(k:Ks)(ρ:aj):aM i f k ρ=o4 (f ρ) k ρ λd=>k.nx (setV i d ρ):=nr rfl
theorem iY(is:List Nat)(F:bI)(k:Ks)(ρ:aj):bQ is F k ρ=F k (kill is ρ):=nr rfl
theorem il(G:bC)(g:GF)(B:bI)(k:Ks)(ρ:aj):eS G g B k ρ=o4 (G ρ) k ρ λds=>f7 g B k ds ρ:=nr rfl
theorem z6(d:D)(x:Option S)(ρ:aj):setV 0 d (x::ρ)=some (.val d)::ρ:=rfl
theorem AG(i:Nat)(d:D)(x:Option S)(ρ:aj):setV (i+1) d (x::ρ)=x::setV i d ρ:=rfl
theorem nO(ρ:aj):kill [] ρ=ρ:=rfl
theorem kQ(i:Nat)(is:List Nat)(ρ:aj):kill (i::is) ρ=kill is (ρ.set i none):=rfl
theorem lH(B:bI)(n:Nat)(a:D):aG B 1 n [a]=B K0 (env0 n [a]):=nr rfl
theorem cG(B:bI)(n:Nat)(a b:D):aG B 2 n [a,b]=B K0 (env0 n [a,b]):=nr rfl
theorem jS(B:bI)(n:Nat)(a b c:D):aG B 3 n [a,b,c]=B K0 (env0 n [a,b,c]):=nr rfl
theorem Ba(B:bI)(n:Nat)(a b c d:D):aG B 4 n [a,b,c,d]=B K0 (env0 n [a,b,c,d]):=nr rfl
theorem tQ(B:bI)(n:Nat)(a b c d e:D):aG B 5 n [a,b,c,d,e]=B K0 (env0 n [a,b,c,d,e]):=nr rfl
theorem nI(ρ:aj):inB [] ρ=[]:=rfl
theorem kK(ix:gA)(ρ:aj):inB (none::ix) ρ=none::inB ix ρ:=rfl
noncomputable def pick(ρ:aj)(i:Nat):Option S:=match ρ[i]? with
 |some (some (.val d))=>some (.val d)
 |_=>none
theorem ko(i:Nat)(ix:gA)(ρ:aj):inB (some i::ix) ρ=pick ρ i::inB ix ρ:=rfl
theorem Am(d:D)(ρ:aj):pick (some (.val d)::ρ) 0=some (.val d):=rfl
theorem Aa(x:Option S)(ρ:aj)(i:Nat):pick (x::ρ) (i+1)=pick ρ i:=rfl
theorem lg(i:Nat)(f:FX)(k:Ks)(ρ:aj):iC i f k ρ=o4 (f ρ) k ρ λd=>k.nx (ρ.set i (some (.own d))):=nr rfl
theorem kD(i:Nat)(F:bI)(k:Ks)(ρ:aj):eT i F k ρ=F k (frz i ρ):=nr rfl
theorem Ae(d:D)(ρ:aj):frz 0 (some (.own d)::ρ)=some (.val d)::ρ:=rfl
theorem rR(d:D)(ρ:aj):frz 0 (some (.val d)::ρ)=some (.val d)::ρ:=rfl
theorem AC(i:Nat)(x:Option S)(ρ:aj):frz (i+1) (x::ρ)=x::frz i ρ:=by
 unfold frz;rw[Qy];split<;>rename_i h
 ·rw[h];rfl
 ·rfl
theorem jq(i:Nat)(u:List D->List D->Option (List D))(f:bC)(k:Ks)(ρ:aj){xs:List D}(h:ρ[i]?=some (some (.own (.lst xs)))):xR i u f k ρ=o4 (f ρ) k ρ λds=>(rO (u xs ds)).bind λys=>k.nx (ρ.set i (some (.own (.lst ys)))):=by
 unfold xR;rw[h]
theorem jn{xs:List D}{y:D}(h:xs.length<100000):eG xs [y]=some (xs++[y]):=by
 show(if small (xs.length+1)then some (xs++[y])else none)=_;rw[cu ‹0›];rfl
theorem mZ(i j:Int):aX (.int i) (.int j)=some (.int (i+j)):=nr rfl
theorem nY(i j:Int):TG.qP (.int i) (.int j)=some (.int (i-j)):=nr rfl
theorem tG(i j:Int):Om (.int i) (.int j)=some (.bl (decide (i<j))):=nr rfl
theorem nD(i j:Int):lm (.int i) (.int j)=some (.bl (decide (i<j))):=nr rfl
theorem nT(x y:Str):lm (.str x) (.str y)=some (.bl (decide (x.cps.toList<y.cps.toList))):=nr rfl
theorem nZ(c d:Bool):Nb (.bl c) (.bl d)=some (.bl (c==d)):=nr rfl
theorem gI(c d:Bool):Fk (.bl c) (.bl d)=some (.bl (!(c==d))):=nr rfl
theorem rE(i j:Int):DU (.int i) (.int j)=some (.bl (decide (i<=j))):=nr rfl
theorem sg(i j:Int):DR (.int i) (.int j)=some (.bl (decide (j<i))):=nr rfl
theorem sr(i j:Int):Og (.int i) (.int j)=some (.bl (decide (j<=i))):=nr rfl
theorem nS(i:Int):Jm (.int i)=some (.int (-i)):=nr rfl
theorem dQ{i j:Int}(h:0<j):bG (.int i) (.int j)=some (.int (i%j)):=by
 show(if decide (0<j)then some (D.int (i%j))else none)=_;rw[decide_eq_true h];rfl
theorem jW{i j:Int}(h:0<j)(h':j<10^200):b8 (.int i) (.int j)=some (.int (i/j)):=by
 show(if decide (0<j/\j<10^200)then some (D.int (i/j))else none)=_;rw[decide_eq_true ⟨h,h'⟩];rfl
theorem pD{i j:Int}(h:-(2^64)<i)(h':i<2^64):lr (.int i) (.int j)=some (.int (i*j)):=by
 show(if decide ((-(2^64)<i/\i<2^64)\/(-(2^64)<j/\j<2^64))then some (D.int (i*j))else none)=_;rw[decide_eq_true (.inl ⟨h,h'⟩)];rfl
theorem mh{i j:Int}(h:-(2^64)<j)(h':j<2^64):lr (.int i) (.int j)=some (.int (i*j)):=by
 show(if decide ((-(2^64)<i/\i<2^64)\/(-(2^64)<j/\j<2^64))then some (D.int (i*j))else none)=_;rw[decide_eq_true (.inr ⟨h,h'⟩)];rfl
theorem ua(i:Int)(n:Nat)(h:n<=1000000)(h':i.natAbs<2^64):iy (.int i) (.int n)=some (.int (i^n)):=by
 show(if decide (0<=(n:Int)/\(n:Int)<=1000000/\i.natAbs<2^64)then some (D.int (i^(n:Int).toNat))else none)=_;rw[decide_eq_true ⟨by omega,by omega,h'⟩];rfl
theorem Ce:iy (.int 10) (.int 59)=some (.int (10^59)):=ua 10 59 (by decide) (by decide)
noncomputable def zx:Int:=10^59
noncomputable def NX:Int:=10^60
theorem GI:1000000<zx/\zx*10=NX:=by decide +kernel
theorem xc:iy (.int 10) (.int 59)=some (.int zx):=Ce
theorem ja(i j:Int):gx (.int i) (.int j)=some (.bl (i==j)):=by unfold gx pyEq;rfl
theorem jb(i j:Str):gx (.str i) (.str j)=some (.bl (i==j)):=by unfold gx pyEq;rfl
theorem iX(i j:Bool):gx (.bl i) (.bl j)=some (.bl (i==j)):=by unfold gx pyEq;rfl
theorem i3(i j:Int):mX (.int i) (.int j)=some (.bl (!(i==j))):=by unfold mX pyEq;rfl
theorem iU(i j:Str):mX (.str i) (.str j)=some (.bl (!(i==j))):=by unfold mX pyEq;rfl
theorem iS(i j:Bool):mX (.bl i) (.bl j)=some (.bl (!(i==j))):=by unfold mX pyEq;rfl
theorem HH{α:Type}(xs:List α)(n:Nat):ly xs (n:Int)=xs[n]?:=by
 unfold ly DH;rw[if_pos ‹0›];by_cases h:n<xs.length
 ·rw[if_pos ‹0›];rfl
 ·rw[if_neg ‹0›,Ra ‹0›];rfl
theorem zI{α:Type}(a:α)(xs:List α):ly (a::xs) 0=some a:=HH (a::xs) 0
theorem zZ{α:Type}(a:α)(xs:List α)(n:Nat):ly (a::xs) ((n+1:Nat):Int)=ly xs (n:Int):=by
 rw[HH,HH,Qy]
theorem Ir(xs:List D)(i:Int):ah (.tup xs) (.int i)=ly xs i:=nr rfl
theorem EA(xs:List D)(i:Int):ah (.lst xs) (.int i)=ly xs i:=nr rfl
theorem mE(a:D)(xs:List D):ah (.tup (a::xs)) (.int 0)=some a:=zI a xs
theorem rL(a b:D)(xs:List D):ah (.tup (a::b::xs)) (.int 1)=some b:=(zZ a _ 0).trans (zI b xs)
theorem sK(a b c:D)(xs:List D):ah (.tup (a::b::c::xs)) (.int 2)=some c:=(zZ a _ 1).trans ((zZ b _ 0).trans (zI c xs))
theorem sP(a:D)(xs:List D):ah (.lst (a::xs)) (.int 0)=some a:=zI a xs
theorem rW(a b:D)(xs:List D):ah (.lst (a::b::xs)) (.int 1)=some b:=(zZ a _ 0).trans (zI b xs)
theorem rk(a b c:D)(xs:List D):ah (.lst (a::b::c::xs)) (.int 2)=some c:=(zZ a _ 1).trans ((zZ b _ 0).trans (zI c xs))
theorem iL(xs:List D):cW [.lst xs]=some (.int xs.length):=nr rfl
theorem iK(xs:List D):cW [.tup xs]=some (.int xs.length):=nr rfl
theorem fX(xs:List D):bJ [.lst xs]=some (.tup xs):=nr rfl
theorem fM(xs:List D):bJ [.tup xs]=some (.tup xs):=nr rfl
theorem og(b:Bool):LJ (.bl b)=some b:=nr rfl
theorem gO(i:Int):xO (.int i)=some (some i):=nr rfl
theorem fD(b:Bool):truth (.bl b)=some b:=nr rfl
theorem fN(xs:List D):truth (.tup xs)=some (!xs.isEmpty):=nr rfl
theorem fJ(xs:List D):truth (.lst xs)=some (!xs.isEmpty):=nr rfl
theorem gY(i j:Int):jE [.int i,.int j]=some (.int (if j>i then j else i)):=nr rfl
theorem hU(i j:Int):gZ [.int i,.int j]=some (.int (if j<i then j else i)):=nr rfl
theorem CQ(b:Bool):v6 [.bl b]=some (.int (if b then 1 else 0)):=nr rfl
theorem fP(xs:List D):qL (.lst xs)=some xs:=nr rfl
theorem fF(xs:List D):qL (.tup xs)=some xs:=nr rfl
theorem iI(k:R D):wH (.bl true) k=k:=nr rfl
theorem jd(k:R D):wH (.bl false) k=.ok (.bl false):=nr rfl
theorem kM(k:R D):Kc (.bl true) k=.ok (.bl true):=nr rfl
theorem kG(k:R D):Kc (.bl false) k=k:=nr rfl
theorem iZ(a b:Bool):wH (.bl a) (.ok (.bl b))=.ok (.bl (a&&b)):=by cases a<;>rfl
theorem kz(a b:Bool):Kc (.bl a) (.ok (.bl b))=.ok (.bl (a||b)):=by cases a<;>rfl
theorem nV(b:Bool):pH (.bl b)=some (.bl (!b)):=nr rfl
theorem nA(xs:List D):Ib (.lst xs)=some (.lst xs.reverse):=nr rfl
theorem i9(n:Nat)(h:n<2^62):jm [.int n]=some (dD 0 n):=by
 show(if okR (n:Int)then some (dD 0 ((n:Int).toNat))else none)=_
 have:okR (n:Int)=true:=decide_eq_true ⟨by omega,by omega⟩
 rw[this];rfl
theorem B1{xs:List D}(h:xs.length<=100000):jK xs=some (.lst xs):=by unfold jK;rw[cu h];rfl
theorem mq{α:Type}(f:α->D)(h:∀a,pl (f a)=true):∀xs:List α,jJ (xs.map f)=true
 |[]=>rfl
 |x::xs=>by
  show(pl (f x)&&jJ (xs.map f))=true;rw[h,mq f h xs];rfl
theorem D4(f:Str->D)(hf:f=D.str)(w:Str)(ws:ay):inD (.str w) (ws.map f)=ws.any λy=>y==w:=by
 subst hf;unfold inD;rw[QX];congr 1
theorem uo(w:Str)(ws:ay):oR (.str w) (.tup (ws.map .str))=some (.bl (ws.contains w)):=by
 show(if(pl (.str w)&&jJ (ws.map .str))&&cJ 8 (.str w)then some (D.bl (inD (.str w) (ws.map .str)))else none)=_;rw[D4 _ rfl,mq _ λ_=>rfl];show some (D.bl _)=_;congr 2
 induction ws with
 |nil=>rfl
 |cons x xs ih=>rw[PJ,QD,ih,Bool.beq_comm]
theorem DX(w:Str)(ws:ay):oR (.str w) (.lst (ws.map .str))=some (.bl (ws.contains w)):=uo w ws
theorem qt(xs ys:List D)(h:xs.length+ys.length<=100000):aX (.lst xs) (.lst ys)=some (.lst (xs++ys)):=by
 show(if small (xs.length+ys.length)then some (D.lst (xs++ys))else none)=_;rw[cu h];rfl
theorem cR(xs ys:List D)(h:xs.length+ys.length<=100000):aX (.tup xs) (.tup ys)=some (.tup (xs++ys)):=by
 show(if small (xs.length+ys.length)then some (D.tup (xs++ys))else none)=_;rw[cu h];rfl
theorem k9(xs:List D)(lo hi:dR):qC (.lst xs) lo hi=some (.lst (cutD xs lo hi)):=nr rfl
theorem kE(xs:List D)(lo hi:dR):qC (.tup xs) lo hi=some (.tup (cutD xs lo hi)):=nr rfl
theorem cm{ix:gA}{G:bC}{g:GF}{C:bS}{Fe:FX}{ρ:aj}{ds r:List D}(h1:G ρ=.ok ds)(h2:ds.length<=100000)(h3:AK (inB ix ρ) g C Fe ds=.ok r):du ix G g C Fe ρ=.ok (.lst r):=by
 unfold du;rw[h1,cV,cu h2,h3];rfl
theorem gR{α:Type}{ρ:aj}{g:GF}{C:bS}{Fe:FX}(mk:α->D)(p:α->Bool)(v:α->D):∀xs:List α,(∀a∈xs,∃ρ1,g (mk a) ρ=some ρ1/\C ρ1=.ok (p a)/\Fe ρ1=.ok (v a))->
  AK ρ g C Fe (xs.map mk)=.ok ((xs.filter p).map v)
 |[],_=>rfl
 |a::xs,h=>by
  obtain⟨ρ1,h1,h2,h3⟩:=h a OU;rw[O9,lU,h1,eB,cV,h2,ik,cV,h3,ik,cV,gR mk p v xs λb hb=>h b (OV _ hb)];cases e:p a with
  |true=>rw[if_pos rfl,QR e];rfl
  |false=>rw[if_neg O7,QS (by simp[e])]
theorem eJ{α:Type}{ρ:aj}{g:GF}{C:bS}{Fe:FX}(mk:α->D)(v:α->D)(xs:List α)(h:∀a∈xs,∃ρ1,g (mk a) ρ=some ρ1/\C ρ1=.ok true/\Fe ρ1=.ok (v a)):AK ρ g C Fe (xs.map mk)=.ok (xs.map v):=by
 rw[gR mk (λ_=>true) v xs h,List.filter_eq_self.mpr λ_ _=>rfl]
theorem yc{g:GF}{B:bI}{k:Ks}(Iv:Nat->aj->Prop):∀(ds:List D)(i:Nat)(ρ:aj),(∀j d ρ (k':Ks),i<=j->ds[j-i]?=some d->Iv j ρ->∃ρ1 ρ2,g d ρ=some ρ1/\Iv (j+1) ρ2/\B k' ρ1=k'.nx ρ2)->Iv i ρ->∃ρ',Iv (i+ds.length) ρ'/\f7 g B k ds ρ=k.nx ρ'
 |[],i,ρ,_,h=>⟨ρ,h,rfl⟩
 |d::ds,i,ρ,st,h=>by
  obtain⟨ρ1,ρ2,e1,h2,e2⟩:=st i d ρ ⟨f7 g B k ds,k.nx,f7 g B k ds,k.ex⟩ (O1 _) (by rw[QH];rfl) h;obtain⟨ρ',h3,e3⟩:=yc (g:=g) (B:=B) (k:=k) Iv ds (i+1) ρ2 (λj d' ρ k' hj hd=>st j d' ρ k' ‹0› (by rw[show j-i=(j-(i+1))+1 by omega,Qy];exact hd)) h2;refine⟨ρ',?_,?_⟩
  ·rw[O8]
   have:i+(ds.length+1)=i+1+ds.length:=(by omega);rw[this];exact h3
  ·show((rO (g d ρ)).bind λρ1=>B ⟨f7 g B k ds,k.nx,f7 g B k ds,k.ex⟩ ρ1)=_;rw[e1,eB,cV,e2];exact e3
theorem cy{g:GF}{B:bI}{k:Ks}{ds:List D}{ρ:aj}{Q:R D->Prop}(Iv:Nat->aj->Prop)(st:∀i d ρ (k':Ks),ds[i]?=some d->Iv i ρ->∃ρ1 ρ2,g d ρ=some ρ1/\Iv (i+1) ρ2/\B k' ρ1=k'.nx ρ2)(h:Iv 0 ρ)(q:∀ρ',Iv ds.length ρ'->Q (k.nx ρ')):Q (f7 g B k ds ρ):=by
 obtain⟨ρ',h1,e⟩:=yc (k:=k) Iv ds 0 ρ (λj d ρ k' _ hd=>st j d ρ k' hd) h;rw[e];rw[QC]at h1;exact q ρ' h1
theorem bu{α:Type}{xs:List α}{i:Nat}{a:α}(h:xs[i]?=some a):i<xs.length:=by
 rcases QZ i xs.length with z|z
 ·exact z
 ·rw[Ra z]at h;cases h
theorem pp{α β:Type}(f:α->β)(xs:List α)(i:Int):ly (xs.map f) i=(ly xs i).map f:=by
 unfold ly;rw[Pa];cases DH xs.length i with
 |none=>rfl
 |some j=>simp
theorem qj{α:Type}{xs:List α}{k:Nat}(h:k<xs.length):ly xs (k:Int)=some xs[k]:=by
 unfold ly DH;rw[if_pos ‹0›,if_pos ‹0›];simp[h]
theorem jD{α:Type}{xs:List α}{i:Int}(h0:0<=i)(h:i<xs.length):ly xs i=some (xs[i.toNat]'‹0›):=by
 have e:i=((i.toNat:Nat):Int):=by omega
 conv=>lhs;rw[e]
 exact qj ‹0›
noncomputable def GP:bI:=ai (eQ (fB (f2 lm (ae 1) (fL cW (aa (ae 0) af)))) (aJ (f2 ah (ae 0) (ae 1))) aV) (aJ (fC (.int 0)))
theorem uD(ns:List Int)(k:Nat):aG GP 2 2 [.lst (ns.map .int),.int k]=.ok (.int (ns.getD k 0)):=by
 show(if decide ((k:Int)<((ns.map D.int).length:Int))then o4 (rO (ly (ns.map D.int) (k:Int))) _ _ .ok else .ok (.int 0))=_;rw[Pa];by_cases h:k<ns.length
 ·rw[if_pos (by simpa using h),pp,qj h,Option.map_some,QV,Qd h];rfl
 ·rw[if_neg (by simpa using h),QV,Ra ‹0›];rfl
theorem Dp(ns:List Int)(i:Int)(h:0<=i):∃c:Int,aG GP 2 2 [.lst (ns.map .int),.int i]=.ok (.int c):=by
 have e:i=((i.toNat:Nat):Int):=by omega
 exact⟨ns.getD i.toNat 0,by rw[e];exact uD ns i.toNat⟩
theorem ye(x y:Str):(x++y).length=x.length+y.length:=by
 show(x.cps++y.cps).size=_;rw[Array.size_append];rfl
theorem gb(x y:Str)(h:x.length<=1000)(h':y.length<=1000):aX (.str x) (.str y)=some (.str (x++y)):=by
 show(if small (x.length+y.length)then some (D.str (x++y))else none)=_;rw[cu ‹0›];rfl
theorem o3(x:Str)(h:x.length<=1000)(i:Int)(h0:0<=i)(h1:i<x.length):∃y:Str,y.length=1/\ah (.str x) (.int i)=some (.str y):=by
 have hl:x.cps.toList.length=x.length:=by simp[Str.length]
 have hi:i<x.cps.toList.length:=by omega
 refine⟨⟨#[x.cps.toList[i.toNat]'‹0›]⟩,rfl,?_⟩;show(if small x.length then(ly x.cps.toList i).bind λc=>some (D.str ⟨#[c]⟩)else none)=_;rw[cu ‹0›,if_pos rfl,jD h0 hi];rfl
theorem fK(lo:Int)(n:Nat):dD lo n=(List.range n).map λ(k:Nat)=>D.int (lo+(k:Int)):=nr rfl
theorem bU(lo:Int)(n:Nat):(dD lo n).length=n:=by unfold dD;rw[Pa,Ql]
theorem dj{α:Type}(xs:List α)(m:Nat):cutD xs none (some (m:Int))=xs.take m:=by
 unfold cutD;rw[HT.KA,HT.Lv,P7,Qn];rcases Rf m xs.length with h|h
 ·rw[Rg h]
 ·rw[Rh h,Rb h,Rb (O1 _)]
theorem p5{α:Type}(xs:List α)(m:Nat):cutD xs (some (m:Int)) none=xs.drop m:=by
 unfold cutD;rw[HT.KA,HT.Lv];rcases Rf m xs.length with h|h
 ·rw[Rg h];exact Rb (by rw[Py];exact O1 _)
 ·rw[Rh h,QH,P4,Rn h]
theorem pA(ρ:aj):oH ρ=.ok (.dct [] []):=nr rfl
theorem mC(q:cP):eF (.tup (q.map aY))=some q:=bH q
theorem xY{i:Nat}{fk fv:FX}{k:Ks}{ρ:aj}{al:bV}{q:cP}{v:D}(h:ρ[i]?=some (some (.own (bD al))))(ek:fk ρ=.ok (.tup (q.map aY)))(ev:fv ρ=.ok v)(hl:al.length<=100000):qD i fk fv k ρ=k.nx (ρ.set i (some (.own (bD (fw al q v))))):=by
 have e:rq (encK al) (al.map (·.2)) (.tup (q.map aY)) v=some (fw al q v):=by
  unfold rq;rw[dX];show(eF (.tup (q.map aY))).bind _=_;rw[mC];show(if small al.length then _ else _)=_;rw[cu hl];rfl
 unfold qD;rw[h];show o4 ((fv ρ).bind λv=>(fk ρ).bind λq=>rO (rq (encK al) (al.map (·.2)) q v)) k ρ _=_;rw[ev,cV,ek,cV,e];rfl
theorem De{α:Type}(xs:List α)(a:α):cutD (xs++[a]) none (some (-1))=xs:=by
 unfold cutD;have e:HT.sIx (xs++[a]).length (xs++[a]).length (some (-1))=xs.length:=by
  show(if(-1:Int)<0 then((-1:Int)+((xs++[a]).length:Int)).toNat else min (-1:Int).toNat (xs++[a]).length)=_;rw[if_pos (by decide),Pw,PC];omega
 rw[HT.KA,e,P7,Qn,List.take_left]
theorem uk:∀{σ τ:bM}{a b:List D},Sh σ a->Sh τ b->Sh (σ++τ) (a++b)
 |_,_,_,_,.nil,h=>h
 |_,_,_,_,.int i h,h'=>.int i (uk h h')
 |_,_,_,_,.str i h,h'=>.str i (uk h h')
local macro_rules
 |`(tactic| simp! only[$xs,*])=>`(tactic| simp only[cV,rH,pN,rT,ik,eB,ge_0,zQ,nh,Al,n9,kI,om,ny,zq,zj,za,zO,zN,nu,n6,rp,jh,ki,nN,ky,rG,nM,nF,kC,nU,iW,n8,jf,iM,gK,gH,nH,kY,gL,kF,i5,kU,ku,gF,kc,iT,lR,kZ,iY,il,lg,kD,Ae,rR,AC,z6,AG,nO,kQ,nI,kK,ko,Am,Aa,Ro,Rp,O9,PF,P0,Qi,K0,env0,List.replicate,QI,Pj,QC,Nat.reduceAdd,Nat.reduceSub,O8,PN,mZ,nY,tG,nD,nT,nZ,gI,mY,rE,sg,sr,nS,ja,jb,iX,i3,iU,iS,mE,rL,sK,sP,rW,rk,iL,iK,fX,fM,og,gO,fD,fN,fJ,gY,hU,fP,fF,iI,jd,kM,kG,iZ,kz,nV,nA,k9,kE,gN,if_true,if_false,Rq,Rr,PY,$xs,*])
theorem Iq(a b c:D):oI [a,b,c]=some (.tup [a,b,c]):=nr rfl
theorem p3(a b:D):oI [a,b]=some (.tup [a,b]):=nr rfl
theorem Ny(a:D):oI [a]=some (.tup [a]):=nr rfl
theorem Nr:oI []=some (.tup []):=nr rfl
theorem Jn:jK []=some (.lst []):=nr rfl
noncomputable def sF(m:Nat)(rows:aE):Prop:=rows.Pairwise λr s=>cK (r.take m) (s.take m)=some true
inductive F2{α β:Type}(R:α->β->Prop):List α->List β->Prop where
 |nil:F2 R [] []
 |cons {a:α} {b:β} {as:List α} {bs:List β} (h:R a b) (t:F2 R as bs):F2 R (a::as) (b::bs)
theorem Cm{ρ:aj}{g:GF}{C:bS}{Fe:FX}:∀(ds:List D)(P:Nat->D->Prop),(∀i d,ds[i]?=some d->∃ρ1 v,g d ρ=some ρ1/\C ρ1=.ok true/\Fe ρ1=.ok v/\P i v)->∃vs:List D,vs.length=ds.length/\(∀i v,vs[i]?=some v->P i v)/\AK ρ g C Fe ds=.ok vs
 |[],_,_=>⟨[],rfl,(λ_ _ h=>nomatch h),rfl⟩
 |d::ds,P,h=>by
  obtain⟨ρ1,w,h1,h2,h3,h4⟩:=h 0 d rfl;obtain⟨ws,e1,e2,e3⟩:=Cm (ρ:=ρ) (g:=g) (C:=C) (Fe:=Fe) ds (λi v=>P (i+1) v) λi d' hd=>h (i+1) d' (by rw[Qy];exact hd);refine⟨w::ws,by rw[O8,O8,e1],λi v hv=>?_,?_⟩
  ·cases i with
   |zero=>cases hv;exact h4
   |succ i=>rw[Qy]at hv;exact e2 i v hv
  ·rw[lU,h1,eB,cV,h2,ik,cV,h3,ik,cV,e3];rfl
theorem vC:∀{σ:bM}{a:List D},Sh σ a->jJ a=true
 |_,_,.nil=>rfl
 |_,_,.int i h=>by
  show(pl (.int i)&&jJ _)=true;rw[vC h];rfl
 |_,_,.str i h=>by
  show(pl (.str i)&&jJ _)=true;rw[vC h];rfl
theorem wo:∀{σ:bM}{a:List D}(n:Nat),Sh σ a->a.all (cJ (n+1))=true
 |_,_,_,.nil=>rfl
 |_,_,n,.int i h=>by rw[Qa,wo n h];rfl
 |_,_,n,.str i h=>by rw[Qa,wo n h];rfl
theorem HR{σ:bM}{a b:List D}(h:Sh σ a)(h':Sh σ b):lm (.tup a) (.tup b)=some (.bl (kLt a b)):=by
 show(if lx a&&lx b then(cK a b).bind λr=>some (D.bl r)else none)=_;rw[kR h,kR h'];show((cK a b).bind λr=>some (D.bl r))=_;unfold kLt;rcases mI h h' with⟨e,_⟩|e|⟨_,e,_⟩
 ·rw[e];rfl
 ·subst e;rw[ju h];rfl
 ·rw[e];rfl
end TG
namespace TD
open PySem PySem.Spec L2 TG TX
noncomputable def b9:bI:=ai (eQ (fB (f2 lm (ae 1) (fL cW (aa (ae 0) af)))) (aJ (f2 ah (ae 0) (ae 1))) aV) (aJ (fC (.int 0)))
noncomputable def lJ:bI:=aJ (fL bJ (aa (du [none] (az (f2 aX (f2 ah (ae 0) (fC (.int 0))) (f2 ah (ae 0) (fC (.int 1))))) (gN 0) bx (f2 ah (ae 0) (fC (.int 1)))) af))
noncomputable def aN:bI:=aJ (f2 bG (f2 aX (f2 aX (f2 lr (ae 0) (ae 0)) (f2 lr (fC (.int 48271)) (ae 0))) (fC (.int 11))) (fC (.int 2147483647)))
noncomputable def cC:bI:=ai (aM 2 (f2 bG (f2 aX (f2 aX (f2 bG (fR (aG b9 2 2) (aa (ae 0) (aa (ae 1) af))) (fC (.int 2147483647))) (f2 lr (f2 lr (fC (.int 69621)) (ae 1)) (ae 1))) (fC (.int 5))) (fC (.int 2147483647)))) (aJ (fR (aG aN 1 1) (aa (fR (aG aN 1 1) (aa (ae 2) af)) af)))
noncomputable def bN:bI:=ai (aM 2 (fC (.str "abcdefghijklmnopqrstuvwxyz"))) (ai (aM 1 (f2 bG (f2 aX (f2 lr (ae 1) (f2 ah (fm (aa (fC (.int 1)) (aa (fC (.int 5)) (aa (fC (.int 7)) (aa (fC (.int 11)) (aa (fC (.int 13)) (aa (fC (.int 23)) af))))))) (f2 bG (ae 0) (fC (.int 6))))) (f2 b8 (ae 0) (fC (.int 6)))) (fC (.int 24)))) (ai (aM 0 (f2 b8 (ae 0) (fC (.int 144)))) (ai (eQ (fB (f2 gx (f2 bG (ae 0) (fC (.int 3))) (fC (.int 0)))) (aJ (f2 oF (f2 ah (ae 2) (f2 bG (f2 aX (f2 b8 (ae 0) (fC (.int 3))) (f2 b8 (ae 1) (fC (.int 8)))) (fC (.int 26)))) (f2 aX (fC (.int 1)) (f2 bG (ae 1) (fC (.int 8)))))) aV) (ai (aM 3 (f2 aX (fC (.int 1)) (f2 bG (f2 b8 (ae 0) (fC (.int 3))) (fC (.int 8))))) (ai (aM 4 (fC (.str ""))) (ai (eS (eI (aa (ae 3) af)) (gN 5) (ai (aM 6 (f2 b8 (ae 0) (f2 aX (fC (.int 24)) (f2 lr (f2 lr (fC (.int 11)) (ae 5)) (ae 5))))) (ai (eQ (fB (f2 gx (ae 5) (f2 bG (f2 b8 (ae 0) (fC (.int 24))) (ae 3)))) (aM 6 (f2 aX (ae 6) (ae 1))) aV) (ai (aM 4 (f2 aX (ae 4) (f2 ah (ae 2) (f2 bG (ae 6) (fC (.int 26)))))) (bQ [5,6] aV))))) (aJ (ae 4))))))))
noncomputable def dF:bI:=ai (eQ (fB (f2 lm (f2 bG (ae 0) (fC (.int 3))) (fC (.int 2)))) (ai (aM 1 (f2 ah (fm (aa (fC (.int 0)) (aa (lP (fC (.int 3))) (aa (f2 qP (fC (.int 0)) (f2 bG (f2 iy (ae 0) (fC (.int 7))) (f2 iy (fC (.int 10)) (fC (.int 59))))) (aa (f2 bG (f2 iy (ae 0) (fC (.int 7))) (f2 iy (fC (.int 10)) (fC (.int 59)))) af))))) (f2 bG (f2 b8 (ae 0) (fC (.int 3))) (fC (.int 4))))) (aJ (bE (aa (fC (.str "number")) (aa (ae 1) (aa (f2 aX (ae 1) (f2 ah (fm (aa (fC (.int 0)) (aa (fC (.int 1)) (aa (fC (.int 6)) (aa (f2 iy (fC (.int 10)) (fC (.int 59))) af))))) (f2 bG (f2 b8 (ae 0) (fC (.int 12))) (fC (.int 4))))) af)))))) aV) (ai (aM 2 (fC (.str "abcdefghijklmnopqrstuvwxyz"))) (ai (aM 3 (f2 ah (ae 2) (f2 bG (f2 b8 (ae 0) (fC (.int 3))) (fC (.int 26))))) (ai (aM 4 (f2 ah (ae 2) (f2 bG (f2 b8 (ae 0) (fC (.int 78))) (fC (.int 26))))) (ai (aM 5 (fm (aa (fC (.str "")) (aa (ae 3) (aa (ae 4) (aa (f2 aX (ae 3) (ae 4)) (aa (f2 aX (ae 4) (ae 3)) (aa (f2 oF (ae 3) (fC (.int 8))) (aa (f2 aX (ae 3) (ae 3)) (aa (f2 oF (ae 4) (fC (.int 3))) af)))))))))) (ai (iC 6 oH) (bQ [1,2,4] (ai (eS (eI (aa (fC (.int 8)) af)) (gN 7) (ai (eQ (fB (f2 gx (f2 oP (f2 uV (f2 b8 (ae 0) (fC (.int 2028))) (ae 7)) (fC (.int 1))) (fC (.int 1)))) (lA 6 (f2 ah (ae 5) (ae 7)) (fC (.bl true))) aV) (bQ [7] aV))) (ai (eQ (j6 [6] (fB (f2 gx (fL p6 (aa (ae 6) af)) (fC (.int 0))))) (lA 6 (ae 3) (fC (.bl true))) aV) (eT 6 (aJ (bE (aa (fC (.str "word")) (aa (fL bJ (aa (fL eA (aa (fL jy (aa (ae 6) af)) af)) af)) af)))))))))))))
open PySem PySem.Spec L2 TG
local macro_rules
 |`(tactic| simp! only[$xs,*])=>`(tactic| simp only[cV,rH,pN,rT,ik,eB,ge_0,zQ,nh,Al,n9,kI,om,ny,zq,zj,za,zO,zN,nu,n6,rp,jh,ki,nN,ky,rG,nM,nF,kC,nU,iW,n8,jf,iM,gK,gH,nH,kY,gL,kF,i5,kU,ku,gF,kc,iT,lR,kZ,iY,il,lg,kD,Ae,rR,AC,z6,AG,nO,kQ,nI,kK,ko,Am,Aa,Ro,Rp,O9,PF,P0,Qi,K0,env0,List.replicate,QI,Pj,QC,Nat.reduceAdd,Nat.reduceSub,O8,PN,mZ,nY,tG,nD,nT,nZ,gI,mY,rE,sg,sr,nS,ja,jb,iX,i3,iU,iS,mE,rL,sK,sP,rW,rk,iL,iK,fX,fM,og,gO,fD,fN,fJ,gY,hU,fP,fF,iI,jd,kM,kG,iZ,kz,nV,nA,k9,kE,gN,if_true,if_false,Rq,Rr,PY,$xs,*])
theorem Lf(ns:List Int)(i:Int)(h:0<=i):∃c:Int,aG b9 2 2 [.lst (ns.map .int),.int i]=.ok (.int c):=Dp ns i h
theorem yv:∀bs:bM,allB (bs.map .bl)=some (bs.all id)
 |[]=>rfl
 |b::bs=>by
  show(allB (bs.map .bl)).bind (λc=>some (b&&c))=_;rw[yv bs];rfl
theorem sC(xs ys:List D):rh [.tup xs,.tup ys]=some (gG xs ys):=nr rfl
local macro_rules
 |`(tactic| simp! only[$xs,*])=>`(tactic| simp only[cV,rH,pN,rT,ik,eB,ge_0,zQ,nh,Al,n9,kI,om,ny,zq,zj,za,zO,zN,nu,n6,rp,jh,ki,nN,ky,rG,nM,nF,kC,nU,iW,n8,jf,iM,gK,gH,nH,kY,gL,kF,i5,kU,ku,gF,kc,iT,lR,kZ,iY,il,lg,kD,Ae,rR,AC,z6,AG,nO,kQ,nI,kK,ko,Am,Aa,Ro,Rp,O9,PF,P0,Qi,K0,env0,List.replicate,QI,Pj,QC,Nat.reduceAdd,Nat.reduceSub,O8,PN,mZ,nY,tG,nD,nT,nZ,gI,mY,rE,sg,sr,nS,ja,jb,iX,i3,iU,iS,mE,rL,sK,sP,rW,rk,iL,iK,fX,fM,og,gO,fD,fN,fJ,gY,hU,fP,fF,iI,jd,kM,kG,iZ,kz,nV,nA,k9,kE,gN,if_true,if_false,Rq,Rr,PY,$xs,*])
noncomputable abbrev fld(p:Str×D):D:=.tup [.str p.1,p.2]
end TD
namespace T4
open PySem PySem.Spec L2 TG TD
local macro_rules
 |`(tactic| simp! only[$xs,*])=>`(tactic| simp only[cV,rH,pN,rT,ik,eB,ge_0,zQ,nh,Al,n9,kI,om,ny,zq,zj,za,zO,zN,nu,n6,rp,jh,ki,nN,ky,rG,nM,nF,kC,nU,iW,n8,jf,iM,gK,gH,nH,kY,gL,kF,i5,kU,ku,gF,kc,iT,lR,kZ,iY,il,lg,kD,Ae,rR,AC,z6,AG,nO,kQ,nI,kK,ko,Am,Aa,Ro,Rp,O9,PF,P0,Qi,K0,env0,List.replicate,QI,Pj,QC,Nat.reduceAdd,Nat.reduceSub,O8,PN,mZ,nY,tG,nD,nT,nZ,gI,mY,rE,sg,sr,nS,ja,jb,iX,i3,iU,iS,mE,rL,sK,sP,rW,rk,iL,iK,fX,fM,og,gO,fD,fN,fJ,gY,hU,fP,fF,iI,jd,kM,kG,iZ,kz,nV,nA,k9,kE,gN,if_true,if_false,Rq,Rr,PY,$xs,*])
theorem CZ{x:Str}{n:Int}(h:1<=n)(h':n<=1000)(hx:x.length<=1000):oF (.str x) (.int n)=some (.str (iR x n)):=by
 show(if decide (1<=n/\n<=1000/\x.length<=1000)then some (D.str (iR x n))else none)=_;rw[decide_eq_true ⟨h,h',hx⟩];rfl
theorem eK(x:Int)(h0:0<=x)(h1:x<2147483700):∃y:Int,0<=y/\y<2147483647/\aG aN 1 1 [.int x]=.ok (.int y):=by
 have m1:=pD (i:=x) (j:=x) ‹0› ‹0›;have m2:=pD (i:=48271) (j:=x) (by decide) (by decide);have g:=λi=>dQ (i:=i) (show(0:Int)<2147483647 by decide);refine⟨(x*x+48271*x+11)%2147483647,Rt _ (by decide),Ru _ (by decide),?_⟩;rw[lH];unfold aN;simp! only[m1,m2,g]
theorem o6(ns:List Int)(k:Nat)(hk:k<=100):∃y:Int,0<=y/\y<2147483647/\aG cC 2 3 [.lst (ns.map .int),.int k]=.ok (.int y):=by
 obtain⟨c,ec⟩:=TD.Lf ns k ‹0›;have m1:=pD (i:=69621) (j:=(k:Int)) (by decide) (by decide);have m2:=mh (i:=69621*(k:Int)) (j:=(k:Int)) ‹0› ‹0›;have g:=λi=>dQ (i:=i) (show(0:Int)<2147483647 by decide);obtain⟨y1,a1,b1,e1⟩:=eK ((c%2147483647+69621*(k:Int)*(k:Int)+5)%2147483647) (Rt _ (by decide)) (by have:=Ru (c%2147483647+69621*(k:Int)*(k:Int)+5) (show(0:Int)<2147483647 by decide);omega);obtain⟨y2,a2,b2,e2⟩:=eK y1 a1 ‹0›;refine⟨y2,a2,b2,?_⟩;rw[cG];unfold cC;simp! only[ec,g,m1,m2,e1,e2]
theorem ut{i:Nat}{fk fv:FX}{k:Ks}{ρ:aj}{al:List (Key×D)}{q:Key}{d v:D}(h:ρ[i]?=some (some (.own (vQ al))))(ek:fk ρ=.ok d)(hd:d=aY q)(ev:fv ρ=.ok v)(hl:al.length<=1000):
  lA i fk fv k ρ=k.nx (ρ.set i (some (.own (vQ (oS al q v))))):=by
 subst hd;have e:rQ (f9 al) (al.map (·.2)) (aY q) v=some (oS al q v):=by
  unfold rQ;rw[sZ];show(keyOf (aY q)).bind _=_;rw[jl];show(if small al.length then _ else _)=_;rw[cu ‹0›];rfl
 unfold lA;rw[h];show o4 ((fv ρ).bind λv=>(fk ρ).bind λq=>rO (rQ (f9 al) (al.map (·.2)) q v)) k ρ _=_;rw[ev,cV,ek,cV,e];rfl
noncomputable abbrev yS(ws:ay):List (Key×D):=ws.map λw=>((.inr w:Key),D.bl true)
noncomputable abbrev wd(ws:ay):D:=vQ (yS ws)
noncomputable def n5(ws:ay)(w:Str):ay:=if w∈ws then ws else ws++[w]
theorem xG(ws:ay)(w:Str):oS (yS ws) (.inr w) (.bl true)=yS (n5 ws w):=by
 have e:((yS ws).any λp=>decide (p.1=(.inr w:Key)))=decide (w∈ws):=by
  induction ws with
  |nil=>simp
  |cons a ws ih=>
   show(decide ((.inr a:Key)=.inr w)||(yS ws).any λp=>decide (p.1=(.inr w:Key)))=_;rw[ih];by_cases z:a=w
   ·subst z;simp
   ·have z':¬(.inr a:Key)=.inr w:=λq=>z (Sum.inr.inj q);have z2:¬w=a:=λq=>z q.symm;simp[z',z2]
 unfold oS n5;rw[e];by_cases h:w∈ws
 ·rw[if_pos (by simpa using h),if_pos h];show(ws.map _).map _=_;rw[QW];refine Qj λa _=>?_;show(if(.inr a:Key)=.inr w then((.inr a:Key),D.bl true)else((.inr a:Key),D.bl true))=_;split<;>rfl
 ·rw[if_neg (by simpa using h),if_neg h];show _=(ws++[w]).map _;rw[Qk];rfl
theorem t7{ws:ay}(w:Str)(h:ws.Nodup):(n5 ws w).Nodup:=by
 unfold n5;split
 ·exact h
 ·rename_i z;exact List.nodup_append.mpr ⟨h,List.nodup_cons.mpr ⟨by simp,PR⟩,λa ha b hb e=>by
   rw[Rc]at hb;subst hb e;exact z ha⟩
theorem qi(ws:ay)(w:Str):(n5 ws w).length<=ws.length+1:=by
 unfold n5;split
 ·omega
 ·simp
theorem GJ(ws:ay):f9 (yS ws)=ws.map D.str:=by
 show(ws.map _).map _=_;rw[QW];rfl
theorem C9(ws:ay):keysOf (f9 (yS ws))=some (ws.map .inr):=by
 rw[show f9 (yS ws)=(ws.map (.inr:Str->Key)).map aY from by rw[GJ,QW];rfl];exact bH _
theorem Fu(ws:ay):p6 [wd ws]=some (.int ws.length):=by
 show(keysOf (f9 (yS ws))).bind _=_;rw[C9];show some (D.int ((ws.map _).length:Int))=_;rw[Pa]
theorem uX(ws:ay):jy [wd ws]=some (.lst (ws.map .str)):=by
 show(keysOf (f9 (yS ws))).bind _=_;rw[C9];show some (D.lst (f9 (yS ws)))=_;rw[GJ]
theorem p4(is:List Nat)(f:bS)(ρ:aj):j6 is f ρ=wc (f (frzs is ρ)):=nr rfl
theorem Jd(i:Nat)(ρ:aj):frzs [i] ρ=frz i ρ:=nr rfl
theorem BJ(i:Int)(k:Nat):uV (.int i) (.int k)=some (.int (i/2^k)):=by
 show(if decide (0<=(k:Int))then some (D.int (i/2^(k:Int).toNat))else none)=_;rw[decide_eq_true ‹0›];rfl
theorem tT(i j:Int):oP (.int i) (.int j)=some (.int (Builtin.bitAnd i j)):=nr rfl
theorem J2(a b c d:D):jK [a,b,c,d]=some (.lst [a,b,c,d]):=nr rfl
theorem Nq(a b c d e f g h:D):jK [a,b,c,d,e,f,g,h]=some (.lst [a,b,c,d,e,f,g,h]):=nr rfl
theorem Oj(a b c d:D)(i:Int)(h0:0<=i)(h1:i<4):∃x∈[a,b,c,d],ah (.lst [a,b,c,d]) (.int i)=some x:=by
 rcases(show i=0\/i=1\/i=2\/i=3 by omega)with z|z|z|z<;>subst z
 ·exact⟨a,by simp,rfl⟩
 ·exact⟨b,by simp,rfl⟩
 ·exact⟨c,by simp,rfl⟩
 ·exact⟨d,by simp,rfl⟩
theorem HC(B:bI)(n:Nat)(a b c d e f:D):aG B 6 n [a,b,c,d,e,f]=B K0 (env0 n [a,b,c,d,e,f]):=nr rfl
theorem mU{α:Type}{ρ:aj}{g:GF}{C:bS}{Fe:FX}(mk:α->D)(p:α->Bool)(v:α->D):∀xs:List α,(∀a∈xs,∃ρ1,g (mk a) ρ=some ρ1/\C ρ1=.ok (p a)/\(p a=true->Fe ρ1=.ok (v a)))->
  AK ρ g C Fe (xs.map mk)=.ok ((xs.filter p).map v)
 |[],_=>rfl
 |a::xs,h=>by
  obtain⟨ρ1,h1,h2,h3⟩:=h a OU;rw[O9,lU,h1,eB,cV,h2,ik,cV,mU mk p v xs λb hb=>h b (OV _ hb)];cases e:p a with
  |true=>rw[if_pos rfl,h3 e,ik,cV,QR e];rfl
  |false=>rw[if_neg O7,QS (by simp[e])]
noncomputable def mx(a b:Int):Int:=if b>a then b else a
local macro_rules
 |`(tactic| simp! only[$xs,*])=>`(tactic| simp only[cV,rH,pN,rT,ik,eB,ge_0,zQ,nh,Al,n9,kI,om,ny,zq,zj,za,zO,zN,nu,n6,rp,jh,ki,nN,ky,rG,nM,nF,kC,nU,iW,n8,jf,iM,gK,gH,nH,kY,gL,kF,i5,kU,ku,gF,kc,iT,lR,kZ,iY,il,lg,kD,Ae,rR,AC,z6,AG,nO,kQ,nI,kK,ko,Am,Aa,Ro,Rp,O9,PF,P0,Qi,K0,env0,List.replicate,QI,Pj,QC,Nat.reduceAdd,Nat.reduceSub,O8,PN,mZ,nY,tG,nD,nT,nZ,gI,mY,rE,sg,sr,nS,ja,jb,iX,i3,iU,iS,mE,rL,sK,sP,rW,rk,iL,iK,fX,fM,og,gO,fD,fN,fJ,gY,hU,fP,fF,iI,jd,kM,kG,iZ,kz,nV,nA,k9,kE,gN,if_true,if_false,Rq,Rr,PY,$xs,*])
noncomputable def LT:List Nat:=("abcdefghijklmnopqrstuvwxyz":Str).cps.toList
theorem A5:∀a<26,∀b<26,LT[a]?=LT[b]?->a=b:=by decide +kernel
noncomputable def stp(b:Int):Int:=([1,5,7,11,13,23]:List Int).getD (b%6).toNat 0
noncomputable def kk(b k:Int):Int:=(k*stp b+b/6)%24
noncomputable def jz(b:Int):Int:=b/144/24%(1+b/144/3%8)
noncomputable def uQ(b k:Int)(w:Str):Prop:=
 (b/144%3=0->w.length=(1+kk b k%8).toNat/\w.cps.toList[0]?=LT[((b/144/3+kk b k/8)%26).toNat]?)/\
 (b/144%3≠0->w.cps.toList[(jz b).toNat]?=LT[((b/144/(24+11*jz b*jz b)+kk b k)%26).toNat]?)
theorem Ke(b k:Int):0<=kk b k/\kk b k<24:=⟨Rt _ (by decide),Ru _ (by decide)⟩
theorem HP{b k1 k2:Int}(a1:0<=k1)(a2:k1<24)(b1:0<=k2)(b2:k2<24)(h:kk b k1=kk b k2):k1=k2:=by
 unfold kk stp at h;rcases(show b%6=0\/b%6=1\/b%6=2\/b%6=3\/b%6=4\/b%6=5 by omega)with z|z|z|z|z|z<;>rw[z]at h<;>simp at h<;>omega
theorem Gj{b k1 k2:Int}{w:Str}(a1:0<=k1)(a2:k1<24)(b1:0<=k2)(b2:k2<24)(h1:uQ b k1 w)(h2:uQ b k2 w):k1=k2:=by
 refine HP (b:=b) a1 a2 b1 b2 ?_;have q1:=Ke b k1;have q2:=Ke b k2;by_cases z:b/144%3=0
 ·obtain⟨l1,e1⟩:=h1.1 z;obtain⟨l2,e2⟩:=h2.1 z
  have:=A5 _ ‹0› _ ‹0› (e1.symm.trans e2)
  omega
 ·have:=A5 _ ‹0› _ ‹0› ((h1.2 z).symm.trans (h2.2 z))
  omega
theorem wA(x:Str)(h:x.length<=1000)(i:Int)(h0:0<=i)(h1:i<x.length):∃y:Str,y.length=1/\y.cps.toList[0]?=x.cps.toList[i.toNat]?/\ah (.str x) (.int i)=some (.str y):=by
 have hl:x.cps.toList.length=x.length:=by simp[Str.length]
 have hi:i<x.cps.toList.length:=by omega
 have hn:i.toNat<x.cps.toList.length:=by omega
 refine⟨⟨#[x.cps.toList[i.toNat]'hn]⟩,rfl,?_,?_⟩
 ·rw[Qd hn];rfl
 ·show(if small x.length then(ly x.cps.toList i).bind λc=>some (D.str ⟨#[c]⟩)else none)=_;rw[cu ‹0›,if_pos rfl,jD h0 hi];rfl
theorem rJ(c:Array Nat)(hc:0<c.size):∀(n:Nat)(a:Array Nat),((List.replicate n c).foldl (·++·) a).toList[0]?=if a.size=0 then(if n=0 then none else c.toList[0]?)else a.toList[0]?
 |0,a=>by
  rw[QI,Ri];split
  ·rename_i h;simp[h]
  ·rfl
 |n+1,a=>by
  rw[QK,QL,rJ c hc n (a++c)]
  have:¬(a++c).size=0:=by rw[Array.size_append];omega
  rw[if_neg this,Array.toList_append];by_cases h:a.size=0
  ·rw[if_pos h,if_neg ‹0›,Pn (by simp[h])];simp[h]
  ·rw[if_neg h,Pq (by simp;omega)]
theorem Cb{y:Str}{n:Int}(h:1<=n)(hy:y.length=1):(iR y n).cps.toList[0]?=y.cps.toList[0]?:=by
 unfold iR;split
 ·rfl
 ·have hc:0<y.cps.size:=by have:y.cps.size=1:=hy;omega
  rw[rJ y.cps hc n.toNat #[]];split
  ·rw[if_neg ‹0›]
  ·rename_i z;exact absurd rfl z
theorem xV(x y:Str):(x++y).cps.toList=x.cps.toList++y.cps.toList:=by
 show(x.cps++y.cps).toList=_;rw[Array.toList_append]
theorem ug(x:Str):x.cps.toList.length=x.length:=by simp[Str.length]
theorem pE(b k:Int)(hb:0<=b)(hk:0<=k):∃w:Str,aG bN 2 7 [.int b,.int k]=.ok (.str w)/\uQ b k w:=by
 have LL:(("abcdefghijklmnopqrstuvwxyz":Str)).length=26:=by decide +kernel
 have hLT:LT=("abcdefghijklmnopqrstuvwxyz":Str).cps.toList:=rfl;generalize hL:("abcdefghijklmnopqrstuvwxyz":Str)=L at LL hLT;have g3:=λi=>dQ (i:=i) (show(0:Int)<3 by decide);have g6:=λi=>dQ (i:=i) (show(0:Int)<6 by decide);have g8:=λi=>dQ (i:=i) (show(0:Int)<8 by decide);have g24:=λi=>dQ (i:=i) (show(0:Int)<24 by decide);have g26:=λi=>dQ (i:=i) (show(0:Int)<26 by decide);have d3:=λi=>jW (i:=i) (show(0:Int)<3 by decide) (show(3:Int)<10^200 by decide);have d6:=λi=>jW (i:=i) (show(0:Int)<6 by decide) (show(6:Int)<10^200 by decide);have d8:=λi=>jW (i:=i) (show(0:Int)<8 by decide) (show(8:Int)<10^200 by decide);have d24:=λi=>jW (i:=i) (show(0:Int)<24 by decide) (show(24:Int)<10^200 by decide);have d144:=λi=>jW (i:=i) (show(0:Int)<144 by decide) (show(144:Int)<10^200 by decide);obtain⟨st,hst,hstp,est⟩:∃st:Int,(0<=st/\st<=25)/\stp b=st/\ah (.lst [.int 1,.int 5,.int 7,.int 11,.int 13,.int 23]) (.int (b%6))=some (.int st):=by
  rcases(show b%6=0\/b%6=1\/b%6=2\/b%6=3\/b%6=4\/b%6=5 by omega)with z|z|z|z|z|z<;>rw[z]
  ·exact⟨1,by decide,by unfold stp;rw[z];rfl,rfl⟩
  ·exact⟨5,by decide,by unfold stp;rw[z];rfl,rfl⟩
  ·exact⟨7,by decide,by unfold stp;rw[z];rfl,rfl⟩
  ·exact⟨11,by decide,by unfold stp;rw[z];rfl,rfl⟩
  ·exact⟨13,by decide,by unfold stp;rw[z];rfl,rfl⟩
  ·exact⟨23,by decide,by unfold stp;rw[z];rfl,rfl⟩
 have l6:∀a b c d e f:D,jK [a,b,c,d,e,f]=some (.lst [a,b,c,d,e,f]):=λ_ _ _ _ _ _=>rfl;have ms:=mh (i:=k) (j:=st) ‹0› ‹0›;have hkk:kk b k=(k*st+b/6)%24:=by unfold kk;rw[hstp]
 generalize hk':(k*st+b/6)%24=k' at hkk;have k1:0<=k'/\k'<24:=by omega
 have hP:∀w,uQ b k w=((b/144%3=0->w.length=(1+kk b k%8).toNat/\w.cps.toList[0]?=LT[((b/144/3+kk b k/8)%26).toNat]?)/\(b/144%3≠0->w.cps.toList[(jz b).toNat]?=LT[((b/144/(24+11*jz b*jz b)+kk b k)%26).toNat]?)):=λ_=>rfl;have hj:jz b=b/144/24%(1+b/144/3%8):=rfl;generalize hb':b/144=b' at hP hj;generalize jz b=j0 at hP hj;rw[hkk]at hP;simp only[hP];have b0:0<=b':=by omega
 rw[cG];unfold bN;by_cases h:b'%3=0
 ·have h':(b'%3==0)=true:=by simp[h]
  obtain⟨y,hy,hy0,e1⟩:=wA L ‹0› ((b'/3+k'/8)%26) ‹0› ‹0›;have mu:=CZ (x:=y) (n:=1+k'%8) ‹0› ‹0› ‹0›;refine⟨iR y (1+k'%8),?_,λ_=>⟨by rw[vX ‹0›,hy,Nat.mul_one],by rw[Cb ‹0› hy,hy0,hLT]⟩,λz=>absurd h z⟩;simp! only[hL,g6,l6,est,ms,d6,g24,hk',d144,hb',g3,h',d3,d8,g26,e1,g8,mu]
 ·have h':(b'%3==0)=false:=by simp[h]
  obtain⟨n,hn,hn1,hn2⟩:∃n:Nat,1+b'/3%8=(n:Int)/\1<=n/\n<=8:=⟨(1+b'/3%8).toNat,by omega,by omega,by omega⟩
  rw[hn]at hj;have hj1:0<=j0/\j0<(n:Int):=by rw[hj];exact⟨Rt _ ‹0›,Ru _ ‹0›⟩
  have rn:=i9 n ‹0›;obtain⟨T,hT⟩:∃T:bI,T=(ai (eS (eI (aa (ae 3) af)) (gN 5) (ai (aM 6 (f2 b8 (ae 0) (f2 aX (fC (.int 24)) (f2 lr (f2 lr (fC (.int 11)) (ae 5)) (ae 5))))) (ai (eQ (fB (f2 gx (ae 5) (f2 bG (f2 b8 (ae 0) (fC (.int 24))) (ae 3)))) (aM 6 (f2 aX (ae 6) (ae 1))) aV) (ai (aM 4 (f2 aX (ae 4) (f2 ah (ae 2) (f2 bG (ae 6) (fC (.int 26)))))) (bQ [5,6] aV))))) (aJ (ae 4))):=⟨_,rfl⟩
  have key:∃w:Str,(w.cps.toList[j0.toNat]?=LT[((b'/(24+11*j0*j0)+k')%26).toNat]?)/\T K0 [some (.val (.int b')),some (.val (.int k')),some (.val (.str L)),some (.val (.int n)),some (.val (.str "")),none,none]=.ok (.str w):=by
   rw[hT,gF,il];simp! only[rn];refine cy (Q:=λz=>∃w:Str,(w.cps.toList[j0.toNat]?=LT[((b'/(24+11*j0*j0)+k')%26).toNat]?)/\z=.ok (.str w)) (λi ρ=>∃w:Str,w.length=i/\(j0<(i:Int)->w.cps.toList[j0.toNat]?=LT[((b'/(24+11*j0*j0)+k')%26).toNat]?)/\ρ=[some (.val (.int b')),some (.val (.int k')),some (.val (.str L)),some (.val (.int n)),some (.val (.str w)),none,none]) ?_ ?_ ?_
   ·rintro i d ρ kx hd ⟨w,hw,hw2,rfl⟩;have hi:=bu hd;rw[bU]at hi;have hdi:d=.int (i:Int):=by
     rw[fK,Pr,Qo hi]at hd;cases hd;simp
    subst hdi;have m1:=pD (i:=11) (j:=(i:Int)) (by decide) (by decide);have m2:=mh (i:=11*(i:Int)) (j:=(i:Int)) ‹0› ‹0›;have ii:0<=11*(i:Int)*(i:Int):=Int.mul_nonneg ‹0› ‹0›;have ii2:11*(i:Int)*(i:Int)<=11*8*8:=Int.mul_le_mul ‹0› ‹0› ‹0› (by decide);have dd:=λz=>jW (i:=z) (show(0:Int)<24+11*(i:Int)*(i:Int)by omega) (show 24+11*(i:Int)*(i:Int)<10^200 by
     have:(10:Int)^200>10000:=by decide +kernel
     omega)
    have gn:=λz=>dQ (i:=z) (show(0:Int)<(n:Int)by omega);generalize hs:b'/(24+11*(i:Int)*(i:Int))=s;by_cases hq:((i:Int)==b'/24%(n:Int))=true
    ·obtain⟨y,hy,hy0,e1⟩:=wA L ‹0› ((s+k')%26) ‹0› ‹0›;have ad:=gb w y ‹0› ‹0›;refine⟨_,_,rfl,⟨w++y,by rw[ye];omega,λ_=>?_,rfl⟩,?_⟩
     ·have eq:(i:Int)=b'/24%(n:Int):=(by simpa using hq);rw[<-hj]at eq;subst eq;rw[xV,Pn (by rw[ug];omega),ug,hw,Px,QH,hy0,hLT,<-hs]
     simp! only[m1,m2,dd,hs,d24,gn,hq,g26,e1,ad]
    ·have hq':((i:Int)==b'/24%(n:Int))=false:=(by simpa using hq);obtain⟨y,hy,hy0,e1⟩:=wA L ‹0› (s%26) ‹0› ‹0›;have ad:=gb w y ‹0› ‹0›;refine⟨_,_,rfl,⟨w++y,by rw[ye];omega,λz=>?_,rfl⟩,?_⟩
     ·have ne:j0≠(i:Int):=λq=>hq (by rw[<-q,<-hj];simp);rw[xV,Pq (by rw[ug];omega)];exact hw2 ‹0›
     simp! only[m1,m2,dd,hs,d24,gn,hq',g26,e1,ad]
   ·exact⟨"",by decide +kernel,λz=>by omega,rfl⟩
   ·rintro ρ' ⟨w,hw,hw2,rfl⟩;rw[bU]at hw2;exact⟨w,hw2 ‹0›,by simp! only[]⟩
  obtain⟨w,hw,ew⟩:=key;refine⟨w,?_,λz=>absurd z h,λ_=>hw⟩;rw[<-hT];simp only[K0]at ew;simp! only[hL,g6,l6,est,ms,d6,g24,hk',d144,hb',g3,h',d3,g8,hn,ew]
theorem tP{α:Type}{motive:List α->Prop}(nil:motive [])(snoc:∀(t:List α)(r:α),motive t->motive (t++[r]))(t:List α):motive t:=by
 have h:∀l:List α,motive l.reverse:=λl=>by
  induction l with
  |nil=>exact nil
  |cons a l ih=>rw[List.reverse_cons];exact snoc _ _ ih
 have:=h t.reverse
 rw[List.reverse_reverse]at this;exact this
theorem kr:∀{σ:bM}{a:List D}(m:Nat),Sh σ a->Sh (σ.take m) (a.take m)
 |_,_,0,_=>by rw[P4,P4];exact .nil
 |_,_,m+1,.nil=>by rw[P5,P5];exact .nil
 |_,_,m+1,.int i h=>by rw[P6,P6];exact .int i (kr m h)
 |_,_,m+1,.str i h=>by rw[P6,P6];exact .str i (kr m h)
theorem pC:∀{σ:bM}{a:List D},Sh σ a->∃q:cP,a=q.map aY
 |_,_,.nil=>⟨[],rfl⟩
 |_,_,.int i h=>by
  obtain⟨q,e⟩:=pC h;exact⟨.inl i::q,by rw[O9,e];rfl⟩
 |_,_,.str x h=>by
  obtain⟨q,e⟩:=pC h;exact⟨.inr x::q,by rw[O9,e];rfl⟩
theorem qv:∀{p q:cP},p.map aY=q.map aY->p=q:=λ{p q} h=>by
 have:=congrArg keysOf h
 rw[bH,bH]at this;exact Option.some.inj this
section
open Classical
variable(m:Nat)
noncomputable def Kz(acc:aE)(r:List D):aE:=if r.take m∈acc then acc else acc++[r.take m]
noncomputable def fs(t:aE):aE:=t.foldl (Kz m) []
noncomputable def gp(t:aE)(f:List D):aE:=(t.filter λr=>decide (r.take m=f)).map (List.drop m)
theorem oY(t:aE)(r:List D):fs m (t++[r])=Kz m (fs m t) r:=by
 unfold fs;rw[Rv];rfl
theorem wG{t:aE}{f:List D}:f∈fs m t↔∃r∈t,r.take m=f:=by
 induction t using tP with
 |nil=>unfold fs;simp
 |snoc t r ih=>
  rw[oY];unfold Kz;split
  ·rename_i h;rw[ih];constructor
   ·rintro⟨x,h1,h2⟩;exact⟨x,OW _ h1,h2⟩
   ·rintro⟨x,h1,h2⟩;rcases List.mem_append.mp h1 with z|z
    ·exact⟨x,z,h2⟩
    ·rw[List.mem_singleton.mp z]at h2;rw[h2]at h;exact ih.mp h
  ·rw[List.mem_append,ih,Rc];constructor
   ·rintro(⟨x,h1,h2⟩|h2)
    ·exact⟨x,OW _ h1,h2⟩
    ·exact⟨r,by simp,h2.symm⟩
   ·rintro⟨x,h1,h2⟩;rcases List.mem_append.mp h1 with z|z
    ·exact .inl ⟨x,z,h2⟩
    ·rw[List.mem_singleton.mp z]at h2;exact .inr h2.symm
theorem Dt(t:aE):(fs m t).Nodup:=by
 induction t using tP with
 |nil=>exact PR
 |snoc t r ih=>
  rw[oY];unfold Kz;split
  ·exact ih
  ·rename_i h;exact List.nodup_append.mpr ⟨ih,by simp,λa ha b hb e=>by
    rw[List.mem_singleton.mp hb]at e;rw[e]at ha;exact h ha⟩
theorem CJ(t:aE):(fs m t).length<=t.length:=by
 induction t using tP with
 |nil=>exact O1 _
 |snoc t r ih=>
  rw[oY];unfold Kz;split
  ·rw[Pw];omega
  ·rw[Pw,Pw];simpa using ih
theorem D3(t:aE)(r f:List D):gp m (t++[r]) f=gp m t f++(if r.take m=f then[r.drop m]else[]):=by
 unfold gp;rw[Rx,Qk];congr 1;by_cases h:r.take m=f
 ·rw[if_pos h,QR (by simpa using h)];rfl
 ·rw[if_neg h,QS (by simpa using h)];rfl
noncomputable def flat(t:aE):aE:=(fs m t).flatMap λf=>(gp m t f).map (f++·)
end
open Classical in
theorem kO(al:bV)(q:cP)(v:D):(fw al q v).map (·.1)=if q∈al.map (·.1)then al.map (·.1)else al.map (·.1)++[q]:=by
 have e:(al.any λp=>decide (p.1=q))=true↔q∈al.map (·.1):=by
  rw[Ry,List.mem_map];simp only[decide_eq_true_eq]
 unfold fw;by_cases h:q∈al.map (·.1)
 ·rw[if_pos (e.mpr h),if_pos h,QW];refine Qj λp _=>?_;show(if p.1=q then(p.1,v)else p).1=p.1;split<;>rfl
 ·rw[if_neg λz=>h (e.mp z),if_neg h,Qk];rfl
theorem BE{al:bV}{q:cP}{v:D}{p:List Key×D}(h:p∈fw al q v):p∈al\/p=(q,v):=by
 unfold fw at h;split at h
 ·obtain⟨a,ha,e⟩:=List.mem_map.mp h;by_cases z:a.1=q
  ·rw[if_pos z]at e;exact .inr (by rw[<-e,z])
  ·rw[if_neg z]at e;exact .inl (by rw[<-e];exact ha)
 ·rcases List.mem_append.mp h with z|z
  ·exact .inl z
  ·exact .inr (List.mem_singleton.mp z)
theorem FD{al:bV}(q:cP)(v:D)(h:(al.map (·.1)).Nodup):((fw al q v).map (·.1)).Nodup:=by
 rw[kO];split
 ·exact h
 ·rename_i z;exact List.nodup_append.mpr ⟨h,by simp,λa ha b hb e=>by
   rw[List.mem_singleton.mp hb]at e;rw[e]at ha;exact z ha⟩
theorem DN(al:bV)(q:cP)(v:D):(fw al q v).length<=al.length+1:=by
 have:=congrArg List.length (kO al q v)
 rw[Pa]at this;rw[this];split<;>simp
theorem me:∀{al:bV}{p:List Key×D},(al.map (·.1)).Nodup->p∈al->iw al p.1=some p.2
 |a::al,p,h,hp=>by
  obtain⟨h1,h2⟩:=List.nodup_cons.mp (by simpa using h:(a.1::al.map (·.1)).Nodup);unfold iw;by_cases e:a.1=p.1
  ·rw[Rj (by simpa using e)];rcases List.mem_cons.mp hp with z|z
   ·rw[z];rfl
   ·exact absurd (show a.1∈al.map (·.1)from by rw[e];exact List.mem_map.mpr ⟨p,z,rfl⟩) h1
  ·rw[Rl (by simpa using e)];rcases List.mem_cons.mp hp with z|z
   ·exact absurd (by rw[z]) e
   ·exact me h2 z
theorem yD(al:bV):DT (encK al) (al.map (·.2))=some al:=by
 cases al with
 |nil=>rfl
 |cons p al=>exact dX (p::al)
theorem C4(al:bV):lG [bD al]=some (.lst (encK al)):=by
 show(DT (encK al) (al.map (·.2))).bind _=_;rw[yD];rfl
theorem HW(al:bV)(q:cP):w8 (bD al) (.tup (q.map aY))=iw al q:=by
 show(DT (encK al) (al.map (·.2))).bind _=_;rw[yD];show(eF (.tup (q.map aY))).bind _=_;rw[mC];rfl
theorem C3(al:bV):wC (vc al)=some (al.map je):=by
 show(iA (encK al) (al.map (·.2))).map _=_;rw[dX];rfl
theorem EC{al:bV}{σ:bM}(nd:(al.map (·.1)).Nodup)(hs:∀p∈al,Sh σ (p.1.map aY))(h0:σ≠[])(hl:al.length<64):eA [.lst (encK al)]=some (.lst (gP dh (encK al)))/\u9 dh (gP dh (encK al)):=by
 have hx:∀x∈encK al,∃k,x=.tup k/\Sh σ k:=λx hx=>by
  obtain⟨p,hp,rfl⟩:=List.mem_map.mp hx;exact⟨_,rfl,hs p hp⟩
 have pw:(encK al).Pairwise λx y=>dh x≠dh y:=by
  rw[QU]
  have:=List.pairwise_map.mp nd
  exact this.imp λ{a b} ne e=>ne (qv e)
 have a:IY (encK al):=⟨by rw[Pa];exact hl,σ,h0,hx,pw⟩
 refine⟨?_,kT (σ:=σ) (λx h=>by obtain⟨k,e,s⟩:=hx x h;rw[e];exact s) pw⟩;show oE (encK al)=_;unfold oE;rw[if_pos a]
theorem yz:∀vs:List D,(∀v∈vs,∃r,v=.tup r)->∃t:aE,vs=t.map .tup
 |[],_=>⟨[],rfl⟩
 |v::vs,h=>by
  obtain⟨r,e⟩:=h v OU;obtain⟨t,et⟩:=yz vs λv hv=>h v (OV _ hv);exact⟨r::t,by rw[e,et];rfl⟩
noncomputable def AL:Nat->D->Prop
 |0,d=>(∃i,d=.int i)\/∃x,d=.str x
 |n+1,d=>((∃i,d=.int i)\/∃x,d=.str x)\/∃ds,d=.tup ds/\ds.length<=1000/\∀x∈ds,AL n x
theorem AL.of0{d:D}(h:AL 0 d):∀n,AL n d
 |0=>h
 |_+1=>.inl h
theorem AL.up:∀{n:Nat}{d:D},AL n d->AL (n+1) d
 |0,_,h=>.inl h
 |n+1,_,h=>by
  rcases h with h|⟨ds,e,l,f⟩
  ·exact .inl h
  ·exact .inr ⟨ds,e,l,λx hx=>AL.up (f x hx)⟩
theorem AL.le{n m:Nat}(h:n<=m){d:D}(hd:AL n d):AL m d:=by
  induction m with
  | zero => have : n = 0 := by omega
            subst this;exact hd
  |succ m ih=>
    by_cases e:n=m+1
    ·subst e;exact hd
    ·exact AL.up (ih ‹0›)
theorem AL.tup{n:Nat}{ds:List D}(l:ds.length<=1000)(h:∀x∈ds,AL n x):AL (n+1) (.tup ds):=.inr ⟨ds,rfl,l,h⟩
theorem lV:∀{σ:bM}{a:List D},Sh σ a->∀x∈a,AL 0 x
 |_,_,.int i h,x,hx=>by
  rcases List.mem_cons.mp hx with z|z
  ·exact .inl ⟨i,z⟩
  ·exact lV h x z
 |_,_,.str i h,x,hx=>by
  rcases List.mem_cons.mp hx with z|z
  ·exact .inr ⟨i,z⟩
  ·exact lV h x z
theorem Bi:∀{n:Nat}{d:D},AL n d->pl d=true
 |0,_,h=>by rcases h with⟨i,rfl⟩|⟨x,rfl⟩<;>rfl
 |n+1,_,h=>by
  rcases h with(⟨i,rfl⟩|⟨x,rfl⟩)|⟨ds,rfl,_,f⟩
  ·rfl
  ·rfl
  ·rw[cz];exact lK λx hx=>Bi (f x hx)
end T4
namespace Tk58
open PySem PySem.Spec L2 TG TX TD
noncomputable def top(i:Nat):Tf:=PySem.Challenge.pw_twoglass_k58_whole_gathers_written.main.body.getD i (.Pass ⟨0,0,0,0⟩)
noncomputable abbrev iq:Tf:=inClass (top 26) 0
theorem lI:dJ ["self","name"] ["self","name"] (aw iq):=⟨rfl,rfl,rfl,by decide +kernel,rfl,by decide +kernel,by decide +kernel⟩
noncomputable def cF:bI:=ai (aM 5 (fL cW (aa (f2 ah (ae 0) (fC (.int 0))) af))) (ai (iC 6 oH) (bQ [0] (ai (eS (az (ae 4)) (gN 7) (qD 6 (aB (ae 7) au (aQ (ae 5))) (du [none,some 7,some 5] (az (f2 ah (ae 7) (lP (fC (.int 1))))) (gN 0) bx (f2 aX (aB (ae 1) au (aQ (ae 2))) (ae 0))))) (ai (aM 8 (du [none,some 5] (az (ae 3)) (gN 0) bx (aB (ae 0) au (aQ (ae 1))))) (eT 6 (bQ [0,3,4,7] (ai (eS (az (ae 2)) (gN 7) (ai (eQ (fB (f2 dH (ae 7) (iE (ae 6) (aB (ae 7) au (aQ (ae 5))) (ae 1)))) (aJ (fC (.bl false))) aV) (bQ [7] aV))) (bQ [0,3,4,7] (ai (eS (az (ae 1)) (gN 7) (ai (eQ (j8 (fB (f2 cY (aB (ae 7) au (aQ (ae 5))) (ae 6))) (fB (f2 gx (f2 oR (ae 7) (ae 2)) (f2 oR (aB (ae 7) au (aQ (ae 5))) (ae 8))))) (aJ (fC (.bl false))) aV) (bQ [7] aV))) (aJ (fC (.bl true))))))))))))
noncomputable def cU:bI:=ai (eS (oT (aa (ae 0) (aa (ae 1) af))) (gT 2 (jL [2,3])) (ai (aM 4 (f2 ah (ae 2) (fC (.int 1)))) (ai (eQ (j8 (fB (f2 gx (f2 ah (ae 4) (fC (.int 0))) (fC (.str "number")))) (xr (fB (f2 lm (ae 3) (f2 ah (ae 4) (fC (.int 1))))) (fB (f2 DR (ae 3) (f2 ah (ae 4) (fC (.int 2))))))) (aJ (fC (.bl false))) aV) (ai (eQ (j8 (fB (f2 gx (f2 ah (ae 4) (fC (.int 0))) (fC (.str "word")))) (fB (f2 dH (ae 3) (f2 ah (ae 4) (fC (.int 1)))))) (aJ (fC (.bl false))) aV) (bQ [2,3,4] aV))))) (aJ (fC (.bl true)))
noncomputable def cZ:bI:=ai (eQ (fB (f2 gx (f2 ah (ae 0) (fC (.int 0))) (fC (.str "number")))) (aJ (bE (aa (fC (.str "number")) (aa (fL jE (aa (f2 ah (ae 0) (fC (.int 1))) (aa (f2 ah (ae 1) (fC (.int 1))) af))) (aa (fL gZ (aa (f2 ah (ae 0) (fC (.int 2))) (aa (f2 ah (ae 1) (fC (.int 2))) af))) af))))) aV) (aJ (bE (aa (fC (.str "word")) (aa (fL bJ (aa (du [none,some 1] (az (f2 ah (ae 0) (fC (.int 1)))) (gN 0) (fB (f2 oR (ae 0) (f2 ah (ae 1) (fC (.int 1))))) (ae 0)) af)) af))))
noncomputable def aZ:bI:=ai (iC 2 (fm af)) (ai (eS (oT (aa (f2 ah (ae 0) (fC (.int 0))) (aa (f2 ah (ae 1) (fC (.int 0))) af))) (gT 2 (jL [3,4])) (ai (xR 2 eG (aa (bE (aa (f2 ah (ae 3) (fC (.int 0))) (aa (fR (aG cZ 2 2) (aa (f2 ah (ae 3) (fC (.int 1))) (aa (f2 ah (ae 4) (fC (.int 1))) af))) af))) af)) (bQ [3,4] aV))) (eT 2 (aJ (fL bJ (aa (ae 2) af)))))
noncomputable def cE:bI:=ai (aM 5 (fR (aG aZ 2 5) (aa (ae 0) (aa (ae 1) af)))) (bQ [0,1] (ai (eS (az (ae 3)) (gN 6) (ai (eQ (j8 (fB (f2 dH (ae 6) (du [none] (az (ae 4)) (gN 0) bx (aB (ae 0) au (aQ (lP (fC (.int 1)))))))) (xr (fB (f2 dH (ae 6) (ae 2))) (cH (fR (aG cU 2 5) (aa (ae 5) (aa (ae 6) af)))))) (aJ (fC (.bl false))) aV) (bQ [6] aV))) (bQ [0,1,4,6] (ai (eS (az (ae 2)) (gN 6) (ai (eQ (j8 (lj (cH (fR (aG cU 2 5) (aa (ae 5) (aa (ae 6) af))))) (fB (f2 dH (ae 6) (ae 3)))) (aJ (fC (.bl false))) aV) (bQ [6] aV))) (aJ (fC (.bl true)))))))
noncomputable def dC(bg:cT):bI:=ai (eQ (cH (iD "str" (ae 1))) (aJ (iO (iD "str" (ae 0)) (f2 gx (ae 0) (ae 1)))) aV) (ai (eQ (xr (cH (iD "bool" (ae 1))) (cH (iD "bool" (ae 0)))) (aJ (iO (iD "bool" (ae 1)) (iO (iD "bool" (ae 0)) (f2 gx (ae 0) (ae 1))))) aV) (ai (eQ (cH (iD "int" (ae 1))) (aJ (iO (iD "int" (ae 0)) (f2 gx (ae 0) (ae 1)))) aV) (ai (eQ (xr (lj (cH (iD "tuple" (ae 0)))) (fB (f2 mX (fL cW (aa (ae 0) af)) (fL cW (aa (ae 1) af))))) (aJ (fC (.bl false))) aV) (ai (eS (oT (aa (ae 0) (aa (ae 1) af))) (gT 2 (jL [2,3])) (ai (eQ (lj (cH (fR bg (aa (ae 2) (aa (ae 3) af))))) (aJ (fC (.bl false))) aV) (bQ [2,3] aV))) (aJ (fC (.bl true)))))))
noncomputable def bg:Nat->cT
 |0=>λ_=>un
 |n+1=>aG (dC (bg n)) 2 4
theorem ir(n:Nat):bg (n+1)=aG (dC (bg n)) 2 4:=by rw[bg]
theorem jI:∀n:Nat,Ar 2 (bg n)
 |0=>λ_ h=>absurd (by rw[bg]) h
 |n+1=>by rw[ir];exact hJ
noncomputable def fQ:bI:=aJ (f2 ah (ae 2) (fC (.int 0)))
noncomputable def gU:bI:=aJ (iO (iD "int" (ae 0)) (vg (iD "bool" (ae 0))))
noncomputable def fZ:bI:=aJ (iO (iD "tuple" (ae 0)) (f2 gx (fL cW (aa (ae 0) af)) (ae 1)))
noncomputable def jO:bI:=ai (aM 2 (du [none,some 0] (az (ae 1)) (gN 0) bx (aB (ae 0) au (aQ (ae 1))))) (aJ (fL uG (aa (du [none,some 2] (eI (aa (f2 qP (fL cW (aa (ae 2) af)) (fC (.int 1))) af)) (gN 0) bx (f2 lm (f2 ah (ae 1) (ae 0)) (f2 ah (ae 1) (f2 aX (ae 0) (fC (.int 1)))))) af)))
noncomputable def uh(c9 cI bL:cT):bI:=ai (eQ (fB (f2 gx (f2 ah (ae 0) (fC (.int 0))) (fC (.str "number")))) (aJ (iO (fR (aG gU 1 1) (aa (ae 1) af)) (lQ DU DU (f2 ah (ae 0) (fC (.int 1))) (ae 1) (f2 ah (ae 0) (fC (.int 2)))))) aV) (ai (eQ (fB (f2 gx (f2 ah (ae 0) (fC (.int 0))) (fC (.str "word")))) (aJ (iO (iD "str" (ae 1)) (f2 oR (ae 1) (f2 ah (ae 0) (fC (.int 1)))))) aV) (aJ (iO (fR cI (aa (f2 ah (ae 0) (fC (.int 1))) (aa (ae 1) af))) (El (f2 DR (fL cW (aa (ae 1) af)) (fC (.int 0))) (vg (f2 ah (ae 0) (fC (.int 2))))))))
noncomputable def uB(c9 cI bL:cT):bI:=ai (eQ (lj (cH (iD "tuple" (ae 1)))) (aJ (fC (.bl false))) aV) (ai (aM 2 (fR (aG lJ 1 1) (aa (ae 0) af))) (aJ (iO (fL uG (aa (du [none,some 2] (az (ae 1)) (gN 0) bx (fR bL (aa (ae 1) (aa (ae 0) af)))) af)) (fR (aG jO 2 3) (aa (fL cW (aa (f2 ah (ae 0) (fC (.int 0))) af)) (aa (ae 1) af))))))
noncomputable def mP(c9 cI bL:cT):bI:=ai (eQ (lj (cH (fR (aG fZ 2 2) (aa (ae 1) (aa (fL cW (aa (ae 0) af)) af))))) (aJ (fC (.bl false))) aV) (aJ (fL uG (aa (du [none,none] (oT (aa (ae 0) (aa (ae 1) af))) (gT 2 (jL [0,1])) bx (fR c9 (aa (ae 0) (aa (ae 1) af)))) af)))
mutual
noncomputable def c9:Nat->cT
 |0=>λ_=>un
 |n+1=>aG (uh (c9 n) (cI n) (bL n)) 2 2
noncomputable def cI:Nat->cT
 |0=>λ_=>un
 |n+1=>aG (uB (c9 n) (cI n) (bL n)) 2 3
noncomputable def bL:Nat->cT
 |0=>λ_=>un
 |n+1=>aG (mP (c9 n) (cI n) (bL n)) 2 2
end
theorem j7(n:Nat):c9 (n+1)=aG (uh (c9 n) (cI n) (bL n)) 2 2:=by rw[c9]
theorem tD:∀n:Nat,Ar 2 (c9 n)
 |0=>λ_ h=>absurd (by rw[c9]) h
 |n+1=>by rw[j7];exact hJ
theorem mL(n:Nat):cI (n+1)=aG (uB (c9 n) (cI n) (bL n)) 2 3:=by rw[cI]
theorem pX:∀n:Nat,Ar 2 (cI n)
 |0=>λ_ h=>absurd (by rw[cI]) h
 |n+1=>by rw[mL];exact hJ
theorem iB(n:Nat):bL (n+1)=aG (mP (c9 n) (cI n) (bL n)) 2 2:=by rw[bL]
theorem oK:∀n:Nat,Ar 2 (bL n)
 |0=>λ_ h=>absurd (by rw[bL]) h
 |n+1=>by rw[iB];exact hJ
noncomputable def fj:bI:=ai (aM 2 (fL bJ (aa (du [none,some 1] (az (f2 ah (ae 0) (fC (.int 1)))) (gN 0) (fB (f2 oR (ae 0) (f2 ah (ae 1) (fC (.int 1))))) (ae 0)) af))) (aJ (KW (cH (ae 2)) (bE (aa (fC (.str "word")) (aa (ae 2) af))) (fC .non)))
noncomputable def d7:bI:=ai (aM 2 (fL jE (aa (f2 ah (ae 0) (fC (.int 1))) (aa (f2 ah (ae 1) (fC (.int 1))) af)))) (ai (aM 3 (fL gZ (aa (f2 ah (ae 0) (fC (.int 2))) (aa (f2 ah (ae 1) (fC (.int 2))) af)))) (aJ (KW (fB (f2 DU (ae 2) (ae 3))) (bE (aa (fC (.str "number")) (aa (ae 2) (aa (ae 3) af)))) (fC .non))))
noncomputable def nJ:bI:=ai (eQ (fB (f2 mX (f2 ah (ae 0) (fC (.int 0))) (f2 ah (ae 1) (fC (.int 0))))) (aJ (fC .non)) aV) (ai (eQ (fB (f2 gx (f2 ah (ae 0) (fC (.int 0))) (fC (.str "number")))) (aJ (fR (aG d7 2 4) (aa (ae 0) (aa (ae 1) af)))) aV) (ai (eQ (fB (f2 gx (f2 ah (ae 0) (fC (.int 0))) (fC (.str "word")))) (aJ (fR (aG fj 2 3) (aa (ae 0) (aa (ae 1) af)))) aV) (aJ (fC .non))))
noncomputable def fh:bI:=ai (eQ (fB (f2 mX (du [none] (az (ae 0)) (gN 0) bx (f2 ah (ae 0) (fC (.int 0)))) (du [none] (az (ae 1)) (gN 0) bx (f2 ah (ae 0) (fC (.int 0)))))) qB aV) (ai (eQ (fB (f2 mX (du [none] (az (ae 0)) (gN 0) bx (f2 ah (f2 ah (ae 0) (fC (.int 1))) (fC (.int 0)))) (du [none] (az (ae 1)) (gN 0) bx (f2 ah (f2 ah (ae 0) (fC (.int 1))) (fC (.int 0)))))) qB aV) (ai (aM 2 (du [none,none] (oT (aa (ae 0) (aa (ae 1) af))) (gT 2 (jL [0,1])) bx (fR (aG nJ 2 2) (aa (f2 ah (ae 0) (fC (.int 1))) (aa (f2 ah (ae 1) (fC (.int 1))) af))))) (ai (eQ (fB (f2 oR (fC .non) (ae 2))) qB aV) (aJ (fL bJ (aa (du [none,none] (oT (aa (ae 0) (aa (ae 2) af))) (gT 2 (jL [0,1])) bx (bE (aa (f2 ah (ae 0) (fC (.int 0))) (aa (ae 1) af)))) af))))))
noncomputable def dA:bI:=ai (aM 3 (fR (aG fh 2 3) (aa (f2 ah (f2 ah (ae 0) (fC (.int 0))) (fC (.int 0))) (aa (aB (f2 ah (f2 ah (ae 0) (fC (.int 1))) (fC (.int 0))) au (aQ (fL cW (aa (f2 ah (f2 ah (ae 0) (fC (.int 0))) (fC (.int 0))) af)))) af)))) (ai (aM 4 (du [none] (az (ae 3)) (gN 0) bx (f2 ah (ae 0) (fC (.int 1))))) (aJ (du [none,some 4,some 2] (az (ae 1)) (gN 0) (fB (f2 gx (fR (bL 12) (aa (ae 1) (aa (aB (ae 0) au (aQ (fL cW (aa (ae 1) af)))) af))) (ae 2))) (ae 0))))
noncomputable def iQ:bI:=ai (vB 2) (ai (eS (az (ae 1)) (gN 3) (ai (z8 2 (aB (ae 3) au (aQ (ae 0))) (aB (ae 3) (aQ (ae 0)) au)) (bQ [3] aV))) (sj 2 (aJ (fL jB (aa (du [none,none] (mJ (ae 2)) (gT 2 (jL [0,1])) bx (bE (aa (ae 0) (aa (fL bJ (aa (ae 1) af)) af)))) af)))))
noncomputable def cA:bI:=ai (aM 3 (fL cW (aa (f2 ah (f2 ah (ae 1) (fC (.int 0))) (fC (.int 0))) af))) (ai (aM 4 (fR (aG iQ 2 4) (aa (ae 3) (aa (f2 ah (ae 2) (fC (.int 1))) af)))) (aJ (fL bJ (aa (du [none,some 4,some 3] (az (fR (aG dA 3 5) (aa (ae 1) (aa (f2 ah (ae 2) (fC (.int 0))) (aa (fC (.bl true)) af))))) (gN 0) bx (f2 aX (ae 0) (bE (aa (iE (ae 1) (aB (ae 0) au (aQ (ae 2))) (bE af)) af)))) af))))
noncomputable def dP:bI:=ai (eS (eI (aa (f2 qP (fL cW (aa (ae 0) af)) (fC (.int 1))) af)) (gN 2) (ai (eQ (lj (fB (f2 lm (aB (f2 ah (ae 0) (ae 2)) au (aQ (ae 1))) (aB (f2 ah (ae 0) (f2 aX (ae 2) (fC (.int 1)))) au (aQ (ae 1)))))) (aJ (fC (.bl false))) aV) (bQ [2] aV))) (aJ (fC (.bl true)))
noncomputable def h7:bI:=aJ (bE (aa (ae 3) (aa (f2 ah (ae 2) (fC (.int 1))) af)))
noncomputable def dZ:bI:=aJ (fL bJ (aa (f2 nW (ae 1) (ae 0)) af))
noncomputable def gf:bI:=aJ (fL jB (aa (du [none,some 0] (az (ae 1)) (gN 0) bx (bE (aa (aB (ae 0) au (aQ (ae 1))) (aa (ae 0) af)))) af))
noncomputable def gW:bI:=ai (aM 3 (fR (aG gf 2 2) (aa (ae 0) (aa (ae 1) af)))) (aJ (fR (aG dZ 2 2) (aa (ae 0) (aa (f2 aX (fL lu (aa (ae 1) af)) (du [none,some 0,some 3] (az (ae 2)) (gN 0) (fB (f2 cY (aB (ae 0) au (aQ (ae 1))) (ae 2))) (ae 0))) af))))
noncomputable def dI:bI:=ai (aM 4 (fL cW (aa (f2 ah (f2 ah (ae 1) (fC (.int 0))) (fC (.int 0))) af))) (ai (aM 5 (fR (aG gW 3 4) (aa (ae 4) (aa (du [none] (az (ae 3)) (gN 0) bx (aB (ae 0) au (aQ (lP (fC (.int 1)))))) (aa (fR (aG dA 3 5) (aa (ae 1) (aa (f2 ah (ae 2) (fC (.int 0))) (aa (fC (.bl false)) af)))) af))))) (ai (aM 6 (fR (aG gf 2 2) (aa (ae 4) (aa (f2 aX (fL lu (aa (ae 3) af)) (fR (aG dA 3 5) (aa (ae 1) (aa (f2 ah (ae 2) (fC (.int 0))) (aa (fC (.bl true)) af))))) af)))) (ai (iC 7 (du [none,some 4,some 6] (az (f2 ah (ae 2) (fC (.int 1)))) (gN 0) (fB (f2 cY (aB (ae 0) au (aQ (ae 1))) (ae 2))) (ae 0))) (bQ [0,2,6] (ai (eS (az (ae 3)) (gN 8) (ai (As 7 (du [none,some 8,some 4] (az (f2 ah (ae 8) (lP (fC (.int 1))))) (gN 0) bx (f2 aX (aB (ae 1) au (aQ (ae 2))) (ae 0)))) (bQ [8] aV))) (eT 7 (aJ (bE (aa (ae 5) (aa (fR (aG dZ 2 2) (aa (fL cW (aa (f2 ah (f2 ah (ae 1) (fC (.int 1))) (fC (.int 0))) af)) (aa (ae 7) af))) af))))))))))
noncomputable def bh:bI:=ai (iC 2 oH) (ai (eS (az (ae 1)) (gN 3) (ai (qD 2 (aB (ae 3) au (aQ (ae 0))) (ae 3)) (bQ [3] aV))) (eT 2 (aJ (fL bJ (aa (du [none,some 2] (az (fL eA (aa (fL lG (aa (ae 2) af)) af))) (gN 0) bx (f2 w8 (ae 1) (ae 0))) af)))))
noncomputable def eW(aC aW aL:cT):bI:=ai (eQ (fB (f2 gx (f2 ah (ae 0) (fC (.int 0))) (fC (.str "number")))) (aJ (f2 aX (f2 ah (ae 0) (fC (.int 1))) (f2 bG (f2 iy (ae 1) (fC (.int 7))) (f2 aX (f2 qP (f2 ah (ae 0) (fC (.int 2))) (f2 ah (ae 0) (fC (.int 1)))) (fC (.int 1)))))) aV) (ai (eQ (fB (f2 gx (f2 ah (ae 0) (fC (.int 0))) (fC (.str "word")))) (aJ (f2 ah (f2 ah (ae 0) (fC (.int 1))) (f2 bG (ae 1) (fL cW (aa (f2 ah (ae 0) (fC (.int 1))) af))))) aV) (aJ (fR aL (aa (f2 ah (ae 0) (fC (.int 1))) (aa (f2 b8 (ae 1) (fC (.int 3))) (aa (fL jE (aa (f2 bG (ae 1) (fC (.int 3))) (aa (fL v6 (aa (f2 ah (ae 0) (fC (.int 2))) af)) af))) af))))))
noncomputable def jC(aC aW aL:cT):bI:=ai (iC 4 (fm af)) (ai (eS (az (f2 aX (f2 ah (ae 0) (fC (.int 0))) (f2 ah (ae 0) (fC (.int 1))))) (gT 2 (jL [5,6])) (ai (eQ (j6 [4] (fB (f2 lm (fL cW (aa (ae 4) af)) (ae 1)))) (ai (aM 2 (fR (aG aN 1 1) (aa (ae 2) af))) (xR 4 eG (aa (fR aC (aa (ae 6) (aa (ae 2) af))) af))) (ai (aM 3 (fR (aG aN 1 1) (aa (ae 3) af))) (xR 4 eG (aa (fR aC (aa (ae 6) (aa (ae 3) af))) af)))) (bQ [5,6] aV))) (eT 4 (aJ (fL bJ (aa (ae 4) af)))))
noncomputable def ie(aC aW aL:cT):bI:=ai (iC 3 (fm af)) (ai (eS (eI (aa (ae 2) af)) (gN 4) (ai (aM 1 (fR (aG aN 1 1) (aa (ae 1) af))) (ai (xR 3 eG (aa (fR aW (aa (ae 0) (aa (fC (.int 0)) (aa (fC (.int 0)) (aa (ae 1) af))))) af)) (bQ [4] aV)))) (eT 3 (aJ (fR (aG bh 2 4) (aa (fL cW (aa (f2 ah (ae 0) (fC (.int 0))) af)) (aa (ae 3) af))))))
mutual
noncomputable def aC:Nat->cT
 |0=>λ_=>un
 |n+1=>aG (eW (aC n) (aW n) (aL n)) 2 2
noncomputable def aW:Nat->cT
 |0=>λ_=>un
 |n+1=>aG (jC (aC n) (aW n) (aL n)) 4 7
noncomputable def aL:Nat->cT
 |0=>λ_=>un
 |n+1=>aG (ie (aC n) (aW n) (aL n)) 3 5
end
theorem dU(n:Nat):aC (n+1)=aG (eW (aC n) (aW n) (aL n)) 2 2:=by rw[aC]
theorem jG:∀n:Nat,Ar 2 (aC n)
 |0=>λ_ h=>absurd (by rw[aC]) h
 |n+1=>by rw[dU];exact hJ
theorem gq(n:Nat):aW (n+1)=aG (jC (aC n) (aW n) (aL n)) 4 7:=by rw[aW]
theorem lD:∀n:Nat,Ar 4 (aW n)
 |0=>λ_ h=>absurd (by rw[aW]) h
 |n+1=>by rw[gq];exact hJ
theorem fO(n:Nat):aL (n+1)=aG (ie (aC n) (aW n) (aL n)) 3 5:=by rw[aL]
theorem jU:∀n:Nat,Ar 3 (aL n)
 |0=>λ_ h=>absurd (by rw[aL]) h
 |n+1=>by rw[fO];exact hJ
noncomputable def bB:bI:=aJ (fR (aW 12) (aa (bE (aa (fL bJ (aa (ae 0) af)) (aa (bE af) af))) (aa (fC (.int 0)) (aa (fC (.int 0)) (aa (ae 1) af)))))
noncomputable def gg:bI:=ai (aM 5 (fL cW (aa (f2 ah (ae 0) (fC (.int 0))) af))) (ai (aM 6 (fR (aG aZ 2 5) (aa (ae 0) (aa (ae 1) af)))) (ai (aM 7 (du [none,some 5] (az (f2 aX (f2 aX (f2 ah (ae 2) (fC (.int 0))) (f2 ah (ae 2) (fC (.int 1)))) (ae 3))) (gN 0) bx (aB (ae 0) au (aQ (ae 1))))) (ai (aM 8 (fR (aG bB 2 2) (aa (ae 6) (aa (f2 ah (fm (aa (ae 4) (aa (f2 bG (ae 4) (fC (.int 5))) af))) (f2 bG (f2 b8 (ae 4) (fC (.int 2))) (fC (.int 2)))) af)))) (ai (eQ (j8 (fB (f2 DR (f2 bG (ae 4) (fC (.int 4))) (fC (.int 1)))) (fB (f2 mX (ae 7) (fm af)))) (aM 8 (f2 ah (ae 7) (f2 bG (f2 b8 (ae 4) (fC (.int 8))) (fL cW (aa (ae 7) af))))) aV) (ai (iC 9 (du [none,some 5,some 8] (az (ae 3)) (gN 0) (fB (f2 mX (aB (ae 0) au (aQ (ae 1))) (ae 2))) (ae 0))) (ai (eQ (j8 (fB (f2 DR (f2 bG (f2 b8 (ae 4) (fC (.int 4))) (fC (.int 3))) (fC (.int 0)))) (cH (fR (aG cU 2 5) (aa (ae 6) (aa (ae 8) af))))) (ai (aM 10 (fR (aL 12) (aa (bE (aa (aB (f2 ah (ae 1) (fC (.int 0))) (aQ (ae 5)) au) (aa (f2 ah (ae 1) (fC (.int 1))) af))) (aa (ae 4) (aa (f2 bG (f2 b8 (ae 4) (fC (.int 12))) (fC (.int 3))) af))))) (xR 9 eG (aa (f2 aX (f2 aX (ae 8) (fR (aG bB 2 2) (aa (f2 ah (ae 0) (fC (.int 1))) (aa (fR (aG aN 1 1) (aa (ae 4) af)) af)))) (bE (aa (ae 10) af))) af))) aV) (eT 9 (aJ (fR (aG bh 2 4) (aa (ae 5) (aa (ae 9) af)))))))))))
noncomputable def bR:bI:=ai (aM 3 (fR (aG aN 1 1) (aa (fR (aG cC 2 3) (aa (ae 2) (aa (fC (.int 1)) af))) af))) (ai (aM 4 (f2 bG (f2 lr (fR (aG b9 2 2) (aa (ae 2) (aa (fC (.int 1)) af))) (fC (.int 48271))) (fC (.int 2147483647)))) (ai (aM 5 (du [none,none] (az (f2 aX (f2 ah (ae 0) (fC (.int 0))) (f2 ah (ae 0) (fC (.int 1))))) (gT 2 (jL [0,1])) bx (ae 0))) (ai (aM 6 (f2 aX (du [none,none] (az (f2 aX (f2 ah (ae 1) (fC (.int 0))) (f2 ah (ae 1) (fC (.int 1))))) (gT 2 (jL [0,1])) bx (ae 0)) (fm (aa (fR (aG bN 2 7) (aa (ae 4) (aa (fC (.int 22)) af))) (aa (fR (aG bN 2 7) (aa (ae 4) (aa (fC (.int 23)) af))) af))))) (ai (aM 6 (du [none,some 5] (az (ae 6)) (gN 0) (fB (f2 dH (ae 0) (ae 1))) (ae 0))) (aJ (f2 ah (ae 6) (f2 bG (ae 3) (fL cW (aa (ae 6) af)))))))))
noncomputable def bT:bI:=ai (aM 5 (fR (aG aZ 2 5) (aa (ae 0) (aa (ae 1) af)))) (ai (aM 6 (fL cW (aa (f2 ah (ae 0) (fC (.int 0))) af))) (ai (nc 7) (ai (eS (mR (aa (ae 3) (aa (fL gZ (aa (fL jE (aa (fL cW (aa (ae 2) af)) (aa (f2 aX (ae 3) (fC (.int 6))) af))) (aa (f2 aX (ae 3) (ae 4)) af))) af))) (gN 8) (ai (aM 9 (fR (aG cC 2 3) (aa (ae 2) (aa (ae 8) af)))) (ai (aM 10 (f2 bG (ae 9) (fC (.int 6)))) (ai (aM 11 (fR (aG aN 1 1) (aa (ae 9) af))) (ai (aM 12 (fR (aG bB 2 2) (aa (f2 ah (fm (aa (f2 ah (ae 0) (fC (.int 0))) (aa (aB (f2 ah (ae 1) (fC (.int 0))) au (aQ (ae 6))) (aa (ae 5) af)))) (fL gZ (aa (ae 10) (aa (fC (.int 2)) af)))) (aa (f2 ah (fm (aa (ae 11) (aa (f2 bG (ae 11) (fC (.int 7))) (aa (f2 bG (ae 11) (fC (.int 3))) af)))) (f2 bG (f2 b8 (ae 9) (fC (.int 6))) (fC (.int 3)))) af)))) (ai (eQ (fB (f2 oR (ae 10) (bE (aa (fC (.int 0)) (aa (fC (.int 2)) (aa (fC (.int 4)) af)))))) (oJ 7 0 (f2 aX (ae 12) (fR (aG bB 2 2) (aa (f2 ah (ae 0) (fC (.int 1))) (aa (f2 aX (ae 11) (fC (.int 1))) af))))) aV) (ai (eQ (fB (f2 oR (ae 10) (bE (aa (fC (.int 1)) (aa (fC (.int 3)) (aa (fC (.int 4)) (aa (fC (.int 5)) af))))))) (oJ 7 1 (f2 aX (ae 12) (fR (aG bB 2 2) (aa (f2 aX (aB (f2 ah (ae 1) (fC (.int 0))) (aQ (ae 6)) au) (f2 ah (ae 1) (fC (.int 1)))) (aa (f2 aX (ae 11) (fC (.int 2))) af))))) aV) (bQ [8,9,10,11,12] aV)))))))) (vD 7 (aJ (bE (aa (fR (aG bh 2 4) (aa (ae 6) (aa (f2 ah (ae 7) (fC (.int 0))) af))) (aa (fR (aG bh 2 4) (aa (fL cW (aa (f2 ah (ae 1) (fC (.int 0))) af)) (aa (f2 ah (ae 7) (fC (.int 1))) af))) af))))))))
noncomputable def ga(bf aP:cT):bI:=ai (eQ (xr (fB (f2 gx (ae 2) (fC (.int 0)))) (fB (f2 lm (f2 bG (ae 0) (fC (.int 3))) (fC (.int 2))))) (aJ (fR (aG dF 1 8) (aa (f2 b8 (ae 0) (fC (.int 3))) af))) aV) (ai (aM 3 (fR aP (aa (f2 b8 (ae 0) (fC (.int 3))) (aa (ae 1) (aa (f2 bG (f2 b8 (ae 0) (fC (.int 36))) (fC (.int 12))) (aa (f2 aX (fC (.int 1)) (f2 bG (f2 b8 (ae 0) (fC (.int 3))) (fC (.int 2)))) (aa (f2 bG (f2 b8 (ae 0) (fC (.int 6))) (fC (.int 3))) (aa (f2 qP (ae 2) (fC (.int 1))) af)))))))) (aJ (bE (aa (fC (.str "rows")) (aa (ae 3) (aa (f2 gx (f2 bG (f2 b8 (ae 0) (fC (.int 18))) (fC (.int 2))) (fC (.int 1))) af))))))
noncomputable def ig(bf aP:cT):bI:=ai (iC 6 (fm af)) (ai (iC 7 (fm af)) (ai (eS (eI (aa (f2 aX (ae 3) (ae 4)) af)) (gN 8) (ai (aM 0 (fR (aG aN 1 1) (aa (ae 0) af))) (ai (eQ (fB (f2 lm (ae 8) (ae 3))) (xR 6 eG (aa (bE (aa (fR (aG bN 2 7) (aa (ae 1) (aa (f2 aX (ae 2) (ae 8)) af))) (aa (fR (aG dF 1 8) (aa (ae 0) af)) af))) af)) (xR 7 eG (aa (bE (aa (fR (aG bN 2 7) (aa (ae 1) (aa (f2 aX (ae 2) (ae 8)) af))) (aa (fR bf (aa (ae 0) (aa (ae 1) (aa (ae 5) af)))) af))) af))) (bQ [8] aV)))) (eT 7 (eT 6 (aJ (bE (aa (fL bJ (aa (ae 6) af)) (aa (fL bJ (aa (ae 7) af)) af))))))))
mutual
noncomputable def bf:Nat->cT
 |0=>λ_=>un
 |n+1=>aG (ga (bf n) (aP n)) 3 4
noncomputable def aP:Nat->cT
 |0=>λ_=>un
 |n+1=>aG (ig (bf n) (aP n)) 6 9
end
theorem d9(n:Nat):bf (n+1)=aG (ga (bf n) (aP n)) 3 4:=by rw[bf]
theorem jY:∀n:Nat,Ar 3 (bf n)
 |0=>λ_ h=>absurd (by rw[bf]) h
 |n+1=>by rw[d9];exact hJ
theorem fH(n:Nat):aP (n+1)=aG (ig (bf n) (aP n)) 6 9:=by rw[aP]
theorem j5:∀n:Nat,Ar 6 (aP n)
 |0=>λ_ h=>absurd (by rw[aP]) h
 |n+1=>by rw[fH];exact hJ
noncomputable def cO:bI:=ai (aM 1 (fC (.str "abcdefghijklmnopqrstuvwxyz"))) (ai (aM 2 (f2 ah (ae 1) (f2 bG (ae 0) (fC (.int 26))))) (ai (aM 3 (f2 ah (ae 1) (f2 bG (f2 b8 (ae 0) (fC (.int 26))) (fC (.int 26))))) (ai (iC 4 oH) (bQ [0,1] (ai (eS (az (fm (aa (fC (.str "")) (aa (ae 2) (aa (ae 3) (aa (f2 aX (ae 2) (ae 3)) (aa (f2 aX (ae 3) (ae 2)) (aa (f2 oF (ae 2) (fC (.int 8))) (aa (f2 aX (ae 2) (ae 2)) (aa (f2 oF (ae 3) (fC (.int 3))) af)))))))))) (gN 5) (ai (lA 4 (ae 5) (fC (.bl true))) (bQ [5] aV))) (eT 4 (aJ (fL eA (aa (fL jy (aa (ae 4) af)) af)))))))))
noncomputable def de:bI:=ai (aM 1 (fR (aG aN 1 1) (aa (ae 0) af))) (ai (aM 2 (f2 ah (fm (aa (fC (.int 0)) (aa (lP (fC (.int 3))) (aa (f2 qP (fC (.int 0)) (f2 bG (f2 iy (ae 1) (fC (.int 7))) (f2 iy (fC (.int 10)) (fC (.int 59))))) (aa (f2 bG (f2 iy (ae 1) (fC (.int 7))) (f2 iy (fC (.int 10)) (fC (.int 59)))) af))))) (f2 bG (f2 b8 (ae 0) (fC (.int 3))) (fC (.int 4))))) (ai (aM 3 (f2 ah (fm (aa (fC (.int 0)) (aa (fC (.int 1)) (aa (fC (.int 6)) (aa (f2 iy (fC (.int 10)) (fC (.int 59))) af))))) (f2 bG (f2 b8 (ae 0) (fC (.int 12))) (fC (.int 4))))) (ai (aM 4 (f2 bG (f2 iy (ae 1) (fC (.int 7))) (f2 aX (ae 3) (fC (.int 1))))) (ai (aM 5 (bE (aa (fC (.str "number")) (aa (ae 2) (aa (f2 aX (ae 2) (ae 3)) af))))) (ai (aM 6 (bE (aa (fC (.str "number")) (aa (f2 aX (ae 2) (ae 4)) (aa (f2 aX (f2 aX (ae 2) (ae 4)) (f2 ah (fm (aa (fC (.int 0)) (aa (fC (.int 2)) (aa (fC (.int 9)) (aa (f2 iy (fC (.int 10)) (fC (.int 59))) af))))) (f2 bG (f2 b8 (ae 0) (fC (.int 48))) (fC (.int 4))))) af))))) (ai (eQ (fB (f2 gx (f2 bG (ae 0) (fC (.int 3))) (fC (.int 2)))) (ai (aM 7 (fR (aG cO 1 6) (aa (f2 b8 (ae 0) (fC (.int 3))) af))) (ai (aM 8 (f2 ah (ae 7) (f2 bG (ae 1) (fL cW (aa (ae 7) af))))) (ai (aM 5 (bE (aa (fC (.str "word")) (aa (fL bJ (aa (du [none,none,some 8,some 1] (fU (aa (ae 7) af)) (gT 2 (jL [0,1])) (xr (fB (f2 gx (ae 1) (ae 2))) (fB (f2 gx (f2 oP (f2 uV (f2 b8 (ae 3) (fC (.int 9))) (ae 0)) (fC (.int 1))) (fC (.int 1))))) (ae 1)) af)) af)))) (aM 6 (bE (aa (fC (.str "word")) (aa (fL bJ (aa (du [none,none,some 8,some 1] (fU (aa (ae 7) af)) (gT 2 (jL [0,1])) (xr (fB (f2 gx (ae 1) (ae 2))) (fB (f2 gx (f2 oP (f2 uV (f2 b8 (ae 3) (fC (.int 3000))) (ae 0)) (fC (.int 1))) (fC (.int 1))))) (ae 1)) af)) af))))))) aV) (ai (eQ (fB (f2 gx (f2 bG (f2 b8 (ae 0) (fC (.int 200))) (fC (.int 2))) (fC (.int 1)))) (aJ (bE (aa (ae 6) (aa (ae 5) af)))) aV) (aJ (bE (aa (ae 5) (aa (ae 6) af)))))))))))
noncomputable def dM:bI:=ai (iC 3 (fm af)) (ai (iC 4 (fm af)) (ai (eS (eI (aa (ae 2) af)) (gN 5) (ai (aM 0 (fR (aG aN 1 1) (aa (ae 0) af))) (ai (aM 6 (fR (aG de 1 9) (aa (ae 0) af))) (ai (xR 3 eG (aa (bE (aa (fR (aG bN 2 7) (aa (ae 1) (aa (ae 5) af))) (aa (f2 ah (ae 6) (fC (.int 0))) af))) af)) (ai (xR 4 eG (aa (bE (aa (fR (aG bN 2 7) (aa (ae 1) (aa (ae 5) af))) (aa (f2 ah (ae 6) (fC (.int 1))) af))) af)) (bQ [5,6] aV)))))) (eT 4 (eT 3 (aJ (bE (aa (fL bJ (aa (ae 3) af)) (aa (fL bJ (aa (ae 4) af)) af))))))))
noncomputable def bY:bI:=ai (aM 1 (fR (aG cC 2 3) (aa (ae 0) (aa (fC (.int 0)) af)))) (ai (aM 2 (f2 bG (f2 lr (fR (aG b9 2 2) (aa (ae 0) (aa (fC (.int 1)) af))) (fC (.int 48271))) (fC (.int 2147483647)))) (ai (aM 3 (f2 ah (fm (aa (fC (.int 1)) (aa (fC (.int 2)) (aa (fC (.int 1)) (aa (fC (.int 3)) (aa (fC (.int 2)) (aa (fC (.int 1)) (aa (fC (.int 2)) (aa (f2 aX (fC (.int 1)) (f2 bG (f2 b8 (ae 1) (fC (.int 64))) (fC (.int 7)))) af))))))))) (f2 bG (ae 1) (fC (.int 8))))) (ai (aM 4 (fR (aG dM 3 7) (aa (fR (aG aN 1 1) (aa (ae 1) af)) (aa (ae 2) (aa (ae 3) af))))) (ai (aM 5 (f2 ah (fm (aa (fC (.int 0)) (aa (fC (.int 0)) (aa (fC (.int 1)) (aa (fC (.int 2)) af))))) (f2 bG (f2 b8 (ae 1) (fC (.int 8))) (fC (.int 4))))) (ai (aM 6 (f2 bG (f2 b8 (ae 1) (fC (.int 512))) (fC (.int 4)))) (ai (eQ (fB (f2 gx (f2 bG (f2 b8 (ae 1) (fC (.int 32))) (fC (.int 8))) (fC (.int 3)))) (ai (aM 6 (f2 bG (f2 b8 (ae 1) (fC (.int 512))) (fC (.int 8)))) (aM 5 (fC (.int 0)))) aV) (ai (aM 7 (f2 ah (fR (aP 12) (aa (f2 aX (fR (aG aN 1 1) (aa (ae 1) af)) (fC (.int 1))) (aa (ae 2) (aa (fC (.int 8)) (aa (fC (.int 0)) (aa (ae 6) (aa (ae 5) af))))))) (fC (.int 1)))) (ai (aM 8 (f2 aX (fC (.int 1)) (f2 bG (f2 b8 (ae 1) (fC (.int 4096))) (fL gZ (aa (fC (.int 3)) (aa (f2 qP (fC (.int 8)) (ae 3)) af)))))) (ai (aM 9 (fR (aP 12) (aa (f2 aX (fR (aG aN 1 1) (aa (ae 1) af)) (fC (.int 2))) (aa (ae 2) (aa (f2 ah (fm (aa (fC (.int 8)) (aa (fC (.int 15)) af))) (f2 bG (f2 b8 (ae 1) (fC (.int 2048))) (fC (.int 2)))) (aa (ae 8) (aa (f2 bG (f2 b8 (ae 1) (fC (.int 16384))) (fC (.int 4))) (aa (ae 5) af)))))))) (aJ (bE (aa (bE (aa (f2 ah (ae 4) (fC (.int 0))) (aa (ae 7) af))) (aa (bE (aa (f2 aX (f2 ah (ae 4) (fC (.int 1))) (f2 ah (ae 9) (fC (.int 0)))) (aa (f2 ah (ae 9) (fC (.int 1))) af))) af)))))))))))))
noncomputable def oz:bI:=ai (Ft (fR (aG bY 1 10) (aa (ae 0) af)) (gT 2 (jL [1,2]))) (ai (aM 3 (fL cW (aa (f2 ah (ae 1) (fC (.int 0))) af))) (ai (aM 4 (fR (aG bT 5 13) (aa (ae 1) (aa (ae 2) (aa (aB (ae 0) au (aQ (fC (.int 12)))) (aa (fC (.int 2)) (aa (fC (.int 10)) af))))))) (ai (aM 5 (fNew "Gather" ["name"] (aa (fR (aG bR 3 7) (aa (ae 1) (aa (ae 2) (aa (ae 0) af)))) af))) (ai (eS (mR (aa (fC (.int 12)) (aa (fL gZ (aa (fL jE (aa (fL cW (aa (ae 0) af)) (aa (fC (.int 15)) af))) (aa (fC (.int 52)) af))) af))) (gN 6) (ai (aM 7 (jc "got" [("Pair",(aG fQ 3 3)),("Gather",(aG cA 3 5))] (ae 5) (aa (bE (aa (ae 1) (aa (ae 2) af))) (aa (ae 4) af)))) (ai (aM 8 (fR (aG gg 5 11) (aa (ae 1) (aa (ae 2) (aa (ae 4) (aa (ae 7) (aa (fR (aG cC 2 3) (aa (ae 0) (aa (ae 6) af))) af))))))) (ai (aM 9 (jc "put" [("Pair",(aG h7 4 4)),("Gather",(aG dI 4 9))] (ae 5) (aa (bE (aa (ae 1) (aa (ae 2) af))) (aa (ae 4) (aa (ae 8) af))))) (ai (eQ (xr (lj (cH (iD "tuple" (ae 9)))) (fB (f2 mX (fL cW (aa (ae 9) af)) (fC (.int 2))))) (aJ (fC (.bl false))) aV) (ai (eQ (xr (lj (cH (fR (aG dP 2 3) (aa (f2 ah (ae 9) (fC (.int 0))) (aa (ae 3) af))))) (lj (cH (fR (aG dP 2 3) (aa (f2 ah (ae 9) (fC (.int 1))) (aa (fL cW (aa (f2 ah (ae 2) (fC (.int 0))) af)) af)))))) (aJ (fC (.bl false))) aV) (ai (eQ (lj (cH (fR (bg 12) (aa (jc "got" [("Pair",(aG fQ 3 3)),("Gather",(aG cA 3 5))] (ae 5) (aa (bE (aa (ae 1) (aa (ae 2) af))) (aa (ae 9) af))) (aa (ae 8) af))))) (aJ (fC (.bl false))) aV) (ai (eQ (lj (cH (fR (aG cE 5 7) (aa (ae 1) (aa (ae 2) (aa (f2 ah (ae 4) (fC (.int 0))) (aa (f2 ah (ae 9) (fC (.int 0))) (aa (ae 8) af)))))))) (aJ (fC (.bl false))) aV) (ai (eQ (lj (cH (fR (aG cF 5 9) (aa (ae 1) (aa (f2 ah (ae 4) (fC (.int 1))) (aa (f2 ah (ae 9) (fC (.int 1))) (aa (ae 7) (aa (ae 8) af)))))))) (aJ (fC (.bl false))) aV) (ai (eQ (fB (f2 DR (f2 aX (fL cW (aa (f2 ah (ae 9) (fC (.int 0))) af)) (fL cW (aa (f2 ah (ae 9) (fC (.int 1))) af))) (fC (.int 50)))) (aJ (fC (.bl true))) aV) (ai (aM 4 (ae 9)) (bQ [6,7,8,9] aV)))))))))))) (aJ (fC (.bl true)))))))
set_option hygiene false
local macro_rules|`(tactic|ktr_call $p $e)=>`(tactic|((with_reducible show $p);refine $e))
local macro_rules|`(tactic|walk_at "A")=>`(tactic|first|ktr_call (nB _ _ (ai _ _)) (AJ ?_ ?_)|ktr_call (nB _ _ (bQ _ _)) (zF _ ?_)|ktr_call (nB _ _ (eT _ _)) (DB _ ?_)|ktr_call (nB _ _ (vD _ _)) (Ag _ ?_)|ktr_call (nB _ _ (sj _ _)) (yZ _ ?_)|ktr_call (nB _ _ aV) BO|ktr_call (nB _ _ qB) yT|refine CD ?_)
local macro_rules|`(tactic|walk_at "B")=>`(tactic|first|ktr_call (XS _ _ (eQ _ _ _)) (HZ ?_ ?_ ?_)|ktr_call (XS _ _ (aJ _)) (FJ ?_)|ktr_call (XS _ _ (aM _ (du _ _ _ _ _))) (NE (by first|assumption|exact pF rfl) rfl (by first|exact kH rfl|exact jx rfl) ?_ ?_)|ktr_call (XS _ _ (aM _ _)) (xs _ (by first|assumption|exact pF rfl) ?_)|ktr_call (XS _ _ aV) Di|ktr_call (XS _ _ aV) Fv|ktr_call (XS _ _ (Ft _ _)) (Fg ?_ ?_)|ktr_call (XS _ _ qB) CF|ktr_call (XS _ _ (eS _ _ _)) (Ey hp rfl ?_ ?_ ?_)|ktr_call (XS _ _ (iC _ (du _ _ _ _ _))) (Oa (by first|assumption|exact pF rfl) rfl (by first|exact kH rfl|exact jx rfl) ?_ ?_)|ktr_call (XS _ _ (iC _ _)) (En (by first|assumption|exact pF rfl) rfl (by first|exact Or.inl rfl|exact Or.inr rfl) ?_)|ktr_call (XS _ _ (vB _)) (BW (by first|assumption|exact pF rfl) rfl (by first|exact Or.inl rfl|exact Or.inr rfl))|ktr_call (XS _ _ (nc _)) (z9 (by first|assumption|exact pF rfl) rfl (by first|exact Or.inl rfl|exact Or.inr rfl))|ktr_call (XS _ _ (oJ _ _ _)) (CV (xv _) ?_)|ktr_call (XS _ _ (z8 _ _ _)) (EL hr.units (xv _) ?_ ?_)|ktr_call (XS _ _ (As _ _)) (Fp (xv _) ?_)|ktr_call (XS _ _ (xR _ eG _)) (Iy PySem.F.slot_list_append PySem.F.type_list_append km yV (xv _) ?_)|ktr_call (XS _ _ (qD _ _ _)) (AW hr.units (xv _) ?_ ?_)|ktr_call (XS _ _ (lA _ _ _)) (Dv hr.units (xv _) ?_ ?_))
local macro_rules|`(tactic|walk_at "C")=>`(tactic|first|ktr_call (XT _ _ (fB (f2 gx _ _))) (ia (Cu hr.units) bZ ?_ ?_ (iu _))|ktr_call (XT _ _ (fB (f2 mX _ _))) (ia (BH hr.units) bZ ?_ ?_ (iu _))|ktr_call (XT _ _ (fB (f2 lm _ _))) (ia (B9 hr.units) bZ ?_ ?_ (iu _))|ktr_call (XT _ _ (fB (f2 DU _ _))) (ia rN eR ?_ ?_ (iu _))|ktr_call (XT _ _ (fB (f2 DR _ _))) (ia GZ eR ?_ ?_ (iu _))|ktr_call (XT _ _ (fB (f2 oR _ _))) (ia (BU hr.units) bZ ?_ ?_ rfl)|ktr_call (XT _ _ (fB (f2 dH _ _))) (ia (sd hr.units) bZ ?_ ?_ rfl)|ktr_call (XT _ _ (fB (f2 cY _ _))) (ia (sO hr.units) bZ ?_ ?_ rfl)|ktr_call (XT _ _ (fB (lQ DU DU _ _ _))) (zp rN eR rN eR ?_ ?_ ?_)|ktr_call (XT _ _ (lj _)) (Fw ?_)|ktr_call (XT _ _ (j8 _ _)) (Nu ?_)|ktr_call (XT _ _ (xr _ _)) (Nu ?_)|ktr_call (XT _ _ (cH _)) (zf ?_)|ktr_call (XT _ _ (j6 _ _)) (Bx _ ?_))
local macro_rules|`(tactic|walk_at "D")=>`(tactic|first|ktr_call (XW _ _ (j8 _ _)) (D7 ?_ ?_)|ktr_call (XW _ _ (xr _ _)) (Iu ?_ ?_)|refine B7 ?_|refine FK ?_)
local macro_rules|`(tactic|walk_at "F")=>`(tactic|first|ktr_call (XI _ _ _ (eI _)) (wO rfl (by walk_at "a") ?_)|ktr_call (XI _ _ _ (mR _)) (xN rfl (by walk_at "a") ?_)|ktr_call (XI _ _ _ (oT _)) (Ec rfl (by walk_at "a") ?_)|ktr_call (XI _ _ _ (fU _)) (qS rfl (by walk_at "a") ?_)|ktr_call (XI _ _ _ (mJ _)) (y6 ?_)|ktr_call (XI _ _ _ (az _)) (Es ?_))
local macro_rules|`(tactic|walk_at "L")=>`(tactic|first|ktr_call (XN _ _ (fm _)) (Fz ?_)|ktr_call (XN _ _ (fL lu _)) (Bz rfl (by walk_at "a") SV ?_)|ktr_call (XN _ _ oH) Av|ktr_call (XN _ _ (du _ _ _ _ _)) (NY rfl (by first|exact kH rfl|exact jx rfl) ?_ ?_))
local macro_rules|`(tactic|walk_at "M")=>`(tactic|first|with_reducible refine EB ?_|ktr_call (XE _ _ (ae _)) (xw _)|ktr_call (XE _ _ (fC (.int _))) Fi|ktr_call (XE _ _ (fC (.str _))) E5|ktr_call (XE _ _ (fC (.bl _))) Jj|ktr_call (XE _ _ (fC .non)) Ed|ktr_call (XE _ _ (f2 ah _ _)) (xi ?_ ?_)|ktr_call (XE _ _ (bE _)) (ED ?_)|ktr_call (XE _ _ (fm _)) (Ff ?_)|ktr_call (XE _ _ (f2 aX _ _)) (gD Eo bZ ?_ ?_)|ktr_call (XE _ _ (f2 qP _ _)) (gD IE Jl ?_ ?_)|ktr_call (XE _ _ (f2 lr _ _)) (gD C0 Bu ?_ ?_)|ktr_call (XE _ _ (f2 b8 _ _)) (gD CI G0 ?_ ?_)|ktr_call (XE _ _ (f2 bG _ _)) (gD IJ HI ?_ ?_)|ktr_call (XE _ _ (f2 iy _ _)) (gD Ie Ic ?_ ?_)|ktr_call (XE _ _ (f2 uV _ _)) (gD HU HX ?_ ?_)|ktr_call (XE _ _ (f2 oP _ _)) (gD HB Jp ?_ ?_)|ktr_call (XE _ _ (f2 oF _ _)) (gD Et bZ ?_ ?_)|ktr_call (XE _ _ (f2 gx _ _)) (ip (Cu hr.units) bZ ?_ ?_ (iu _))|ktr_call (XE _ _ (f2 mX _ _)) (ip (BH hr.units) bZ ?_ ?_ (iu _))|ktr_call (XE _ _ (f2 lm _ _)) (ip (B9 hr.units) bZ ?_ ?_ (iu _))|ktr_call (XE _ _ (f2 DU _ _)) (ip rN eR ?_ ?_ (iu _))|ktr_call (XE _ _ (f2 DR _ _)) (ip GZ eR ?_ ?_ (iu _))|ktr_call (XE _ _ (f2 oR _ _)) (ip (BU hr.units) bZ ?_ ?_ rfl)|ktr_call (XE _ _ (f2 dH _ _)) (ip (sd hr.units) bZ ?_ ?_ rfl)|ktr_call (XE _ _ (f2 cY _ _)) (ip (sO hr.units) bZ ?_ ?_ rfl)|ktr_call (XE _ _ (lQ DU DU _ _ _)) (zY rN eR rN eR ?_ ?_ ?_)|ktr_call (XE _ _ (vg _)) (Ez ?_)|ktr_call (XE _ _ (lP _)) (FH ?_)|ktr_call (XE _ _ (iO _ _)) (EX ?_ ?_)|ktr_call (XE _ _ (El _ _)) (Hr ?_ ?_)|ktr_call (XE _ _ (KW _ _ _)) (IQ ?_ ?_ ?_)|ktr_call (XE _ _ (f2 w8 _ _)) (EI hr.units ?_ ?_ (fun _ _=>rfl))|ktr_call (XE _ _ (aB _ _ _)) (Aj ?_ ?_ ?_)|ktr_call (XE _ _ (du _ _ _ _ _)) (xl rfl (by first|exact kH rfl|exact jx rfl) ?_ ?_)|ktr_call (XE _ _ (fR _ _)) (wI (by walk_at "a") (by first|exact hJ|walk_at "a") hr ‹0› ?_)|ktr_call (XE _ _ (fNew _ _ _)) (Ew (by walk_at "a") hr ‹0› rfl ?_)|ktr_call (XE _ _ (iD "int" _)) (ph CM rfl (by walk_at "a") rfl (by walk_at "a") SW ?_)|ktr_call (XE _ _ (iD "bool" _)) (ph zB rfl (by walk_at "a") rfl (by walk_at "a") PyProof.Rows.boot_bool ?_)|ktr_call (XE _ _ (iD "str" _)) (ph CG rfl (by walk_at "a") rfl (by walk_at "a") PyProof.Rows.boot_str ?_)|ktr_call (XE _ _ (iD "tuple" _)) (ph xP rfl (by walk_at "a") rfl (by walk_at "a") SY ?_)|ktr_call (XE _ _ (f2 nW _ _)) (zb hr rfl (by walk_at "a") (by walk_at "a") rfl (by walk_at "a") ?_ rfl rfl (Or.inr (Or.inl rfl)) rfl rfl rfl (fun _ _ _=>rfl) rfl rfl rfl (by decide) rfl rfl rfl rfl rfl)|ktr_call (XE _ _ (fL cW _)) (gJ zr rfl (by walk_at "a") PySem.boot_len ?_)|ktr_call (XE _ _ (fL bJ _)) (fI uP rfl (by walk_at "a") SY ?_)|ktr_call (XE _ _ (fL lu _)) (fI xF rfl (by walk_at "a") SV ?_)|ktr_call (XE _ _ (fL jE _)) (gJ (wU rfl) rfl (by walk_at "a") PyProof.Rows.boot_max ?_)|ktr_call (XE _ _ (fL gZ _)) (gJ (xD rfl) rfl (by walk_at "a") PyProof.Rows.boot_min ?_)|ktr_call (XE _ _ (fL v6 _)) (fI xA rfl (by walk_at "a") SW ?_)|ktr_call (XE _ _ (fL uG _)) (gJ (Aw rfl) rfl (by walk_at "a") PyProof.Rows.boot_all ?_)|ktr_call (XE _ _ (fL eA _)) (gJ tO rfl (by walk_at "a") lX ?_)|ktr_call (XE _ _ (fL jB _)) (fI (wY rfl hr.units) rfl (by walk_at "a") PyProof.Rows.boot_dict ?_)|ktr_call (XE _ _ (fL p6 _)) (gJ zE rfl (by walk_at "a") PySem.boot_len ?_)|ktr_call (XE _ _ (fL jy _)) (fI (wB rfl) rfl (by walk_at "a") SV ?_)|ktr_call (XE _ _ (fL lG _)) (fI (ww rfl) rfl (by walk_at "a") SV ?_)|ktr_call (XE _ _ (iE _ _ _)) (Ak hr.units ?_ ?_ ?_)|ktr_call (XE _ _ (jc _ _ _ (aa _ _))) (A8 (by walk_at "a") hr ‹0› ?_ ?_)|ktr_call (XE _ _ (jc _ _ _ af)) (yW (by walk_at "a") hr ‹0› ?_))
local macro_rules|`(tactic|walk_at "d")=>`(tactic|((first|((with_reducible show nB _ _ _);walk_at "A")|((with_reducible show XS _ _ _);walk_at "B")|((with_reducible show XT _ _ _);walk_at "C")|((with_reducible show XW _ _ _);walk_at "D")|((with_reducible show XA _ _ _);first|ktr_call (XA _ _ (aa _ _)) (DQ ?_ ?_)|ktr_call (XA _ _ af) Ei)|((with_reducible show XI _ _ _ _);walk_at "F")|((with_reducible show XG _ _ _);first|ktr_call (XG _ _ (gN _)) (Dg (by first|assumption|exact pF rfl) rfl (by first|exact Or.inl rfl|exact Or.inr rfl))|ktr_call (XG _ _ (gT _ _)) (F7 rfl ?_))|((with_reducible show Iz _ _ _);first|ktr_call (Iz _ _ (jL (_ :: _))) (zG ?_ ?_)|ktr_call (Iz _ _ (jL [])) BQ)|((with_reducible show XO _ _ _);first|ktr_call (XO _ _ au) BA|ktr_call (XO _ _ (aQ _)) (CB ?_))|((with_reducible show JD _ _ _);first|ktr_call (JD _ _ bx) CA|refine Bq ?_)|((with_reducible show qW _ _ _ _ _ _ _ _ _);first|refine ⟨fun _ _ _ _ _ _=>⟨?_, ?_, ?_⟩⟩)|((with_reducible show XN _ _ _);walk_at "L")|((with_reducible show XE _ _ _);walk_at "M"))<;>walk_at "d"))
local macro_rules | `(tactic| walk_at "a") => `(tactic| first | assumption | exact q.2 | (replace q := q.1; walk_at "a"))
local macro_rules | `(tactic| walk_at "b") => `(tactic| (intro us hl _ _ _ _ _ _; first | (obtain ⟨a, rfl⟩ := JM hl; rfl) | (obtain ⟨a, b, rfl⟩ := IH hl; rfl) | (obtain ⟨a, b, c, rfl⟩ := KH hl; rfl) | (obtain ⟨a, b, c, d, rfl⟩ := Ku hl; rfl) | (obtain ⟨a, b, c, d, e, rfl⟩ := Kx hl; rfl) | (obtain ⟨a, b, c, d, e, f, rfl⟩ := MA hl; rfl)))
local macro_rules | `(tactic| walk_at "m") => `(tactic| ((· walk_at "a"); (· walk_at "b"); (· exact ⟨rfl, rfl, rfl, by decide +kernel, rfl, by decide +kernel, by decide +kernel⟩); first | refine fun nd f => ⟨fun cdv A outer s H E hr hp => ?_⟩ | intro nd f A outer s H E hr hp))
local macro_rules | `(tactic| ktn_call $m $b:ident) => `(tactic| ((first | (apply DV $m; walk_at "m") | (apply N4 $m; walk_at "m") | (apply Oi $m; walk_at "m")); unfold $b; walk_at "d"))
local macro_rules | `(tactic| walk_at "t") => `(tactic| first | exact E8 | (refine DE (MethAt.mono (by walk_at "a") (by decide)) hJ ?_; walk_at "t"))
section
variable[aA]{u:U}
noncomputable def Q0(u:U):Prop:=(((((((((Lc u (Lc u (Zs u ["len","zip","min","max","tuple","isinstance","str","bool","int","all","range","dict","sorted","list","enumerate"]) [("_law_other_stays",top 53),("_law_fit",top 50),("_law_in_both",top 43),("_law_key_of_both",top 45),("_law_first_stays",top 52),("_law_alike",top 40),("is_whole",top 6),("has_parts",top 7),("keys_rise",top 16),("kinds_of",top 8),("fits",top 13),("keeps",top 14),("is_row",top 15),("both_words",top 11),("both_numbers",top 10),("both",top 9),("shared_key",top 24),("seen_rows",top 27),("grouped",top 20),("_law_rising",top 54),("by_key",top 19),("standing",top 21),("_law_sorted",top 38),("_law_next",top 30),("_law_value",top 36),("_law_row",top 37),("_law_rows",top 39),("_law_values",top 46),("_law_deed",top 51),("_law_cell_at",top 29)]) [("_law_seed",top 31),("_law_name",top 32),("_law_gathered_name",top 48),("_law_gathered_tables",top 49),("_law_plain",top 33),("_law_kind",top 34),("_law_form",top 35),("_law_some_words",top 41),("_law_two_kinds",top 42),("_law_two_keys",top 44),("_law_gathered_forms",top 47)])/\ub u.P u.w u.K u.mg u.base 1 "Gather" ["self","name"] ["name"])/\Dm u "Pair" "got" "Pair.got" (inClass (top 23) 2))/\Dm u "Gather" "got" "Gather.got" (inClass (top 26) 3))/\Dm u "Pair" "put" "Pair.put" (inClass (top 23) 3))/\Dl u "sorted_by" (top 17))/\DF u.mg u.base u.cL u.T)/\∀H,aA.tab H->H u.T=some (.ext (oh u.T ⟨53,34,53,56⟩ ((("sorted_by":Str)++".<locals>.")++"<lambda>"))))/\Dm u "Gather" "put" "Gather.put" (inClass (top 26) 4))
noncomputable def Q1(u:U):Prop:=Q0 u/\Ca u 1 "_law_other_stays" ["_law_one","_law_tables","_law_put","_law_old","_law_view"] (aG cF 5 9)
theorem e1(q:Q0 u):Q1 u:=⟨q,(by ktn_call ["_law_many","_law_within","_law_row_here","_law_gone"] cF)⟩
noncomputable def Q2(u:U):Prop:=Q1 u/\Ca u 1 "_law_fit" ["_law_fields","_law_key"] (aG cU 2 5)
theorem e2(q:Q1 u):Q2 u:=⟨q,(by ktn_call ["_law_field","_law_value_here","_law_kind_here"] cU)⟩
noncomputable def Q3(u:U):Prop:=Q2 u/\Ca u 1 "_law_in_both" ["_law_one","_law_other"] (aG cZ 2 2)
theorem e3(q:Q2 u):Q3 u:=⟨q,(by ktn_call [] cZ)⟩
noncomputable def Q4(u:U):Prop:=Q3 u/\Ca u 2 "_law_key_of_both" ["_law_one","_law_other"] (aG aZ 2 5)
theorem e4(q:Q3 u):Q4 u:=⟨q,(by ktn_call ["_law_found","_law_field","_law_more"] aZ)⟩
noncomputable def Q5(u:U):Prop:=Q4 u/\Ca u 3 "_law_first_stays" ["_law_one","_law_other","_law_table","_law_put","_law_view"] (aG cE 5 7)
theorem e5(q:Q4 u):Q5 u:=⟨q,(by ktn_call ["_law_key","_law_row_here"] cE)⟩
theorem j3(q:Q5 u):∀n:Nat,Ca u (0+n) "_law_alike" ["_law_found","_law_due"] (bg n)
 |0=>by
  rw[bg];exact FU (by walk_at "a") (by walk_at "b")
 |n+1=>by
  have ih:=j3 q n;have c0:=ih;have a0:=jI n;rw[ir];apply DV (k:=0+n) ["_law_one","_law_other"];walk_at "m";unfold dC;walk_at "d"
noncomputable def Q6(u:U):Prop:=(Q5 u/\Ca u 12 "_law_alike" ["_law_found","_law_due"] (bg 12))/\Ar 2 (bg 12)
theorem e6(q:Q5 u):Q6 u:=⟨⟨q,(j3 q 12)⟩,jI 12⟩
noncomputable def Q7(u:U):Prop:=Q6 u/\Ma u 1 "Pair" "got" ["self","forms","tables"] (aG fQ 3 3)
theorem e7(q:Q6 u):Q7 u:=⟨q,(by ktn_call [] fQ)⟩
noncomputable def Q8(u:U):Prop:=Q7 u/\Ca u 1 "is_whole" ["value"] (aG gU 1 1)
theorem e8(q:Q7 u):Q8 u:=⟨q,(by ktn_call [] gU)⟩
noncomputable def Q9(u:U):Prop:=Q8 u/\Ca u 1 "has_parts" ["value","many"] (aG fZ 2 2)
theorem e9(q:Q8 u):Q9 u:=⟨q,(by ktn_call [] fZ)⟩
noncomputable def MK(u:U):Prop:=Q9 u/\Ca u 1 "keys_rise" ["many","table"] (aG jO 2 3)
theorem e10(q:Q9 u):MK u:=⟨q,(by ktn_call ["keys"] jO)⟩
noncomputable def Ld(u:U):Prop:=MK u/\Ca u 1 "kinds_of" ["form"] (aG lJ 1 1)
theorem Mz(q:MK u):Ld u:=⟨q,(by ktn_call [] lJ)⟩
theorem md(q:Ld u):∀n:Nat,Ca u (1+n) "fits" ["kind","value"] (c9 n)/\Ca u (1+n) "keeps" ["form","table"] (cI n)/\Ca u (1+n) "is_row" ["kinds","row"] (bL n)
 |0=>by
  rw[c9];rw[cI];rw[bL];exact⟨FU (by walk_at "a") (by walk_at "b"),FU (by walk_at "a") (by walk_at "b"),FU (by walk_at "a") (by walk_at "b")⟩
 |n+1=>by
  have ih:=md q n;have c0:=ih.1;have a0:=tD n;have c1:=ih.2.1;have a1:=pX n;have c2:=ih.2.2;have a2:=oK n;rw[j7];rw[mL];rw[iB];refine⟨?_,?_,?_⟩
  ·apply DV (k:=1+n) [];walk_at "m";unfold uh;walk_at "d"
  ·apply DV (k:=1+n) ["kinds"];walk_at "m";unfold uB;walk_at "d"
  ·apply DV (k:=1+n) [];walk_at "m";unfold mP;walk_at "d"
noncomputable def MS(u:U):Prop:=(((((Ld u/\Ca u 13 "fits" ["kind","value"] (c9 12))/\Ar 2 (c9 12))/\Ca u 13 "keeps" ["form","table"] (cI 12))/\Ar 2 (cI 12))/\Ca u 13 "is_row" ["kinds","row"] (bL 12))/\Ar 2 (bL 12)
theorem NM(q:Ld u):MS u:=⟨⟨⟨⟨⟨⟨q,(md q 12).1⟩,tD 12⟩,(md q 12).2.1⟩,pX 12⟩,(md q 12).2.2⟩,oK 12⟩
noncomputable def Nj(u:U):Prop:=MS u/\Ca u 1 "both_words" ["one","other"] (aG fj 2 3)
theorem OB(q:MS u):Nj u:=⟨q,(by ktn_call ["words"] fj)⟩
noncomputable def Mw(u:U):Prop:=Nj u/\Ca u 1 "both_numbers" ["one","other"] (aG d7 2 4)
theorem OA(q:Nj u):Mw u:=⟨q,(by ktn_call ["low","high"] d7)⟩
noncomputable def Mr(u:U):Prop:=Mw u/\Ca u 2 "both" ["one","other"] (aG nJ 2 2)
theorem OC(q:Mw u):Mr u:=⟨q,(by ktn_call [] nJ)⟩
noncomputable def MI(u:U):Prop:=Mr u/\Ca u 3 "shared_key" ["one","other"] (aG fh 2 3)
theorem NC(q:Mr u):MI u:=⟨q,(by ktn_call ["kinds"] fh)⟩
noncomputable def LX(u:U):Prop:=MI u/\Ca u 14 "seen_rows" ["forms","table","seen"] (aG dA 3 5)
theorem N1(q:MI u):LX u:=⟨q,(by ktn_call ["key","kinds"] dA)⟩
noncomputable def Nf(u:U):Prop:=LX u/\Ca u 1 "grouped" ["many","rows"] (aG iQ 2 4)
theorem NQ(q:LX u):Nf u:=⟨q,(by ktn_call ["groups","row"] iQ)⟩
noncomputable def LD(u:U):Prop:=Nf u/\Ma u 15 "Gather" "got" ["self","forms","tables"] (aG cA 3 5)
theorem NK(q:Nf u):LD u:=⟨q,(by ktn_call ["many","within"] cA)⟩
noncomputable def M8(u:U):Prop:=LD u/\Ca u 1 "_law_rising" ["_law_table","_law_many"] (aG dP 2 3)
theorem e20(q:LD u):M8 u:=⟨q,(by ktn_call ["_law_k"] dP)⟩
noncomputable def LY(u:U):Prop:=M8 u/\Ma u 1 "Pair" "put" ["self","forms","tables","view"] (aG h7 4 4)
theorem Ox(q:M8 u):LY u:=⟨q,(by ktn_call [] h7)⟩
noncomputable def Ng(u:U):Prop:=LY u/\Ca u 1 "sorted_by" ["many","rows"] (aG dZ 2 2)
theorem Mj(q:LY u):Ng u:=⟨q,(by ktn_call [] dZ)⟩
noncomputable def MC(u:U):Prop:=Ng u/\Ca u 1 "by_key" ["many","rows"] (aG gf 2 2)
theorem My(q:Ng u):MC u:=⟨q,(by ktn_call [] gf)⟩
noncomputable def MH(u:U):Prop:=MC u/\Ca u 2 "standing" ["many","rows","others"] (aG gW 3 4)
theorem Oy(q:MC u):MH u:=⟨q,(by ktn_call ["taken"] gW)⟩
noncomputable def Mq(u:U):Prop:=MH u/\Ma u 15 "Gather" "put" ["self","forms","tables","view"] (aG dI 4 9)
theorem Oq(q:MH u):Mq u:=⟨q,(by ktn_call ["many","one","gone","rows","row"] dI)⟩
noncomputable def Md(u:U):Prop:=Mq u/\Ca u 1 "_law_sorted" ["_law_many","_law_rows_here"] (aG bh 2 4)
theorem Od(q:Mq u):Md u:=⟨q,(by ktn_call ["_law_found","_law_row_here"] bh)⟩
noncomputable def K6(u:U):Prop:=Md u/\Ca u 1 "_law_next" ["_law_x"] (aG aN 1 1)
theorem Oo(q:Md u):K6 u:=⟨q,(by ktn_call [] aN)⟩
theorem eU(q:K6 u):∀n:Nat,Ca u (1+n) "_law_value" ["_law_kind_here","_law_x"] (aC n)/\Ca u (1+n) "_law_row" ["_law_form_here","_law_many","_law_head","_law_tail"] (aW n)/\Ca u (1+n) "_law_rows" ["_law_form_here","_law_x","_law_many"] (aL n)
 |0=>by
  rw[aC];rw[aW];rw[aL];exact⟨FU (by walk_at "a") (by walk_at "b"),FU (by walk_at "a") (by walk_at "b"),FU (by walk_at "a") (by walk_at "b")⟩
 |n+1=>by
  have ih:=eU q n;have c0:=ih.1;have a0:=jG n;have c1:=ih.2.1;have a1:=lD n;have c2:=ih.2.2;have a2:=jU n;rw[dU];rw[gq];rw[fO];refine⟨?_,?_,?_⟩
  ·apply DV (k:=1+n) [];walk_at "m";unfold eW;walk_at "d"
  ·apply DV (k:=1+n) ["_law_row_here","_law_name_here","_law_kind_here"];walk_at "m";unfold jC;walk_at "d"
  ·apply DV (k:=1+n) ["_law_rows_here","_law_k"];walk_at "m";unfold ie;walk_at "d"
noncomputable def Ni(u:U):Prop:=(((((K6 u/\Ca u 13 "_law_value" ["_law_kind_here","_law_x"] (aC 12))/\Ar 2 (aC 12))/\Ca u 13 "_law_row" ["_law_form_here","_law_many","_law_head","_law_tail"] (aW 12))/\Ar 4 (aW 12))/\Ca u 13 "_law_rows" ["_law_form_here","_law_x","_law_many"] (aL 12))/\Ar 3 (aL 12)
theorem NZ(q:K6 u):Ni u:=⟨⟨⟨⟨⟨⟨q,(eU q 12).1⟩,jG 12⟩,(eU q 12).2.1⟩,lD 12⟩,(eU q 12).2.2⟩,jU 12⟩
noncomputable def MV(u:U):Prop:=Ni u/\Ca u 14 "_law_values" ["_law_fields","_law_x"] (aG bB 2 2)
theorem Oz(q:Ni u):MV u:=⟨q,(by ktn_call [] bB)⟩
noncomputable def LC(u:U):Prop:=MV u/\Ca u 15 "_law_deed" ["_law_one","_law_other","_law_tables","_law_view","_law_x"] (aG gg 5 11)
theorem Oc(q:MV u):LC u:=⟨q,(by ktn_call ["_law_many","_law_key_fields","_law_keys","_law_key","_law_rows_here","_law_inner"] gg)⟩
noncomputable def LV(u:U):Prop:=LC u/\Ca u 1 "_law_cell_at" ["_law_script","_law_k"] (aG b9 2 2)
theorem N0(q:LC u):LV u:=⟨q,(by ktn_call [] b9)⟩
noncomputable def Ms(u:U):Prop:=LV u/\Ca u 2 "_law_seed" ["_law_script","_law_k"] (aG cC 2 3)
theorem N3(q:LV u):Ms u:=⟨q,(by ktn_call ["_law_x"] cC)⟩
noncomputable def LR(u:U):Prop:=Ms u/\Ca u 1 "_law_name" ["_law_base","_law_k"] (aG bN 2 7)
theorem NF(q:Ms u):LR u:=⟨q,(by ktn_call ["_law_letters","_law_size","_law_name_here","_law_j","_law_step"] bN)⟩
noncomputable def MQ(u:U):Prop:=LR u/\Ca u 3 "_law_gathered_name" ["_law_one","_law_other","_law_script"] (aG bR 3 7)
theorem Oh(q:LR u):MQ u:=⟨q,(by ktn_call ["_law_x","_law_base","_law_taken","_law_some"] bR)⟩
noncomputable def M4(u:U):Prop:=MQ u/\Ca u 15 "_law_gathered_tables" ["_law_one","_law_other","_law_script","_law_start","_law_most"] (aG bT 5 13)
theorem OH(q:MQ u):M4 u:=⟨q,(by ktn_call ["_law_both_key","_law_many","_law_rows_here","_law_k","_law_x","_law_way","_law_y","_law_key"] bT)⟩
noncomputable def Li(u:U):Prop:=M4 u/\Ca u 1 "_law_plain" ["_law_x"] (aG dF 1 8)
theorem Of(q:M4 u):Li u:=⟨q,(by ktn_call ["_law_low","_law_letters","_law_one","_law_other","_law_some","_law_kept","_law_k"] dF)⟩
theorem iF(q:Li u):∀n:Nat,Ca u (1+n) "_law_kind" ["_law_x","_law_base","_law_deep"] (bf n)/\Ca u (1+n) "_law_form" ["_law_x","_law_base","_law_start","_law_many","_law_more","_law_deep"] (aP n)
 |0=>by
  rw[bf];rw[aP];exact⟨FU (by walk_at "a") (by walk_at "b"),FU (by walk_at "a") (by walk_at "b")⟩
 |n+1=>by
  have ih:=iF q n;have c0:=ih.1;have a0:=jY n;have c1:=ih.2;have a1:=j5 n;rw[d9];rw[fH];refine⟨?_,?_⟩
  ·apply DV (k:=1+n) ["_law_inner"];walk_at "m";unfold ga;walk_at "d"
  ·apply DV (k:=1+n) ["_law_key","_law_rest","_law_k"];walk_at "m";unfold ig;walk_at "d"
noncomputable def MM(u:U):Prop:=(((Li u/\Ca u 13 "_law_kind" ["_law_x","_law_base","_law_deep"] (bf 12))/\Ar 3 (bf 12))/\Ca u 13 "_law_form" ["_law_x","_law_base","_law_start","_law_many","_law_more","_law_deep"] (aP 12))/\Ar 6 (aP 12)
theorem NB(q:Li u):MM u:=⟨⟨⟨⟨q,(iF q 12).1⟩,jY 12⟩,(iF q 12).2⟩,j5 12⟩
noncomputable def MF(u:U):Prop:=MM u/\Ca u 1 "_law_some_words" ["_law_x"] (aG cO 1 6)
theorem NR(q:MM u):MF u:=⟨q,(by ktn_call ["_law_letters","_law_one","_law_other","_law_kept","_law_word"] cO)⟩
noncomputable def Nc(u:U):Prop:=MF u/\Ca u 2 "_law_two_kinds" ["_law_x"] (aG de 1 9)
theorem N7(q:MF u):Nc u:=⟨q,(by ktn_call ["_law_y","_law_low","_law_wide","_law_far","_law_one","_law_other","_law_some","_law_spare"] de)⟩
noncomputable def Mh(u:U):Prop:=Nc u/\Ca u 3 "_law_two_keys" ["_law_x","_law_base","_law_many"] (aG dM 3 7)
theorem N8(q:Nc u):Mh u:=⟨q,(by ktn_call ["_law_one","_law_other","_law_k","_law_kinds"] dM)⟩
noncomputable def MG(u:U):Prop:=Mh u/\Ca u 14 "_law_gathered_forms" ["_law_script"] (aG bY 1 10)
theorem NA(q:Mh u):MG u:=⟨q,(by ktn_call ["_law_x","_law_base","_law_many","_law_keys","_law_deep","_law_more","_law_first","_law_wide","_law_inner"] bY)⟩
noncomputable def MY(u:U):Prop:=MG u/\Ta u 15 "got" ["self","forms","tables"] [("Pair",(aG fQ 3 3)),("Gather",(aG cA 3 5))]
theorem N5(q:MG u):MY u:=⟨q,(by walk_at "t")⟩
noncomputable def Nv(u:U):Prop:=MY u/\Ta u 15 "put" ["self","forms","tables","view"] [("Pair",(aG h7 4 4)),("Gather",(aG dI 4 9))]
theorem NS(q:MY u):Nv u:=⟨q,(by walk_at "t")⟩
theorem JI{f:Td}{fd:T6}(F:uF u.K "law" "law" (top 55) f fd)(q:Nv u):gS u.P u.w u.K u.mg u.base (j4 u.P u.w) 16 f fd ["_law_script"] (y8 u.K 1 (aG oz 1 10)):=by
 refine NN ["_law_one","_law_other","_law_many","_law_tables","_law_pair","_law_k","_law_old","_law_view","_law_put"] F ?_ ?_
 ·exact⟨rfl,rfl,rfl,by decide +kernel,rfl,by decide +kernel,by decide +kernel⟩
 refine λnd=>⟨λcdv A outer s H E hr hp=>?_⟩
 unfold oz;walk_at "d"
set_option hygiene true
variable{P:Ti}{w:Th}{K:RY}{mg:cj}{base:Tl}
theorem v7{C f:Td}{fd:T6}(h1:clsAt K "Gather" C)(hM:Mk K C f)(cl:zh K C)(na:∀g∈(["name"]:ay),nz K C g)(F:uF K "__init__" "Gather.__init__" iq f fd)(b:Binds K fd ["self","name"] [])(hmg:mg "Gather"=some (.ref C)):ub P w K mg base 1 "Gather" ["self","name"] ["name"]:=
 zi (k:=0) h1 hM cl na F b hmg lI rfl (by decide +kernel) (by decide) λcdv A outer s H E=>(zV rfl (pv 0) (pv 1) rfl)
end
theorem all_mk{l:Ss}{w:Th}{K:RY}{h:Tl}{mg:cj}{fa:Td}(X:K.In h)(G:h.Ns Tp mg)(hfa:mg "law"=some (.ref fa)){f1 f2:Td}
  (ac0:Sj K Tp "Pair"=some (some (.ref Cl0)))
  (ac1:Sj K Tp "Gather"=some (some (.ref Cl1)))
  (a0:R4 K (.ref Cl0) "got"=some (some (.ref f0)))
  (i0:R5 K (.ref f0)=true)
  (l0:Lk K f0 "got" "Pair.got" (inClass (top 23) 2) oc0 od0 kV0 dc0 pm0 an0 cd0 ct0 sl0)
  (c0:Si K cd0 "Pair.got"=true)
  (k0:Sd K (.ref f0)=true)
  (a1:R4 K (.ref Cl1) "got"=some (some (.ref f1)))
  (i1:R5 K (.ref f1)=true)
  (l1:Lk K f1 "got" "Gather.got" (inClass (top 26) 3) oc1 od1 kV1 dc1 pm1 an1 cd1 ct1 sl1)
  (c1:Si K cd1 "Gather.got"=true)
  (k1:Sd K (.ref f1)=true)
  (a2:R4 K (.ref Cl0) "put"=some (some (.ref f2)))
  (i2:R5 K (.ref f2)=true)
  (l2:Lk K f2 "put" "Pair.put" (inClass (top 23) 3) oc2 od2 kV2 dc2 pm2 an2 cd2 ct2 sl2)
  (c2:Si K cd2 "Pair.put"=true)
  (k2:Sd K (.ref f2)=true)
  (a3:Sj K Tp "sorted_by"=some (some (.ref f3)))
  (l3:Lk K f3 "sorted_by" "sorted_by" (top 17) oc3 od3 kV3 dc3 pm3 an3 cd3 ct3 sl3)
  (c3:Si K cd3 "sorted_by"=true)
  (k3:Sd K (.ref f3)=true)
  (a4:R4 K (.ref Cl1) "put"=some (some (.ref f4)))
  (i4:R5 K (.ref f4)=true)
  (l4:Lk K f4 "put" "Gather.put" (inClass (top 26) 4) oc4 od4 kV4 dc4 pm4 an4 cd4 ct4 sl4)
  (c4:Si K cd4 "Gather.put"=true)
  (k4:Sd K (.ref f4)=true)
  (a5:Sj K Tp "law"=some (some (.ref f5)))
  (l5:Lk K f5 "law" "law" (top 55) oc5 od5 kV5 dc5 pm5 an5 cd5 ct5 sl5)
  (c5:Si K cd5 "law"=true)
  (k5:Sd K (.ref f5)=true)
  (a6:R4 K (.ref Cl1) "__init__"=some (some (.ref f6)))
  (i6:R5 K (.ref f6)=true)
  (l6:Lk K f6 "__init__" "Gather.__init__" (inClass (top 26) 0) oc6 od6 kV6 dc6 pm6 an6 cd6 ct6 sl6)
  (c6:Si K cd6 "Gather.__init__"=true)
  (k6:Sd K (.ref f6)=true)
  (p0:R3 K Cl0 Str.empty=true)
  (q0:R9 K Cl0=true)
  (r0:R7 K Cl0=true)
  (s0:R4 K (.ref Cl0) "__setattr__"=some (some (.builtin "object.__setattr__")))
  (p1:R3 K Cl1 Str.empty=true)
  (q1:R9 K Cl1=true)
  (r1:R7 K Cl1=true)
  (s1:R4 K (.ref Cl1) "__setattr__"=some (some (.builtin "object.__setattr__")))
  (n1_0:R4 K (.ref Cl1) "name"=some none)
  (m1:Sa K Cl1=true)
  (kp1:Sd K (.ref Cl1)=true)
  (dd0:KDs K [("_law_other_stays",top 53),("_law_fit",top 50),("_law_in_both",top 43),("_law_key_of_both",top 45),("_law_first_stays",top 52),("_law_alike",top 40),("is_whole",top 6),("has_parts",top 7),("keys_rise",top 16),("kinds_of",top 8),("fits",top 13),("keeps",top 14),("is_row",top 15),("both_words",top 11),("both_numbers",top 10),("both",top 9),("shared_key",top 24),("seen_rows",top 27),("grouped",top 20),("_law_rising",top 54),("by_key",top 19),("standing",top 21),("_law_sorted",top 38),("_law_next",top 30),("_law_value",top 36),("_law_row",top 37),("_law_rows",top 39),("_law_values",top 46),("_law_deed",top 51),("_law_cell_at",top 29)])
  (dd1:KDs K [("_law_seed",top 31),("_law_name",top 32),("_law_gathered_name",top 48),("_law_gathered_tables",top 49),("_law_plain",top 33),("_law_kind",top 34),("_law_form",top 35),("_law_some_words",top 41),("_law_two_kinds",top 42),("_law_two_keys",top 44),("_law_gathered_forms",top 47)])
  (zz:KZs K ["len","zip","min","max","tuple","isinstance","str","bool","int","all","range","dict","sorted","list","enumerate"])
  (lc:cd3=.ref cL)
  (lh:Sw K cL T=true)
  (lt:K.lookup T=none):
  (∃c,Sw K c T=true)/\K.lookup T=none/\∃fd:T6,(∀(s:Tg)(v:S9),T7 s fd ⟨[v],[]⟩ [("_law_script",v)])/\∀base:Tl,K.In base->base.Ns Tp mg->wj mg base->gS l.prog w K mg base (j4 l.prog w) 16 fa fd ["_law_script"] (@y8 (uw T ⟨53,34,53,56⟩ ((("sorted_by":Str)++".<locals>.")++"<lambda>")) K 1 (aG oz 1 10)):=by
 letI:aA:=uw T ⟨53,34,53,56⟩ ((("sorted_by":Str)++".<locals>.")++"<lambda>")
 have e:=hfa.symm.trans (Sv X G a5);cases e;have F0:=j9 (st:=(inClass (top 23) 2)) l0 c0 k0;have F1:=j9 (st:=(inClass (top 26) 3)) l1 c1 k1;have F2:=j9 (st:=(inClass (top 23) 3)) l2 c2 k2;have F3:=j9 (st:=(top 17)) l3 c3 k3;have F4:=j9 (st:=(inClass (top 26) 4)) l4 c4 k4;have F5:=j9 (st:=(top 55)) l5 c5 k5;have F6:=j9 (st:=(inClass (top 26) 0)) l6 c6 k6;have b6:=F6.binds (ps:=["self","name"]) λ_ _ _ _ _ _ us hl=>by obtain⟨u0,u1,rfl⟩:=IH hl;rfl
 have cl0:zh K Cl0:=⟨p0,q0,r0,s0⟩
 have cl1:zh K Cl1:=⟨p1,q1,r1,s1⟩
 have lC:rj K f3 (.ref cL):=⟨_,_,_,_,l3,lc⟩
 refine⟨⟨cL,lh⟩,lt,Sg "law" "law" (jw (top 55)) (dG (top 55)) (aw (top 55)) .none kV5 dc5 pm5 an5 cd5 ct5,λs v=>.of_eq rfl,λbase kb _ bm=>?_⟩;have DL:=v7 (P:=l.prog) (w:=w) (base:=base) ac1 ⟨m1,a6,i6,kp1⟩ cl1 (by intro g hg;simp only[Qv,Rz,or_false]at hg;rcases hg with rfl;exact n1_0) F6 b6 (Sv X G ac1)
 let u:U:=⟨l.prog,w,K,mg,base,cL,T⟩
 have q0:Q0 u:=⟨⟨⟨⟨⟨⟨⟨⟨(Lc.of X G (Lc.of X G (Zs.of X G zz) dd0) dd1),DL⟩,⟨_,_,_,ac0,cl0,⟨a0,i0,k0⟩,F0⟩⟩,⟨_,_,_,ac1,cl1,⟨a1,i1,k1⟩,F1⟩⟩,⟨_,_,_,ac0,cl0,⟨a2,i2,k2⟩,F2⟩⟩,⟨_,_,F3,Sv X G a3,lC⟩⟩,(Gg kb lh bm)⟩,(λ_ z=>z)⟩,⟨_,_,_,ac1,cl1,⟨a4,i4,k4⟩,F4⟩⟩
 exact JI (u:=u) F5 (NS (N5 (NA (N8 (N7 (NR (NB (Of (OH (Oh (NF (N3 (N0 (Oc (Oz (NZ (Oo (Od (Oq (Oy (My (Mj (Ox (e20 (NK (NQ (N1 (NC (OC (OA (OB (NM (Mz (e10 (e9 (e8 (e7 (e6 (e5 (e4 (e3 (e2 (e1 q0)))))))))))))))))))))))))))))))))))))))))))
theorem walk{l:Ss}{q:Ti}{loose:ay}{XP:(cj)->Tl->Prop}{YP:Th->Tl->Prop}{d:DefRec}{K:Params->RY}{T:Td}(hn:l.most=some 63)(hdf:d.params.defaults=[])
  (hY:∀(w:Th)(h:Tl),YP w h->(K w.params).In h/\h.get? T=some (Sr #[]))
  (F:∀ (w:Th) (mg:cj) (fa:Td) (h:Tl),(K w.params).In h->h.Ns Tp mg->mg d.name=some (.ref fa) ->
   (∃c,Sw (K w.params) c T=true)/\(K w.params).lookup T=none/\∃fd:T6,(∀(s:Tg)(u:S9),T7 s fd ⟨[u],[]⟩ [("_law_script",u)])/\∀base:Tl,(K w.params).In base->base.Ns Tp mg->wj mg base->gS l.prog w (K w.params) mg base (j4 l.prog w) 16 fa fd ["_law_script"] (@y8 (uw T ⟨53,34,53,56⟩ ((("sorted_by":Str)++".<locals>.")++"<lambda>")) (K w.params) 1 (aG oz 1 10)))
  (math:∀ns:List Int,ns.length<=63->aG oz 1 10 [.lst (ns.map .int)]=.ok (.bl true)):PySem.W.WalkO q loose XP YP l.row.toRowW d [] (λf vs=>PySem.call f vs):=
 By (n:=63) (k:=16) (x:="_law_script") (T:=T) (CX:=λw=>j4 l.prog w) (sp:=λw=>@y8 (uw T ⟨53,34,53,56⟩ ((("sorted_by":Str)++".<locals>.")++"<lambda>")) (K w.params) 1 (aG oz 1 10)) hn (by decide) hdf ⟨rfl,by decide,by decide⟩ hY F
  (λw H a ns hl hT hS=>⟨[],[.lst (ns.map .int)],rfl,⟨hT,λa h=>nomatch h⟩,by rw[Eh];exact bb.mpr ⟨.ref a,[],rfl,bX.mpr ⟨a,_,rfl,hS,tq ns⟩,cw.mpr rfl⟩,by rw[math ns hl];exact λv H' sm d=>⟨js.mp d,sm⟩⟩) λ_ _ _ _ _ z=>by obtain⟨_,_,_,_,_,_,_,_,_,_,_,_,_,z⟩:=z;exact z
end Tk58
namespace Tk58
open PySem PySem.Spec L2 TG TD T4
local macro_rules|`(‹$x›)=>do if x.raw.isOfKind `num then Lean.Macro.throwUnsupported else `(some (S.val $x))
local macro_rules
 |`(tactic| simp! only[$xs,*])=>`(tactic| simp only[cV,rH,pN,rT,ik,eB,ge_0,zQ,nh,Al,n9,kI,om,ny,zq,zj,za,zO,zN,nu,n6,rp,jh,ki,nN,ky,rG,nM,nF,kC,nU,iW,n8,jf,iM,gK,gH,nH,kY,gL,kF,i5,kU,ku,gF,kc,iT,lR,kZ,iY,il,lg,kD,Ae,rR,AC,z6,AG,nO,kQ,nI,kK,ko,Am,Aa,Ro,Rp,O9,PF,P0,Qi,K0,env0,List.replicate,QI,Pj,QC,Nat.reduceAdd,Nat.reduceSub,O8,PN,mZ,nY,tG,nD,nT,nZ,gI,mY,rE,sg,sr,nS,ja,jb,iX,i3,iU,iS,mE,rL,sK,sP,rW,rk,iL,iK,fX,fM,og,gO,fD,fN,fJ,gY,hU,fP,fF,iI,jd,kM,kG,iZ,kz,nV,nA,k9,kE,gN,if_true,if_false,Rq,Rr,PY,$xs,*])
theorem gm(j:Int)(h:0<j:=by decide):∀i:Int,bG (.int i) (.int j)=some (.int (i%j)):=λi=>dQ (i:=i) h
theorem gd(j:Int)(h:0<j:=by decide)(h':j<10^200:=by decide):∀i:Int,b8 (.int i) (.int j)=some (.int (i/j)):=λi=>jW (i:=i) h h'
inductive Kd where
 |num (lo hi:Int)|wrd (ws:ay)
noncomputable def Kd.d:Kd->D
 |.num lo hi=>.tup [.str "number",.int lo,.int hi]
 |.wrd ws=>.tup [.str "word",.tup (ws.map .str)]
noncomputable def Kd.gd:Kd->Prop
 |.num lo hi=>lo<=hi
 |.wrd ws=>ws≠[]/\ws.length<=100
noncomputable def Kd.b:Kd->Bool
 |.num _ _=>true
 |.wrd _=>false
noncomputable abbrev KL:=List (Str×Kd)
noncomputable def kf(p:Str×Kd):D:=.tup [.str p.1,p.2.d]
noncomputable abbrev fr(k:KL)(r:fu):D:=.tup [.tup (k.map kf),.tup (r.map fld)]
noncomputable def toD(p:Str×Kd):Str×D:=(p.1,p.2.d)
theorem qx(k:KL):k.map kf=(k.map toD).map fld:=by rw[QW];rfl
theorem lN:(("number":Str)==("number":Str))=true:=by decide +kernel
theorem lY:(("word":Str)==("word":Str))=true:=by decide +kernel
theorem nQ:(("word":Str)==("number":Str))=false:=by decide +kernel
theorem Hl:(("rows":Str)==("number":Str))=false:=by decide +kernel
theorem Fq:(("rows":Str)==("word":Str))=false:=by decide +kernel
noncomputable def KG:Nat->D->Prop
 |0,d=>∃c:Kd,c.gd/\d=c.d
 |n+1,d=>(∃c:Kd,c.gd/\d=c.d)\/∃(ks:KL)(qs:fu)(b:Bool),d=.tup [.str "rows",fr ks qs,.bl b]/\1<=ks.length/\ks.length<=8/\(∀p∈ks,p.2.gd)/\qs.length<=8/\∀q∈qs,KG n q.2
theorem Ge(ws:ay)(w:Str):n5 ws w≠[]:=by
 unfold n5;split
 ·rename_i h;intro z;rw[z]at h;simp at h
 ·simp
theorem GO(ws:ay)(h:ws.Nodup)(hl:ws.length<64):∃us:ay,eA [.lst (ws.map .str)]=some (.lst (us.map .str))/\us.Perm ws:=by
 have pz:∀zs:List D,zs.Perm (ws.map D.str)->∃us:ay,zs=us.map .str/\us.Perm ws:=λzs p=>by
  have e:zs=(zs.map λz=>match z with|.str w=>w|_=>"").map .str:=by
   rw[QW]
   conv=>lhs;rw[<-List.map_id zs]
   refine Qj λz hz=>?_;obtain⟨w,_,rfl⟩:=List.mem_map.mp (p.mem_iff.mp hz);rfl
  refine⟨_,e,?_⟩;have q:=p.map λz:D=>match z with|.str w=>w|_=>("":Str)
  rw[QW]at q;have e2:ws.map ((λz:D=>match z with|.str w=>w|_=>("":Str))∘D.str)=ws:=by
   conv=>rhs;rw[<-List.map_id ws]
   exact Qj λ_ _=>rfl
  rw[e2]at q;exact q
 have fin:∀key:D->List D,∃us:ay,some (D.lst (gP key (ws.map .str)))=some (.lst (us.map .str))/\us.Perm ws:=λkey=>by
  obtain⟨us,e,q⟩:=pz _ (eP key (ws.map .str));exact⟨us,by rw[e],q⟩
 show∃us,oE (ws.map .str)=_/\_;unfold oE;by_cases a:IY (ws.map .str)
 ·rw[if_pos a];exact fin _
 ·have b:JC (ws.map .str):=by
   refine⟨by rw[Pa];exact hl,false,λx hx=>?_,?_⟩
   ·obtain⟨w,_,rfl⟩:=List.mem_map.mp hx;exact .str w .nil
   ·rw[QU];refine h.imp λhne e=>hne ?_;have e:[D.str _]=[D.str _]:=e;injection e with e _;injection e
  rw[if_neg a,if_pos b];exact fin _
theorem pK(x:Int)(h0:0<=x)(h1:x<2147483700):∃c:Kd,aG dF 1 8 [.int x]=.ok c.d/\c.gd:=by
 have g3:=gm 3;have g4:=gm 4;have g26:=gm 26;have d3:=gd 3;have d12:=gd 12;have d78:=gd 78;have d2028:=gd 2028;have p7:iy (.int x) (.int 7)=some (.int (x^7)):=ua x 7 (by decide) ‹0›;have pb:=GI;have gp:=λi=>dQ (i:=i) (show(0:Int)<zx by omega);rw[lH];unfold dF;by_cases h:x%3<2
 ·have h':decide (x%3<2)=true:=decide_eq_true h;obtain⟨v,hv,e1⟩:=Oj (.int 0) (.int (-3)) (.int (0-x^7%zx)) (.int (x^7%zx)) (x/3%4) ‹0› ‹0›;obtain⟨lo,rfl⟩:∃lo:Int,v=.int lo:=by
   simp only[Qv,Rz,or_false]at hv;rcases hv with rfl|rfl|rfl|rfl<;>exact⟨_,rfl⟩
  obtain⟨w,w0,e2⟩:∃w:Int,0<=w/\ah (.lst [.int 0,.int 1,.int 6,.int zx]) (.int (x/12%4))=some (.int w):=by
   rcases(show x/12%4=0\/x/12%4=1\/x/12%4=2\/x/12%4=3 by omega)with z|z|z|z<;>rw[z]
   ·exact⟨0,by decide,rfl⟩
   ·exact⟨1,by decide,rfl⟩
   ·exact⟨6,by decide,rfl⟩
   ·exact⟨zx,by omega,rfl⟩
  refine⟨.num lo (lo+w),?_,by show lo<=lo+w;omega⟩;unfold Kd.d;simp! only[g3,h',p7,xc,gp,J2,d3,g4,e1,d12,e2,Iq]
 ·have h':decide (x%3<2)=false:=decide_eq_false h;have LL:(("abcdefghijklmnopqrstuvwxyz":Str)).length=26:=by decide +kernel
  have L0:(("":Str)).length<=1000:=by decide +kernel
  generalize hL:("abcdefghijklmnopqrstuvwxyz":Str)=L at LL;obtain⟨one,ho,e1⟩:=o3 L ‹0› (x/3%26) ‹0› ‹0›;obtain⟨oth,hq,e2⟩:=o3 L ‹0› (x/78%26) ‹0› ‹0›;have a1:=gb one oth ‹0› ‹0›;have a2:=gb oth one ‹0› ‹0›;have a3:=gb one one ‹0› ‹0›;have m1:=CZ (x:=one) (n:=8) (by decide) (by decide) ‹0›;have m2:=CZ (x:=oth) (n:=3) (by decide) (by decide) ‹0›;have r8:jm [.int 8]=some (dD 0 8):=i9 8 (by decide);generalize hW:[D.str "",.str one,.str oth,.str (one++oth),.str (oth++one),.str (iR one 8),.str (one++one),.str (iR oth 3)]=W;have W8:W.length=8:=by rw[<-hW];rfl
  have Ws:∀d∈W,∃w:Str,d=.str w:=by
   rw[<-hW];intro d hd;simp only[Qv,Rz,or_false]at hd;rcases hd with rfl|rfl|rfl|rfl|rfl|rfl|rfl|rfl<;>exact⟨_,rfl⟩
  obtain⟨T,hT⟩:∃T:bI,T=(ai (eS (eI (aa (fC (.int 8)) af)) (gN 7) (ai (eQ (fB (f2 gx (f2 oP (f2 uV (f2 b8 (ae 0) (fC (.int 2028))) (ae 7)) (fC (.int 1))) (fC (.int 1)))) (lA 6 (f2 ah (ae 5) (ae 7)) (fC (.bl true))) aV) (bQ [7] aV))) (ai (eQ (j6 [6] (fB (f2 gx (fL p6 (aa (ae 6) af)) (fC (.int 0))))) (lA 6 (ae 3) (fC (.bl true))) aV) (eT 6 (aJ (bE (aa (fC (.str "word")) (aa (fL bJ (aa (fL eA (aa (fL jy (aa (ae 6) af)) af)) af)) af))))))):=⟨_,rfl⟩
  have fin:∀ws:ay,ws.Nodup->ws.length<=10->ws≠[]->∃c:Kd,eT 6 (aJ (bE (aa (fC (.str "word")) (aa (fL bJ (aa (fL eA (aa (fL jy (aa (ae 6) af)) af)) af)) af)))) K0 [‹.int x›,none,none,‹.str one›,none,‹.lst W›,some (.own (wd ws)),none]=.ok c.d/\c.gd:=λws nd hl wn=>by
   obtain⟨us,ez,pz⟩:=GO ws nd ‹0›;refine⟨.wrd us,?_,⟨λz=>wn (by rw[z]at pz;exact pz.symm.eq_nil),by rw[pz.length_eq];omega⟩⟩;unfold Kd.d;simp! only[uX,ez,p3]
  have key:∃c:Kd,T K0 [‹.int x›,none,none,‹.str one›,none,‹.lst W›,some (.own (.dct [] [])),none]=.ok c.d/\c.gd:=by
   rw[hT,gF,il];simp! only[r8];refine cy (Q:=λz=>∃c:Kd,z=.ok c.d/\c.gd) (λi ρ=>∃ws:ay,ws.Nodup/\ws.length<=i/\ρ=[‹.int x›,none,none,‹.str one›,none,‹.lst W›,some (.own (wd ws)),none]) ?_ ⟨[],PR,O1 _,rfl⟩ ?_
   ·rintro i d ρ kk hd ⟨ws,nd,hl,rfl⟩;have hi:=bu hd;rw[bU]at hi;have hdi:d=.int (i:Int):=by
     rw[fK,Pr,Qo hi]at hd;cases hd;simp
    subst hdi;obtain⟨w,ew⟩:=Ws (W[i]'‹0›) (QT _);have ix:ah (.lst W) (.int (i:Int))=some (.str w):=by
     rw[EA,qj ‹0›,ew]
    have sh:=BJ (x/2028) i;cases hb:(Builtin.bitAnd (x/2028/2^i) 1==1)with
    |false=>
     refine⟨_,_,rfl,⟨ws,nd,by omega,rfl⟩,?_⟩;simp! only[d2028,sh,tT,hb]
    |true=>
     refine⟨_,_,rfl,⟨n5 ws w,t7 w nd,by have:=qi ws w;omega,rfl⟩,?_⟩;have pk:=λk:Ks=>ut (i:=6) (fk:=f2 ah (ae 5) (ae 7)) (fv:=fC (.bl true)) (k:=k) (ρ:=[‹.int x›,none,none,‹.str one›,none,‹.lst W›,some (.own (wd ws)),‹.int (i:Int)›]) (al:=yS ws) (q:=.inr w) (d:=.str w) (v:=.bl true) rfl (by simp! only[ix]) rfl rfl (by simp;omega);simp! only[d2028,sh,tT,hb,pk,xG]
   ·rintro ρ' ⟨ws,nd,hl,rfl⟩;rw[bU]at hl;have pt:j6 [6] (fB (f2 gx (fL p6 (aa (ae 6) af)) (fC (.int 0)))) [‹.int x›,none,none,‹.str one›,none,‹.lst W›,some (.own (wd ws)),none]=.ok (((ws.length:Int))==0):=by
     simp! only[p4,Jd,Fu]
    dsimp only;rw[gF,lR,pt,pN];cases hb:((ws.length:Int)==0)with
    |false=>exact fin ws nd ‹0› λz=>by rw[z]at hb;cases hb
    |true=>
     have pk:=λk:Ks=>ut (i:=6) (fk:=ae 3) (fv:=fC (.bl true)) (k:=k) (ρ:=[‹.int x›,none,none,‹.str one›,none,‹.lst W›,some (.own (wd ws)),none]) (al:=yS ws) (q:=.inr one) (d:=.str one) (v:=.bl true) rfl rfl rfl rfl (by simp;omega);rw[if_pos rfl,pk,xG];exact fin (n5 ws one) (t7 one nd) (by have:=qi ws one;omega) (Ge ws one)
  obtain⟨d,ed,fd⟩:=key;have mW:jK W=some (.lst W):=B1 ‹0›;refine⟨d,?_,fd⟩;rw[<-hT];simp only[K0]at ed;simp! only[hL,g3,h',d3,g26,e1,d78,e2,a1,a2,a3,m1,m2,hW,mW,pA,ed]
theorem yk{b st:Int}{L:ay}{nm:Str}(h:∀(j:Nat)(w:Str),L[j]?=some w->uQ b (st+(j:Int)) w)(hn:uQ b (st+(L.length:Int)) nm):∀(j:Nat)(w:Str),(L++[nm])[j]?=some w->uQ b (st+(j:Int)) w:=λj w e=>by
 rw[List.getElem?_append]at e;split at e
 ·exact h j w e
 ·rename_i hj
  have:j-L.length=0:=by
   have:=bu e
   simp at this;omega
  rw[this]at e;cases e;rw[show j=L.length by omega];exact hn
theorem yf(dp g:Nat)(hk:∀x b:Int,0<=x->x<2147483700->0<=b->∃d,bf g [.int x,.int b,.int dp]=.ok d/\KG dp d)(x b st:Int)(m r:Nat)(h0:0<=x)(h1:x<2147483700)(hb:0<=b)(hs:0<=st)(hm:m<=8)(hr:r<=8):
  ∃(ks:KL)(qs:fu),aP (g+1) [.int x,.int b,.int st,.int m,.int r,.int dp]=.ok (fr ks qs)/\ks.length=m/\qs.length=r/\(∀p∈ks,p.2.gd)/\(∀q∈qs,KG dp q.2)/\∀(j:Nat)(w:Str),(ks.map (·.1)++qs.map (·.1))[j]?=some w->uQ b (st+(j:Int)) w:=by
 rw[fH,HC];unfold ig;have rn:jm [.int ((m:Int)+(r:Int))]=some (dD 0 (m+r)):=by
  rw[show((m:Int)+(r:Int))=((m+r:Nat):Int)by omega];exact i9 (m+r) ‹0›
 obtain⟨T,hT⟩:∃T:bI,T=eT 7 (eT 6 (aJ (bE (aa (fL bJ (aa (ae 6) af)) (aa (fL bJ (aa (ae 7) af)) af))))):=⟨_,rfl⟩
 rw[<-hT];simp! only[Jn,rn];refine cy (Q:=λz=>∃(ks:KL)(qs:fu),z=.ok (fr ks qs)/\ks.length=m/\qs.length=r/\(∀p∈ks,p.2.gd)/\(∀q∈qs,KG dp q.2)/\∀(j:Nat)(w:Str),(ks.map (·.1)++qs.map (·.1))[j]?=some w->uQ b (st+(j:Int)) w)
  (fun i ρ=>∃ (y:Int) (ks:KL) (qs:fu),0<=y/\y < 2147483700/\ks.length=min i m/\qs.length=i - m/\(∀ p∈ks,p.2.gd)/\(∀ q∈qs,KG dp q.2)/\(∀ (j:Nat) (w:Str),(ks.map (·.1)++qs.map (·.1))[j]?=some w->uQ b (st+(j:Int)) w) /\
   ρ=[‹.int y›,‹.int b›,‹.int st›,‹.int m›,‹.int r›,‹.int dp›,some (.own (.lst (ks.map kf))),some (.own (.lst (qs.map fld))),none]) ?_ ⟨x,[],[],h0,h1,by simp,by simp,(λ_ h=>nomatch h),(λ_ h=>nomatch h),(λj w h=>by simp at h),rfl⟩ ?_
 ·rintro i d ρ kk hd ⟨y,ps,qs,y0,y1,lp,lq,fp,fq,fn,rfl⟩;have hi:=bu hd;rw[bU]at hi;have hdi:d=.int (i:Int):=by
   rw[fK,Pr,Qo hi]at hd;cases hd;simp
  subst hdi;obtain⟨y',y0',y1',ey⟩:=eK y y0 y1;obtain⟨nm,en,nP⟩:=pE b (st+(i:Int)) hb ‹0›;by_cases h:i<m
  ·have h':decide ((i:Int)<(m:Int))=true:=decide_eq_true ‹0›;obtain⟨c,ek,ck⟩:=pK y' y0' ‹0›;refine⟨_,_,rfl,⟨y',ps++[(nm,c)],qs,y0',by omega,by rw[Pw,PC];omega,by omega,λp hp=>?_,fq,?_,rfl⟩,?_⟩
   ·rcases List.mem_append.mp hp with z|z
    ·exact fp p z
    ·rw[Rc]at z;subst z;exact ck
   ·have q0:qs=[]:=List.length_eq_zero_iff.mp ‹0›;subst q0;rw[PF,Pj]at fn ⊢;rw[Qk];exact yk fn (by rw[Pa,lp,Rg ‹0›];exact nP)
   ·have ap:eG (ps.map kf) [.tup [.str nm,c.d]]=some ((ps++[(nm,c)]).map kf):=by
     rw[jn (by rw[Pa];omega),Qk];rfl
    have sm:=λK:Ks=>jq 6 eG (aa (bE (aa (fR (aG bN 2 7) (aa (ae 1) (aa (f2 aX (ae 2) (ae 8)) af))) (aa (fR (aG dF 1 8) (aa (ae 0) af)) af))) af) K [‹.int y'›,‹.int b›,‹.int st›,‹.int m›,‹.int r›,‹.int dp›,some (.own (.lst (ps.map kf))),some (.own (.lst (qs.map fld))),‹.int i›] (xs:=ps.map kf) rfl;generalize (ps++[(nm,c)]).map kf=Y at ap ⊢;simp! only[ey,h',sm,en,ek,p3,ap]
  ·have h':decide ((i:Int)<(m:Int))=false:=decide_eq_false ‹0›;obtain⟨k,ek,fk⟩:=hk y' b y0' ‹0› hb;refine⟨_,_,rfl,⟨y',ps,qs++[(nm,k)],y0',by omega,by omega,by rw[Pw,PC];omega,fp,λp hp=>?_,?_,rfl⟩,?_⟩
   ·rcases List.mem_append.mp hp with z|z
    ·exact fq p z
    ·rw[Rc]at z;subst z;exact fk
   ·rw[Qk,<-Qr];exact yk fn (by rw[Pw,Pa,Pa,lp,lq,show min i m+(i-m)=i by omega];exact nP)
   ·have ap:eG (qs.map fld) [.tup [.str nm,k]]=some ((qs++[(nm,k)]).map fld):=by
     rw[jn (by rw[Pa];omega),Qk];rfl
    have sm:=λK:Ks=>jq 7 eG (aa (bE (aa (fR (aG bN 2 7) (aa (ae 1) (aa (f2 aX (ae 2) (ae 8)) af))) (aa (fR (bf g) (aa (ae 0) (aa (ae 1) (aa (ae 5) af)))) af))) af) K [‹.int y'›,‹.int b›,‹.int st›,‹.int m›,‹.int r›,‹.int dp›,some (.own (.lst (ps.map kf))),some (.own (.lst (qs.map fld))),‹.int i›] (xs:=qs.map fld) rfl;generalize (qs++[(nm,k)]).map fld=Y at ap ⊢;simp! only[ey,h',sm,en,ek,p3,ap]
 ·rintro ρ' ⟨y,ps,qs,y0,y1,lp,lq,fp,fq,fn,rfl⟩;rw[bU]at lp lq;refine⟨ps,qs,?_,by omega,by omega,fp,fq,fn⟩;rw[hT];simp! only[p3]
theorem DY:∀(dp g:Nat),2*dp+1<=g->∀x b:Int,0<=x->x<2147483700->0<=b->∃d,bf g [.int x,.int b,.int dp]=.ok d/\KG dp d:=by
 intro dp
 induction dp with
 |zero=>
  intro g hg x b h0 h1 hb;obtain⟨g,rfl⟩:∃g',g=g'+1:=⟨g-1,by omega⟩
  have d3:=gd 3;obtain⟨c,e,f⟩:=pK (x/3) ‹0› ‹0›;refine⟨c.d,?_,c,f,rfl⟩;rw[d9,jS];unfold ga;have z:(((0:Nat):Int)==0)=true:=rfl;simp! only[z,d3,e]
 |succ dp ih=>
  intro g hg x b h0 h1 hb;obtain⟨g,rfl⟩:∃g',g=g'+1+1:=⟨g-2,by omega⟩
  have g2:=gm 2;have g3:=gm 3;have g12:=gm 12;have d3:=gd 3;have d6:=gd 6;have d18:=gd 18;have d36:=gd 36;have z:(((dp+1:Nat):Int)==0)=false:=by simp;omega
  rw[d9,jS];unfold ga;by_cases h:x%3<2
  ·have h':decide (x%3<2)=true:=decide_eq_true h;obtain⟨c,e,f⟩:=pK (x/3) ‹0› ‹0›;refine⟨c.d,?_,.inl ⟨c,f,rfl⟩⟩;simp! only[z,g3,h',d3,e]
  ·have h':decide (x%3<2)=false:=decide_eq_false h;obtain⟨m,hm,hm8,m1⟩:∃m:Nat,1+x/3%2=(m:Int)/\m<=8/\1<=m:=⟨(1+x/3%2).toNat,by omega,by omega,by omega⟩
   obtain⟨r,hr,hr8⟩:∃m:Nat,x/6%3=(m:Int)/\m<=8:=⟨(x/6%3).toNat,by omega,by omega⟩
   have hd:((dp+1:Nat):Int)-1=(dp:Int):=(by omega);obtain⟨ps,qs,e,l1,l2,F1,F2,_⟩:=yf dp g (ih g ‹0›) (x/3) b (x/36%12) m r ‹0› ‹0› hb ‹0› hm8 hr8;refine⟨.tup [.str "rows",fr ps qs,.bl (x/18%2==1)],?_,.inr ⟨ps,qs,_,rfl,by omega,by omega,F1,by omega,F2⟩⟩;simp! only[z,g3,h',d3,d36,g12,g2,d6,hm,hr,hd,e,d18,Iq]
theorem yp(dp:Nat)(hd:dp<=3)(x b st:Int)(m r:Nat)(h0:0<=x)(h1:x<2147483700)(hb:0<=b)(hs:0<=st)(hm:m<=8)(hr:r<=8):
  ∃(ks:KL)(qs:fu),aP 12 [.int x,.int b,.int st,.int m,.int r,.int dp]=.ok (fr ks qs)/\ks.length=m/\qs.length=r/\(∀p∈ks,p.2.gd)/\(∀q∈qs,KG dp q.2)/\∀(j:Nat)(w:Str),(ks.map (·.1)++qs.map (·.1))[j]?=some w->uQ b (st+(j:Int)) w:=
 yf dp 11 (DY dp 11 ‹0›) x b st m r h0 h1 hb hs hm hr
noncomputable def Kd.has:Kd->D->Prop
 |.num lo hi,d=>∃i,d=.int i/\lo<=i/\i<=hi
 |.wrd ws,d=>∃w,d=.str w/\w∈ws
noncomputable def yx:KL->List D->Prop
 |[],[]=>True
 |p::k,v::vs=>p.2.has v/\yx k vs
 |_,_=>False
theorem wX{c:Kd}{v:D}(h:c.has v){σ:bM}{vs:List D}(s:Sh σ vs):Sh (c.b::σ) (v::vs):=by
 cases c with
 |num lo hi=>obtain⟨i,rfl,_⟩:=h;exact .int i s
 |wrd ws=>obtain⟨w,rfl,_⟩:=h;exact .str w s
theorem yx.sh:∀{k:KL}{vs:List D},yx k vs->Sh (k.map (·.2.b)) vs
 |[],[],_=>.nil
 |_::_,_::_,h=>wX h.1 h.2.sh
theorem yx.app:∀{k:KL}{vs:List D}{k':KL}{vs':List D},yx k vs->yx k' vs'->yx (k++k') (vs++vs')
 |[],[],_,_,_,h=>h
 |_::_,_::_,_,_,a,h=>⟨a.1,a.2.app h⟩
theorem yx.length{k:KL}{vs:List D}(h:yx k vs):vs.length=k.length:=by
 rw[h.sh.length,Pa]
theorem oo{σ:bM}{kl:Nat}(h0:σ≠[])(hl:kl=σ.length)(rows:aE)(hs:∀r∈rows,Sh σ (r.take kl))(hn:rows.length<64):∃t:aE,aG bh 2 4 [.int kl,.lst (rows.map .tup)]=.ok (.tup (t.map .tup))/\sF kl t/\(∀r∈t,r∈rows)/\t.length<=rows.length/\∀r∈rows,∃r'∈t,r'.take kl=r.take kl:=by
 obtain⟨T,hT⟩:∃T:bI,T=(eT 2 (aJ (fL bJ (aa (du [none,some 2] (az (fL eA (aa (fL lG (aa (ae 2) af)) af))) (gN 0) bx (f2 w8 (ae 1) (ae 0))) af)))):=⟨_,rfl⟩
 rw[cG];unfold bh;rw[<-hT];simp! only[pA];refine cy (Q:=λz=>∃t:aE,z=.ok (.tup (t.map .tup))/\sF kl t/\(∀r∈t,r∈rows)/\t.length<=rows.length/\∀r∈rows,∃r'∈t,r'.take kl=r.take kl) (λi ρ=>∃al:bV,(al.map (·.1)).Nodup/\al.length<=i/\(∀r∈rows.take i,∃q∈al.map (·.1),q.map aY=r.take kl)/\(∀p∈al,∃r∈rows,p.2=.tup r/\r.take kl=p.1.map aY)/\ρ=[‹.int kl›,‹.lst (rows.map .tup)›,some (.own (bD al)),none]) ?_ ⟨[],PR,O1 _,(λr h=>by rw[P4]at h;cases h),(λ_ h=>nomatch h),rfl⟩ ?_
 ·rintro i d ρ kk hd ⟨al,nd,ll,cv,hp,rfl⟩;have hi:=bu hd;rw[Pa]at hi;rw[Pr,Qd hi]at hd;cases hd;have rm:rows[i]∈rows:=QT hi;obtain⟨q,eq⟩:=pC (hs _ rm);have ct:cutD rows[i] none (some (kl:Int))=q.map aY:=by rw[dj,eq]
  refine⟨_,_,rfl,⟨fw al q (.tup rows[i]),FD _ _ nd,by have:=DN al q (.tup rows[i]);omega,λr hr=>?_,λp h=>?_,rfl⟩,?_⟩
  ·rw[kO];rw[RA hi]at hr;rcases List.mem_append.mp hr with z|z
   ·obtain⟨q',h1,h2⟩:=cv r z;refine⟨q',?_,h2⟩;split
    ·exact h1
    ·exact OW _ h1
   ·rw[List.mem_singleton.mp z];refine⟨q,?_,eq.symm⟩;split
    ·rename_i h;exact h
    ·exact O2 _ OU
  ·rcases BE h with z|z
   ·exact hp p z
   ·subst z;exact⟨_,rm,rfl,eq⟩
  ·have pd:=λK:Ks=>xY (i:=2) (fk:=aB (ae 3) au (aQ (ae 0))) (fv:=ae 3) (k:=K) (ρ:=[‹.int kl›,‹.lst (rows.map .tup)›,some (.own (bD al)),‹.tup rows[i]›]) (al:=al) (q:=q) (v:=.tup rows[i]) rfl (by simp! only[ct]) rfl ‹0›;generalize bD (fw al q (.tup rows[i]))=Y at pd ⊢;generalize bD al=Z at pd ⊢;simp! only[pd]
 ·rintro ρ' ⟨al,nd,ll,cv,hp,rfl⟩;rw[Pa]at ll;have hsk:∀p∈al,Sh σ (p.1.map aY):=λp h=>by
   obtain⟨r,hr,_,e⟩:=hp p h;rw[<-e];exact hs r hr
  obtain⟨es,ri⟩:=EC nd hsk h0 ‹0›;have pm:=eP dh (encK al);have lt:=C4 al;generalize gP dh (encK al)=W at es ri pm;have wl:W.length=al.length:=by rw[pm.length_eq,Pa]
  have mem:∀x∈W,∃p∈al,x=.tup (p.1.map aY):=λx hx=>by
   obtain⟨p,h1,h2⟩:=List.mem_map.mp (pm.mem_iff.mp hx);exact⟨p,h1,h2.symm⟩
  obtain⟨vs,v1,v2,v3⟩:=Cm (ρ:=[none,‹bD al›]) (g:=gN 0) (C:=bx) (Fe:=f2 w8 (ae 1) (ae 0)) W (λi v=>∃r∈rows,v=.tup r/\W[i]?=some (.tup (r.take kl))) λi d hd=>by
   obtain⟨p,h1,h2⟩:=mem d (Pu hd);obtain⟨r,hr,e1,e2⟩:=hp p h1;have dx:=HW al p.1;rw[me nd h1,e1]at dx;refine⟨[‹d›,‹bD al›],.tup r,rfl,rfl,?_,r,hr,rfl,by rw[hd,h2,e2]⟩;subst h2;generalize bD al=Z at dx;simp! only[dx]
  obtain⟨t,rfl⟩:=yz vs λv hv=>by
   obtain⟨i,hi,ei⟩:=Qh hv;obtain⟨r,_,e,_⟩:=v2 i v (by rw[Qd hi,ei]);exact⟨r,e⟩
  rw[Pa]at v1;have at_:∀(i:Nat)(h:i<t.length),t[i]∈rows/\W[i]?=some (.tup (t[i].take kl)):=λi h=>by
   obtain⟨r,hr,e,w⟩:=v2 i (.tup t[i]) (by rw[Pr,Qd h];rfl);injection e with e;rw[e];exact⟨hr,w⟩
  refine⟨t,?_,?_,λr hr=>?_,by omega,λr hr=>?_⟩
  ·have lc:du [none,some 2] (az (fL eA (aa (fL lG (aa (ae 2) af)) af))) (gN 0) bx (f2 w8 (ae 1) (ae 0)) [‹.int kl›,‹.lst (rows.map .tup)›,‹bD al›,none]=.ok (.lst (t.map .tup)):=by
    refine cm (ds:=W) ?_ ‹0› v3;generalize bD al=Z at lt;simp! only[lt,es]
   rw[hT];generalize bD al=Z at lc;simp! only[lc]
  ·refine List.pairwise_iff_getElem.mpr λi j hi hj hij=>?_;have a:=(at_ i hi).2;have b:=(at_ j hj).2;rw[Qd ‹0›]at a b
   have:=List.pairwise_iff_getElem.mp ri i j ‹0› ‹0› hij
   rw[Option.some.inj a,Option.some.inj b]at this;exact this
  ·obtain⟨i,hi,ei⟩:=Qh hr;rw[<-ei];exact(at_ i hi).1
  ·rw[Pa,Qm]at cv;obtain⟨q,hq,eq⟩:=cv r hr;obtain⟨p,hp',rfl⟩:=List.mem_map.mp hq
   have:D.tup (p.1.map aY)∈W:=pm.mem_iff.mpr (List.mem_map.mpr ⟨p,hp',rfl⟩)
   obtain⟨i,hi,ei⟩:=Qh this;have a:=(at_ i ‹0›).2;rw[Qd hi,ei]at a;injection a with a;injection a with a;exact⟨t[i]'‹0›,QT _,by rw[<-a,eq]⟩
theorem qA(c:Kd)(hg:c.gd)(g:Nat)(x:Int)(h0:0<=x)(h1:x<2147483700):∃v,aC (g+1) [c.d,.int x]=.ok v/\c.has v:=by
 rw[dU,cG];unfold eW;cases c with
 |num lo hi=>
  have hg:lo<=hi:=hg;have p7:iy (.int x) (.int 7)=some (.int (x^7)):=ua x 7 (by decide) ‹0›;have gm:=λi=>dQ (i:=i) (show(0:Int)<hi-lo+1 by omega);have z1:=Rt (x^7) (show hi-lo+1≠0 by omega);have z2:=Ru (x^7) (show 0<hi-lo+1 by omega);refine⟨.int (lo+x^7%(hi-lo+1)),?_,_,rfl,by omega,by omega⟩;simp! only[Kd.d,lN,p7,gm]
 |wrd ws=>
  obtain⟨wn,_⟩:=(show ws≠[]/\ws.length<=100 from hg)
  have ul:0<ws.length:=List.length_pos_iff.mpr wn;have q1:=Rt x (show(ws.length:Int)≠0 by omega);have q2:=Ru x (show(0:Int)<(ws.length:Int)by omega);have gm:=λi=>dQ (i:=i) (show(0:Int)<(ws.length:Int)by omega);have ix:ah (.tup (ws.map .str)) (.int (x%(ws.length:Int)))=some (.str (ws[(x%(ws.length:Int)).toNat]'‹0›)):=by
   rw[Ir,pp,jD q1 q2];rfl
  refine⟨_,?_,ws[(x%(ws.length:Int)).toNat]'‹0›,rfl,QT _⟩;simp! only[Kd.d,nQ,lY,Pa,gm,ix]
theorem AV(n g:Nat)(Pv:D->D->Prop)(hv:∀(d:D)(x:Int),KG n d->0<=x->x<2147483700->∃v,aC (g+1) [d,.int x]=.ok v/\Pv d v)(ks:KL)(qs:fu)(k8:ks.length<=8)(q8:qs.length<=8)(hk:∀p∈ks,p.2.gd)(hq:∀q∈qs,KG n q.2)(A B:List D)(em:A++B=(ks.map toD++qs).map fld)(mn hd tl:Int)(h0:0<=hd)(h1:hd<2147483700)(t0:0<=tl)(t1:tl<2147483700):
  ∃ka va:List D,aW (g+2) [.tup [.tup A,.tup B],.int mn,.int hd,.int tl]=.ok (.tup (ka++va))/\yx ks ka/\va.length=qs.length/\∀(j:Nat)(d:Str×D)(v:D),qs[j]?=some d->va[j]?=some v->Pv d.2 v:=by
 rw[gq,Ba];unfold jC;have fl:(ks.map toD++qs).length=ks.length+qs.length:=by rw[Pw,Pa]
 have ad:=cR A B (by have:=congrArg List.length em;rw[Pw,Pa]at this;omega);rw[em]at ad;obtain⟨T,hT⟩:∃T:bI,T=(eT 4 (aJ (fL bJ (aa (ae 4) af)))):=⟨_,rfl⟩
 rw[<-hT];simp! only[Jn,ad];refine cy (Q:=λz=>∃ka va:List D,z=.ok (.tup (ka++va))/\yx ks ka/\va.length=qs.length/\∀(j:Nat)(d:Str×D)(v:D),qs[j]?=some d->va[j]?=some v->Pv d.2 v)
  (λi ρ=>∃(y z:Int)(ka va:List D),0<=y/\y<2147483700/\0<=z/\z<2147483700/\yx (ks.take i) ka/\va.length=i-ks.length/\(∀(j:Nat)(d:Str×D)(v:D),qs[j]?=some d->va[j]?=some v->Pv d.2 v)/\ρ=[‹.tup [.tup A,.tup B]›,‹.int mn›,‹.int y›,‹.int z›,some (.own (.lst (ka++va))),none,none]) ?_ ⟨hd,tl,[],[],h0,h1,t0,t1,trivial,by simp,(λ_ _ _ _ h=>by simp at h),rfl⟩ ?_
 ·rintro i d ρ kk hd ⟨y,z,ka,va,y0,y1,z0,z1,hka,lva,hva,rfl⟩;have hi:=bu hd;rw[Pa,fl]at hi;rw[Pr,Qd ‹0›]at hd;cases hd;have kal:ka.length=min i ks.length:=by rw[hka.length,Pm]
  obtain⟨y',y0',y1',ey⟩:=eK y y0 y1;obtain⟨z',z0',z1',ez⟩:=eK z z0 z1;have step:∀x:Int,0<=x->x<2147483700->∃v,aC (g+1) [((ks.map toD++qs)[i]'‹0›).2,.int x]=.ok v/\∃ka' va',ka++va++[v]=ka'++va'/\yx (ks.take (i+1)) ka'/\va'.length=i+1-ks.length/\(∀(j:Nat)(d:Str×D)(v:D),qs[j]?=some d->va'[j]?=some v->Pv d.2 v):=λx x0 x1=>by
   by_cases h:i<ks.length
   ·have e:(ks.map toD++qs)[i]'‹0›=toD ks[i]:=(by rw[List.getElem_append_left (by rw[Pa];exact h),List.getElem_map]);obtain⟨v,ev,sv⟩:=qA ks[i].2 (hk _ (QT h)) g x x0 x1;have v0:va=[]:=List.length_eq_zero_iff.mp ‹0›;subst v0;refine⟨v,by rw[e];exact ev,ka++[v],[],by simp,?_,by simp;omega,λ_ _ _ _ h=>by simp at h⟩;rw[RA h];exact hka.app ⟨sv,trivial⟩
   ·have e:(ks.map toD++qs)[i]'‹0›=qs[i-ks.length]'‹0›:=(by rw[List.getElem_append_right (by rw[Pa];omega)];simp);obtain⟨v,ev,sv⟩:=hv _ x (hq _ (QT (show i-ks.length<qs.length by omega))) x0 x1;refine⟨v,by rw[e];exact ev,ka,va++[v],by rw[Qr],?_,by rw[Pw,PC];omega,λj d w hj hw=>?_⟩
    ·rw[Rb ‹0›]at hka ⊢;exact hka
    ·by_cases z:j<va.length
     ·rw[Pq z]at hw;exact hva j d w hj hw
     ·have hj':=bu hw;rw[Pw,PC]at hj';have ej:j=i-ks.length:=(by omega);rw[Pn ‹0›,show j-va.length=0 by omega]at hw;cases hw;subst ej;rw[Qd (by omega (config:={}))]at hj;cases hj;exact sv
  have gt:gT 2 (jL [5,6]) (fld ((ks.map toD++qs)[i]'‹0›)) [‹.tup [.tup A,.tup B]›,‹.int mn›,‹.int y›,‹.int z›,some (.own (.lst (ka++va))),none,none]=some [‹.tup [.tup A,.tup B]›,‹.int mn›,‹.int y›,‹.int z›,some (.own (.lst (ka++va))),‹.str ((ks.map toD++qs)[i]'‹0›).1›,‹((ks.map toD++qs)[i]'‹0›).2›]:=rfl;have alen:(ka++va).length<1000:=by rw[Pw];omega
  generalize (ks.map toD++qs)[i]'‹0›=p at step gt;cases hb:decide (((ka++va).length:Int)<mn)with
  |true=>
   obtain⟨v,ev,ka',va',e1,e2,e3,e4⟩:=step y' y0' ‹0›;refine⟨_,_,gt,⟨y',z,ka',va',y0',by omega,z0,z1,e2,e3,e4,rfl⟩,?_⟩;have ap:eG (ka++va) [v]=some (ka'++va'):=(by rw[jn ‹0›,e1]);have sm:=λK:Ks=>jq 4 eG (aa (fR (aC (g+1)) (aa (ae 6) (aa (ae 2) af))) af) K [‹.tup [.tup A,.tup B]›,‹.int mn›,‹.int y'›,‹.int z›,some (.own (.lst (ka++va))),‹.str p.1›,‹p.2›] (xs:=ka++va) rfl;generalize ka++va=A at hb ap sm alen;generalize ka'++va'=B at ap;simp! only[p4,Jd,hb,ey,sm,ev,ap]
  |false=>
   obtain⟨v,ev,ka',va',e1,e2,e3,e4⟩:=step z' z0' ‹0›;refine⟨_,_,gt,⟨y,z',ka',va',y0,y1,z0',by omega,e2,e3,e4,rfl⟩,?_⟩;have ap:eG (ka++va) [v]=some (ka'++va'):=(by rw[jn ‹0›,e1]);have sm:=λK:Ks=>jq 4 eG (aa (fR (aC (g+1)) (aa (ae 6) (aa (ae 3) af))) af) K [‹.tup [.tup A,.tup B]›,‹.int mn›,‹.int y›,‹.int z'›,some (.own (.lst (ka++va))),‹.str p.1›,‹p.2›] (xs:=ka++va) rfl;generalize ka++va=A at hb ap sm alen;generalize ka'++va'=B at ap;simp! only[p4,Jd,hb,ez,sm,ev,ap]
 ·rintro ρ' ⟨y,z,ka,va,y0,y1,z0,z1,hka,lva,hva,rfl⟩;rw[Pa,fl]at hka lva;rw[Rb ‹0›]at hka;refine⟨ka,va,?_,hka,by omega,hva⟩;rw[hT];generalize ka++va=A;simp! only[]
theorem Bp{qs:fu}{va:List D}{n:Nat}(l:va.length=qs.length)(h:∀(j:Nat)(d:Str×D)(v:D),qs[j]?=some d->va[j]?=some v->AL n v):∀v∈va,AL n v:=λv hv=>by
 obtain⟨j,hj,e⟩:=Qh hv;exact h j (qs[j]'‹0›) v (Qd ‹0›) (by rw[Qd hj,e])
theorem ya(n g:Nat)(Pv:D->D->Prop)(hv:∀(d:D)(x:Int),KG n d->0<=x->x<2147483700->∃v,aC (g+1) [d,.int x]=.ok v/\Pv d v)(ks:KL)(qs:fu)(k1:1<=ks.length)(k8:ks.length<=8)(q8:qs.length<=8)(hk:∀p∈ks,p.2.gd)(hq:∀q∈qs,KG n q.2)(x:Int)(m:Nat)(h0:0<=x)(h1:x<2147483700)(hm:m<=8):
  ∃t:aE,aL (g+3) [fr ks qs,.int x,.int m]=.ok (.tup (t.map .tup))/\sF ks.length t/\t.length<=m/\∀r∈t,∃ka va:List D,r=ka++va/\yx ks ka/\va.length=qs.length/\∀(j:Nat)(d:Str×D)(v:D),qs[j]?=some d->va[j]?=some v->Pv d.2 v:=by
 have rn:=i9 m ‹0›;obtain⟨T,hT⟩:∃T:bI,T=(eT 3 (aJ (fR (aG bh 2 4) (aa (fL cW (aa (f2 ah (ae 0) (fC (.int 0))) af)) (aa (ae 3) af))))):=⟨_,rfl⟩
 rw[fO,jS];unfold ie;rw[<-hT];simp! only[Jn,rn];refine cy (Q:=λz=>∃t:aE,z=.ok (.tup (t.map .tup))/\sF ks.length t/\t.length<=m/\∀r∈t,∃ka va:List D,r=ka++va/\yx ks ka/\va.length=qs.length/\∀(j:Nat)(d:Str×D)(v:D),qs[j]?=some d->va[j]?=some v->Pv d.2 v)
  (λi ρ=>∃(y:Int)(rs:aE),0<=y/\y<2147483700/\rs.length=i/\(∀r∈rs,∃ka va:List D,r=ka++va/\yx ks ka/\va.length=qs.length/\∀(j:Nat)(d:Str×D)(v:D),qs[j]?=some d->va[j]?=some v->Pv d.2 v)/\ρ=[‹fr ks qs›,‹.int y›,‹.int m›,some (.own (.lst (rs.map .tup))),none]) ?_ ⟨x,[],h0,h1,rfl,(λ_ h=>nomatch h),rfl⟩ ?_
 ·rintro i d ρ kk hd ⟨y,rs,y0,y1,rl,hr,rfl⟩;have hi:=bu hd;rw[bU]at hi;obtain⟨y',y0',y1',ey⟩:=eK y y0 y1;obtain⟨ka,va,ev,v1,v2,v3⟩:=AV n g Pv hv ks qs k8 q8 hk hq (ks.map kf) (qs.map fld) (by rw[Qk,qx]) 0 0 y' (by decide) (by decide) y0' ‹0›;refine⟨_,_,rfl,⟨y',rs++[ka++va],y0',by omega,by rw[Pw,PC,rl],λr h=>?_,rfl⟩,?_⟩
  ·rcases List.mem_append.mp h with z|z
   ·exact hr r z
   ·rw[List.mem_singleton.mp z];exact⟨ka,va,rfl,v1,v2,v3⟩
  ·have ap:eG (rs.map .tup) [.tup (ka++va)]=some ((rs++[ka++va]).map .tup):=by
    rw[jn (by rw[Pa];omega),Qk];rfl
   have sm:=λK:Ks=>jq 3 eG (aa (fR (aW (g+2)) (aa (ae 0) (aa (fC (.int 0)) (aa (fC (.int 0)) (aa (ae 1) af))))) af) K [‹fr ks qs›,‹.int y'›,‹.int m›,some (.own (.lst (rs.map .tup))),‹d›] (xs:=rs.map .tup) rfl;generalize (rs++[ka++va]).map D.tup=Y at ap ⊢;generalize ka++va=vs at ev ap;generalize rs.map D.tup=Z at ap sm ⊢;simp! only[ey,sm,ev,ap]
 ·rintro ρ' ⟨y,rs,y0,y1,rl,hr,rfl⟩;rw[bU]at rl;obtain⟨t,et,ri,tm,tl,_⟩:=oo (σ:=ks.map (·.2.b)) (kl:=ks.length) (λz=>by have:=congrArg List.length z;rw[Pa,PN]at this;omega) (by rw[Pa]) rs (λr h=>by
   obtain⟨ka,va,rfl,f,_⟩:=hr r h;rw[RB f.length];exact f.sh) ‹0›
  refine⟨t,?_,ri,by omega,λr h=>hr r (tm r h)⟩;rw[hT];simp! only[Pa,et]
theorem u5:∀(n g:Nat),3*n+1<=g->∀(d:D)(x:Int),KG n d->0<=x->x<2147483700->∃v,aC g [d,.int x]=.ok v/\AL (2*n) v:=by
 intro n
 induction n with
 |zero=>
  intro g hg d x hd h0 h1;obtain⟨g,rfl⟩:∃g',g=g'+1:=⟨g-1,by omega⟩
  obtain⟨c,cg,rfl⟩:=hd;obtain⟨v,ev,sv⟩:=qA c cg g x h0 h1;exact⟨v,ev,lV (wX sv .nil) v OU⟩
 |succ n ih=>
  intro g hg d x hd h0 h1;obtain⟨g,rfl⟩:∃g',g=g'+3+1:=⟨g-4,by omega⟩
  rcases hd with⟨c,cg,rfl⟩|⟨ks,qs,b,rfl,k1,k8,hk,q8,hq⟩
  ·obtain⟨v,ev,sv⟩:=qA c cg (g+3) x h0 h1;exact⟨v,ev,(lV (wX sv .nil) v OU).of0 _⟩
  ·have d3:=gd 3;have g3:=gm 3;obtain⟨m,hm,em⟩:∃m:Nat,m<=3/\jE [.int (x%3),.int (if b then 1 else 0)]=some (.int (m:Int)):=by
    refine⟨(if(if b then(1:Int)else 0)>x%3 then(if b then(1:Int)else 0)else x%3).toNat,?_,?_⟩
    ·cases b<;>simp<;>split<;>omega
    ·rw[gY];congr 2;cases b<;>simp<;>split<;>omega
   obtain⟨t,ev,_,tl,ht⟩:=ya n g (λ_ v=>AL (2*n) v) (ih (g+1) ‹0›) ks qs k1 k8 q8 hk hq (x/3) m ‹0› ‹0› ‹0›;refine⟨_,?_,show AL (2*n+2) (.tup (t.map .tup))from AL.tup (by rw[Pa];omega) λv hv=>by
    obtain⟨r,h1,rfl⟩:=List.mem_map.mp hv;obtain⟨ka,va,rfl,w1,w2,w3⟩:=ht r h1
    have:=w1.length
    exact AL.tup (by rw[Pw];omega) λv hv=>(List.mem_append.mp hv).elim (λz=>(lV w1.sh v z).of0 _) λz=>Bp w2 w3 v z⟩
   rw[dU,cG];unfold eW;simp! only[Hl,Fq,d3,g3,CQ,em,ev]
theorem jg(n:Nat)(hn:n<=2)(ks:KL)(qs:fu)(k8:ks.length<=8)(q8:qs.length<=8)(hk:∀p∈ks,p.2.gd)(hq:∀q∈qs,KG n q.2)(A:List D)(em:A=(ks.map toD++qs).map fld)(x:Int)(h0:0<=x)(h1:x<2147483700):
  ∃vs:List D,aG bB 2 2 [.tup A,.int x]=.ok (.tup vs)/\vs.length=ks.length+qs.length/\yx ks (vs.take ks.length)/\∀v∈vs,AL 4 v:=by
 obtain⟨ka,va,ev,v1,v2,v3⟩:=AV n 10 (λ_ v=>AL (2*n) v) (u5 n 11 ‹0›) ks qs k8 q8 hk hq A [] (by rw[Pj];exact em) 0 0 x (by decide) (by decide) h0 h1;have ev:aW 12 [.tup [.tup A,.tup []],.int 0,.int 0,.int x]=.ok (.tup (ka++va)):=ev
 have:=v1.length
 refine⟨ka++va,?_,by rw[Pw];omega,by rw[RB v1.length];exact v1,λv h=>(List.mem_append.mp h).elim (λz=>(lV v1.sh v z).of0 _) λz=>AL.le ‹0› (Bp v2 v3 v z)⟩;rw[cG];unfold bB;generalize ka++va=w at ev ⊢;simp! only[Nr,p3,ev]
theorem zip_get:∀(xs:List D)(i:Nat)(d:D),(gG xs xs)[i]?=some d->∃x∈xs,d=.tup [x,x]
 |x::xs,0,d,h=>by cases h;exact⟨x,OU,rfl⟩
 |x::xs,i+1,d,h=>by
  obtain⟨y,h1,h2⟩:=zip_get xs i d h;exact⟨y,OV _ h1,h2⟩
theorem xh:∀(n g:Nat)(d:D),n<g->AL n d->bg g [d,d]=.ok (.bl true):=by
 intro n
 induction n with
 |zero=>
  intro g d hg hd;obtain⟨g,rfl⟩:∃g',g=g'+1:=⟨g-1,by omega⟩
  show aG (dC (bg g)) 2 4 [d,d]=_;rw[cG];unfold dC;rcases hd with⟨i,rfl⟩|⟨x,rfl⟩
  ·have t2:jv "str" (.int i)=some (.bl false):=rfl;have t3:jv "int" (.int i)=some (.bl true):=rfl;have t4:jv "bool" (.int i)=some (.bl false):=rfl;simp! only[t2,t3,t4,beq_self_eq_true,Qf]
  ·have t2:jv "str" (.str x)=some (.bl true):=rfl;simp! only[t2,beq_self_eq_true,Qf]
 |succ n ih=>
  intro g d hg hd;obtain⟨g,rfl⟩:∃g',g=g'+1:=⟨g-1,by omega⟩
  show aG (dC (bg g)) 2 4 [d,d]=_;rw[cG];unfold dC;rcases hd with(⟨i,rfl⟩|⟨x,rfl⟩)|⟨ds,rfl,dl,hds⟩
  ·have t2:jv "str" (.int i)=some (.bl false):=rfl;have t3:jv "int" (.int i)=some (.bl true):=rfl;have t4:jv "bool" (.int i)=some (.bl false):=rfl;simp! only[t2,t3,t4,beq_self_eq_true,Qf]
  ·have t2:jv "str" (.str x)=some (.bl true):=rfl;simp! only[t2,beq_self_eq_true,Qf]
  ·have t1:jv "tuple" (.tup ds)=some (.bl true):=rfl;have t2:jv "str" (.tup ds)=some (.bl false):=rfl;have t3:jv "int" (.tup ds)=some (.bl false):=rfl;have t4:jv "bool" (.tup ds)=some (.bl false):=rfl;simp! only[t1,t2,t3,t4,beq_self_eq_true,sC];refine cy (Q:=λz=>z=.ok (.bl true)) (λi ρ=>ρ=[‹.tup ds›,‹.tup ds›,none,none]) ?_ rfl ?_
   ·rintro i d ρ kk hd rfl;obtain⟨x,hx,rfl⟩:=zip_get ds i d hd;have ea:=ih g x ‹0› (hds x hx);refine⟨[‹.tup ds›,‹.tup ds›,‹x›,‹x›],_,rfl,rfl,?_⟩;simp! only[ea]
   ·rintro ρ' rfl;rfl
noncomputable def kq(f:List D):cP:=(keysOf f).getD []
theorem JO(q:cP):kq (q.map aY)=q:=by unfold kq;rw[bH];rfl
theorem lF{σ:bM}{f:List D}(h:Sh σ f):(kq f).map aY=f:=by
 obtain⟨q,e⟩:=pC h;rw[e,JO]
theorem iz{σ:bM}{f f':List D}(h:Sh σ f)(h':Sh σ f')(e:kq f=kq f'):f=f':=by
 rw[<-lF h,e,lF h']
theorem mK:∀(ps al:bV),((al++ps).map (·.1)).Nodup->ps.foldl (λal p=>fw al p.1 p.2) al=al++ps
 |[],al,_=>by rw[Pj];rfl
 |p::ps,al,h=>by
  rw[QL];have e:fw al p.1 p.2=al++[p]:=by
   unfold fw;rw[if_neg];intro z;obtain⟨a,ha,e⟩:=List.any_eq_true.mp z;rw[Qk,O9]at h;exact(List.nodup_append.mp h).2.2 a.1 (List.mem_map.mpr ⟨a,ha,rfl⟩) p.1 OU (of_decide_eq_true e)
  rw[e,mK ps (al++[p]) (by rw[Qr];exact h),Qr];rfl
theorem lW:∀ps:bV,gQ (ps.map je)=some ps
 |[]=>rfl
 |p::ps=>by
  show(v8 (je p)).bind (λq=>(gQ (ps.map je)).map (q::·))=_;rw[lW ps];show((eF (.tup (p.1.map aY))).map _).bind _=_;rw[mC];rfl
variable{τ:bM}{m:Nat}
theorem ux{T:aE}(hs:∀r∈T,Sh τ (r.take m))(h:sF m T):T.Pairwise λa b=>a.take m≠b.take m:=
 List.Pairwise.imp_of_mem (λ{a b} ha hb e z=>by rw[z,ju (hs b hb)]at e;cases e) h
structure So(τ:bM)(m:Nat)(L:aE):Prop where
 t0:τ≠[]
 hm:m=τ.length
 sh:∀r∈L,Sh τ (r.take m)
 pw:L.Pairwise λa b=>a.take m≠b.take m
 ln:L.length<64
theorem So.prog{L T:aE}(h:So τ m L)(r:sF m T)(p:T.Perm L):aG dZ 2 2 [.int m,.lst (L.map .tup)]=.ok (.tup (T.map .tup)):=by
 have k:J0 m (L.map .tup):=⟨by rw[Pa];exact h.ln,τ,h.t0,λx hx=>by
  obtain⟨r,hr,rfl⟩:=List.mem_map.mp hx;exact⟨r,rfl,h.sh r hr⟩,List.pairwise_map.mpr h.pw⟩
 have so:gP (qU m) (L.map .tup)=T.map .tup:=by
  refine mN (σ:=τ) (λx hx=>?_) ?_ ?_ (p.map _)
  ·obtain⟨r,hr,rfl⟩:=List.mem_map.mp hx;exact h.sh r hr
  ·exact List.pairwise_map.mpr h.pw
  ·exact List.pairwise_map.mpr r
 have e:nW (.lst (L.map .tup)) (.int m)=some (.lst (T.map .tup)):=by
  show(if(0:Int)<=(m:Int)then qo ((m:Int)).toNat (L.map .tup)else none)=_;rw[if_pos ‹0›,Px];unfold qo;rw[if_pos k,so]
 rw[cG];unfold dZ;simp! only[e]
theorem HM(xs:List D):lu [.lst xs]=some (.lst xs):=nr rfl
theorem So.nd{L:aE}(h:So τ m L):L.Nodup:=h.pw.imp λ{a b} ne e=>ne (by rw[e])
theorem So.srt{L:aE}(h:So τ m L):∃T:aE,sF m T/\T.Perm L:=
 ⟨gP (λr=>r.take m) L,kT (key:=λr:List D=>r.take m) (σ:=τ) h.sh h.pw,eP _ _⟩
theorem qJ{A B:aE}(hA:∀r∈A,Sh τ (r.take m))(a:sF m A)(b:sF m B)(p:B.Perm A):A=B:=by
 have h1:=mN (key:=λr:List D=>r.take m) (σ:=τ) hA (ux hA a) a (List.Perm.refl _);have h2:=mN (key:=λr:List D=>r.take m) (σ:=τ) hA (ux hA a) b p;exact h1.symm.trans h2
theorem So.law{L T:aE}(h:So τ m L)(r:sF m T)(p:T.Perm L):aG bh 2 4 [.int m,.lst (L.map .tup)]=.ok (.tup (T.map .tup)):=by
 obtain⟨t,et,ri,t1,t2,t3⟩:=oo h.t0 h.hm L h.sh h.ln;have tsh:∀r∈t,Sh τ (r.take m):=λr hr=>h.sh r (t1 r hr);have inj:∀a∈L,∀b∈L,a.take m=b.take m->a=b:=λa ha b hb e=>by
  by_cases z:a=b
  ·exact z
  ·have:=h.pw
   rw[List.pairwise_iff_forall_sublist]at this;obtain⟨i,hi,rfl⟩:=Qh ha;obtain⟨j,hj,rfl⟩:=Qh hb;rcases QP i j with q|q|q
   ·exact absurd e (List.pairwise_iff_getElem.mp h.pw i j hi hj q)
   ·subst q;rfl
   ·exact absurd e.symm (List.pairwise_iff_getElem.mp h.pw j i hj hi q)
 have pe:t.Perm L:=(List.perm_ext_iff_of_nodup ((ux tsh ri).imp λ{a b} ne e=>ne (by rw[e])) h.nd).mpr λa=>⟨t1 a,λha=>by
  obtain⟨b,hb,e⟩:=t3 a ha;rw[<-inj b (t1 b hb) a ha e];exact hb⟩
 rw[et,qJ tsh ri r (p.trans pe.symm)]
section
open Classical
theorem BR{σ:bM}(k:List D)(v:D)(hk:Sh σ k)(ψ:List D->List D):∀L:aE,(∀f∈L,Sh σ f)->L.Nodup->(∀f∈L,(ψ f).length<1000)->(k∉L->ψ k=[])->
  qY (L.map λf=>(kq f,.lst (ψ f))) (kq k) v=some ((if k∈L then L else L++[k]).map λf=>(kq f,.lst (ψ f++if k=f then[v]else[])))
 |[],_,_,_,h0=>by
  rw[if_neg (by simp)];show some [(kq k,D.lst [v])]=some [(kq k,.lst (ψ k++if k=k then[v]else[]))];rw[h0 (by simp),if_pos rfl];rfl
 |f::L,hL,nd,hl,h0=>by
  obtain⟨n1,n2⟩:=List.nodup_cons.mp nd;show(if kq f=kq k then _ else _)=_;by_cases h:f=k
  ·subst h;rw[if_pos rfl,if_pos OU];show(if small ((ψ f).length+1)then some ((kq f,D.lst (ψ f++[v]))::L.map λf=>(kq f,.lst (ψ f)))else none)=_;have hl0:=hl f OU;rw[if_pos (show small ((ψ f).length+1)=true from decide_eq_true ‹0›),O9,if_pos rfl];congr 2;refine Qj λx hx=>?_;rw[if_neg (λz=>n1 (by rw[z];exact hx)),Pj]
  ·rw[if_neg (λz=>h (iz (hL f OU) hk z))];have ih:=BR k v hk ψ L (λx hx=>hL x (OV _ hx)) n2 (λx hx=>hl x (OV _ hx)) (λz=>h0 λy=>by
    rcases List.mem_cons.mp y with y|y
    ·exact h y.symm
    ·exact z y)
   rw[show qY (List.map (λf=>(kq f,D.lst (ψ f))) L) (kq k) v=_ from ih];have em:k∈f::L↔k∈L:=by
    rw[Qv];exact⟨λz=>z.resolve_left λy=>h y.symm,.inr⟩
   by_cases hm:k∈L
   ·rw[if_pos hm,if_pos (em.mpr hm),O9,if_neg (λz=>h z.symm),Pj];rfl
   ·rw[if_neg hm,if_neg (λz=>hm (em.mp z)),P0,O9,if_neg (λz=>h z.symm),Pj];rfl
structure Tab(σ:bM)(t:aE):Prop where
 sh:∀r∈t,Sh σ (r.take σ.length)
 ri:sF σ.length t
 ln:t.length<64
 rl:∀r∈t,r.length<=16/\σ.length<=r.length
 al:∀r∈t,∀v∈r,AL 6 v
variable{σ:bM}{t:aE}
theorem CO(m:Nat)(t:aE)(f:List D):(gp m t f).length<=t.length:=by
 unfold gp;rw[Pa];exact RC _ _
theorem Tab.fsh(T:Tab σ t)(hm:m<=σ.length):∀r∈t,Sh (σ.take m) (r.take m):=λr h=>by
 have:=kr m (T.sh r h)
 rw[RD,Rg hm]at this;exact this
theorem Ds(s:aE)(h:∀r∈s,Sh (σ.take m) (r.take m)):∀f∈fs m s,Sh (σ.take m) f:=λf hf=>by
 obtain⟨r,hr,rfl⟩:=(wG m).mp hf;exact h r hr
theorem vV{i:Nat}(h:i<t.length):t.take (i+1)=t.take i++[t[i]]:=RA h
theorem FL(L:aE)(nd:L.Nodup)(h:∀f∈L,Sh (σ.take m) f)(v:List D->D):((L.map λf=>(kq f,v f)).map (·.1)).Nodup:=by
 rw[QW];refine List.pairwise_map.mpr (List.Pairwise.imp_of_mem (λ{a b} ha hb ne e=>ne ?_) nd);exact iz (h a ha) (h b hb) e
theorem wR(T:Tab σ t)(hm:m<=σ.length):aG iQ 2 4 [.int m,.tup (t.map .tup)]=.ok (bD ((fs m t).map λf=>(kq f,.tup ((gp m t f).map .tup)))):=by
 have fsh:=T.fsh hm;have fl:=CJ m t;have tl:=T.ln;have fsL:=Ds t fsh;obtain⟨TT,hT⟩:∃TT:bI,TT=(sj 2 (aJ (fL jB (aa (du [none,none] (mJ (ae 2)) (gT 2 (jL [0,1])) bx (bE (aa (ae 0) (aa (fL bJ (aa (ae 1) af)) af)))) af)))):=⟨_,rfl⟩
 rw[cG];unfold iQ;rw[<-hT];have nn:∀K:Ks,vB 2 K [‹.int m›,‹.tup (t.map .tup)›,none,none]=K.nx [‹.int m›,‹.tup (t.map .tup)›,some (.nest (bD [])),none]:=λK=>rfl;simp! only[nn];refine cy (Q:=λz=>z=.ok (bD ((fs m t).map λf=>(kq f,.tup ((gp m t f).map .tup))))) (λi ρ=>ρ=[‹.int m›,‹.tup (t.map .tup)›,some (.nest (bD ((fs m (t.take i)).map λf=>(kq f,.lst ((gp m (t.take i) f).map .tup))))),none]) ?_ rfl ?_
 ·rintro i d ρ kk hd rfl;have hi:=bu hd;rw[Pa]at hi;rw[Pr,Qd hi]at hd;cases hd;have rm:t[i]∈t:=QT hi;have fi:=CJ m (t.take i);rw[Pm]at fi;have gi:=BR (σ:=σ.take m) (t[i].take m) (.tup (t[i].drop m)) (fsh _ rm) (λf=>(gp m (t.take i) f).map .tup) (fs m (t.take i)) (Ds _ λr hr=>fsh r (RE hr)) (Dt m _) (λf _=>by
   have:=CO m (t.take i) f
   rw[Pm]at this;rw[Pa];omega) (λz=>by
    unfold gp;rw[List.filter_eq_nil_iff.mpr]
    ·rfl
    ·intro x hx y;exact z ((wG m).mpr ⟨x,hx,by simpa using y⟩))
  have ge:∀f,((gp m (t.take i) f).map D.tup++if t[i].take m=f then[.tup (t[i].drop m)]else[])=(gp m (t.take (i+1)) f).map .tup:=λf=>by
   rw[vV hi,D3,Qk];by_cases h:t[i].take m=f
   ·rw[if_pos h,if_pos h];rfl
   ·rw[if_neg h,if_neg h];rfl
  have fe:fs m (t.take (i+1))=if t[i].take m∈fs m (t.take i)then fs m (t.take i)else fs m (t.take i)++[t[i].take m]:=by
   rw[vV hi,oY];rfl
  rw[<-fe]at gi;simp only[ge]at gi;refine⟨_,_,rfl,rfl,?_⟩;have gr:∀K:Ks,z8 2 (aB (ae 3) au (aQ (ae 0))) (aB (ae 3) (aQ (ae 0)) au) K [‹.int m›,‹.tup (t.map .tup)›,some (.nest (bD ((fs m (t.take i)).map λf=>(kq f,.lst ((gp m (t.take i) f).map .tup))))),‹.tup t[i]›]=K.nx [‹.int m›,‹.tup (t.map .tup)›,some (.nest (bD ((fs m (t.take (i+1))).map λf=>(kq f,.lst ((gp m (t.take (i+1)) f).map .tup))))),‹.tup t[i]›]:=λK=>by
   generalize hal:((fs m (t.take i)).map λf=>(kq f,D.lst ((gp m (t.take i) f).map .tup)))=al at gi;have all:al.length<=t.length:=(by rw[<-hal,Pa];omega);have g2:uR (encK al) (al.map (·.2)) (.tup (t[i].take m)) (.tup (t[i].drop m))=some ((fs m (t.take (i+1))).map λf=>(kq f,.lst ((gp m (t.take (i+1)) f).map .tup))):=by
    unfold uR;rw[dX];show(eF (.tup (t[i].take m))).bind _=_
    have:t[i].take m=(kq (t[i].take m)).map aY:=(lF (fsh _ rm)).symm
    rw[this,mC];show(if small al.length then _ else _)=_;rw[if_pos (cu ‹0›)];exact gi
   have k1:aB (ae 3) au (aQ (ae 0)) [‹.int m›,‹.tup (t.map .tup)›,some (.nest (bD al)),‹.tup t[i]›]=.ok (.tup (t[i].take m)):=by
    generalize bD al=Z;simp! only[dj]
   have k2:aB (ae 3) (aQ (ae 0)) au [‹.int m›,‹.tup (t.map .tup)›,some (.nest (bD al)),‹.tup t[i]›]=.ok (.tup (t[i].drop m)):=by
    generalize bD al=Z;simp! only[p5]
   show(((wc _).bind λq=>(wc _).bind λv=>rO (uR (encK al) (al.map (·.2)) q v)).bind _)=_;rw[k1,k2,ik,cV,ik,cV,g2,eB,cV];rfl
  generalize bD ((fs m (t.take (i+1))).map λf=>(kq f,.lst ((gp m (t.take (i+1)) f).map .tup)))=Y at gr ⊢;generalize bD ((fs m (t.take i)).map λf=>(kq f,.lst ((gp m (t.take i) f).map .tup)))=Z at gr ⊢;simp! only[gr]
 ·rintro ρ' rfl;rw[Pa,Qm,hT];generalize hal:((fs m t).map λf=>(kq f,D.lst ((gp m t f).map .tup)))=al;have all:al.length<=t.length:=by rw[<-hal,Pa];omega
  have fz:∀(F:bI)(K:Ks),sj 2 F K [‹.int m›,‹.tup (t.map .tup)›,some (.nest (bD al)),none]=F K [‹.int m›,‹.tup (t.map .tup)›,‹vc al›,none]:=λF K=>by
   show F K (match iA (encK al) (al.map (·.2))with|some al=>setV 2 (vc al) _|none=>_)=_;rw[dX];rfl
  have knd:=FL (m:=m) (σ:=σ) (fs m t) (Dt m t) fsL (λf=>.tup ((gp m t f).map .tup));have pr:=lW ((fs m t).map λf=>(kq f,D.tup ((gp m t f).map .tup)));have df:jB [.lst (((fs m t).map λf=>(kq f,D.tup ((gp m t f).map .tup))).map je)]=some (bD ((fs m t).map λf=>(kq f,.tup ((gp m t f).map .tup)))):=by
   show(gQ _).bind _=_;rw[pr];show(if small _ then _ else _)=_;rw[if_pos (cu (by rw[Pa];omega))]
   have:=mK ((fs m t).map λf=>(kq f,D.tup ((gp m t f).map .tup))) [] knd
   unfold yQ;rw[this];rfl
  have it:=C3 al;have lc:du [none,none] (mJ (ae 2)) (gT 2 (jL [0,1])) bx (bE (aa (ae 0) (aa (fL bJ (aa (ae 1) af)) af))) [‹.int m›,‹.tup (t.map .tup)›,‹vc al›,none]=.ok (.lst (((fs m t).map λf=>(kq f,D.tup ((gp m t f).map .tup))).map je)):=by
   refine cm (ds:=al.map je) ?_ (by rw[Pa];omega) ?_
   ·show((ae 2 _).bind _)=_;generalize vc al=Z at it;simp! only[it]
   ·rw[<-hal,QW,QW];refine eJ _ _ (fs m t) λf hf=>?_;refine⟨[‹.tup ((kq f).map aY)›,‹.lst ((gp m t f).map .tup)›],rfl,rfl,?_⟩;simp! only[p3];rfl
  generalize vc al=Z at lc fz;generalize bD al=Z0 at fz ⊢;generalize bD ((fs m t).map λf=>(kq f,D.tup ((gp m t f).map .tup)))=Y at df ⊢;simp! only[fz,lc,df]
end
noncomputable def mn(i j:Int):Int:=if j<i then j else i
theorem K3(a:Kd):pl a.d=true:=by
 cases a with
 |num _ _=>rfl
 |wrd ws=>
  show pl (.tup [.str "word",.tup (ws.map .str)])=true;rw[cz];show(pl (.str "word")&&(pl (.tup (ws.map .str))&&jJ []))=true;rw[cz,mq D.str λ_=>rfl];rfl
noncomputable def Kd.srt:Kd->Str
 |.num _ _=>"number"
 |.wrd _=>"word"
noncomputable def Kd.ok:Kd->Prop
 |.num _ _=>True
 |.wrd ws=>ws.length<=100
noncomputable def Kd.bad:Kd->Bool
 |.num a b=>decide (b<a)
 |.wrd ws=>ws.isEmpty
noncomputable def qN:Kd->Kd->Kd
 |.num a b,.num x y=>.num (mx a x) (mn b y)
 |.wrd ws,.wrd us=>.wrd (ws.filter λw=>us.contains w)
 |k,_=>k
noncomputable def bo(k s:Kd):D:=if(qN k s).bad then .non else(qN k s).d
theorem E7:(("number":Str)==("word":Str))=false:=by decide +kernel
theorem Ki(k:Kd):ah k.d (.int 0)=some (.str k.srt):=by
 cases k with
 |num a b=>exact mE _ _
 |wrd ws=>exact mE _ _
theorem ym{k s:Kd}(h:k.srt=s.srt)(hk:k.ok):aG nJ 2 2 [k.d,s.d]=.ok (bo k s)/\aG cZ 2 2 [k.d,s.d]=.ok (qN k s).d:=by
 rw[cG,cG];unfold nJ cZ;cases k with
 |num a b=>
  cases s with
  |num x y=>
   have bn:aG d7 2 4 [.tup [.str "number",.int a,.int b],.tup [.str "number",.int x,.int y]]=.ok (bo (.num a b) (.num x y)):=by
    rw[cG];unfold d7;cases hd:decide (mx a x<=mn b y)with
    |true=>
     have e:bo (.num a b) (.num x y)=.tup [.str "number",.int (mx a x),.int (mn b y)]:=by
      unfold bo;rw[if_neg]
      ·rfl
      ·show¬decide (mn b y<mx a x)=true
       have:=of_decide_eq_true hd
       rw[decide_eq_false ‹0›];simp
     have l1:decide ((if x>a then x else a)<=(if y<b then y else b))=true:=hd;rw[e];simp! only[l1,Iq];rfl
    |false=>
     have e:bo (.num a b) (.num x y)=.non:=by
      unfold bo;rw[if_pos];show decide (mn b y<mx a x)=true
      have:=of_decide_eq_false hd
      exact decide_eq_true ‹0›
     have l1:decide ((if x>a then x else a)<=(if y<b then y else b))=false:=hd;rw[e];simp! only[l1]
   constructor
   ·simp! only[Kd.d,lN,bn]
   ·simp! only[Kd.d,lN,Iq];rfl
  |wrd us=>exact absurd (show(("number":Str))="word"from h) (by decide +kernel)
 |wrd ws=>
  cases s with
  |num x y=>exact absurd (show(("word":Str))="number"from h) (by decide +kernel)
  |wrd us=>
   have hk:ws.length<=100:=hk;have f0:∀tl:aj,du [none,some 1] (az (f2 ah (ae 0) (fC (.int 1)))) (gN 0) (fB (f2 oR (ae 0) (f2 ah (ae 1) (fC (.int 1))))) (ae 0) (‹.tup [.str "word",.tup (ws.map .str)]›::‹.tup [.str "word",.tup (us.map .str)]›::tl)=.ok (.lst ((ws.filter λw=>us.contains w).map .str)):=λtl=>by
    refine cm (ds:=ws.map .str) (by simp! only[]) (by rw[Pa];omega) ?_;refine gR D.str (λw=>us.contains w) D.str ws λw _=>⟨_,rfl,?_,rfl⟩
    simp! only[uo]
   have bw:aG fj 2 3 [.tup [.str "word",.tup (ws.map .str)],.tup [.str "word",.tup (us.map .str)]]=.ok (bo (.wrd ws) (.wrd us)):=by
    have f0:=f0 [none];rw[cG];unfold fj;cases q:(ws.filter λw=>us.contains w)with
    |nil=>
     rw[q]at f0;have e:bo (.wrd ws) (.wrd us)=.non:=by
      unfold bo;rw[if_pos];show(ws.filter λw=>us.contains w).isEmpty=true;rw[q];rfl
     rw[e];have n0:(([]:ay).map D.str)=[]:=rfl;rw[n0]at f0;simp! only[f0];rfl
    |cons a r=>
     rw[q]at f0;have e:bo (.wrd ws) (.wrd us)=.tup [.str "word",.tup ((a::r).map .str)]:=by
      unfold bo;rw[if_neg]
      ·show D.tup [.str "word",.tup ((ws.filter λw=>us.contains w).map .str)]=_;rw[q]
      ·show¬(ws.filter λw=>us.contains w).isEmpty=true;rw[q];simp
     have ne:((a::r).map D.str).isEmpty=false:=rfl;rw[e];generalize (a::r).map D.str=Z at f0 ne;simp! only[f0,ne,p3]
   constructor
   ·simp! only[Kd.d,nQ,lY,bw]
   ·have f0:=f0 [];simp! only[Kd.d,nQ,f0,p3];rfl
theorem yM:∀a b:ay,pyEqL (a.map .str) (b.map .str)=decide (a=b)
 |[],[]=>by unfold pyEqL;simp
 |[],_::_=>by rw[PF,O9];unfold pyEqL;simp
 |_::_,[]=>by rw[PF,O9];unfold pyEqL;simp
 |x::a,y::b=>by
  rw[O9,O9];unfold pyEqL;rw[yM a b]
  have:pyEq (.str x) (.str y)=(x==y):=by unfold pyEq;rfl
  rw[this,RF];simp
theorem Fo(a b:ay):mX (.lst (a.map .str)) (.lst (b.map .str))=some (.bl (!decide (a=b))):=by
 have e:mX (.lst (a.map .str)) (.lst (b.map .str))=if(pl (.lst (a.map .str))&&pl (.lst (b.map .str)))&&(cJ 8 (.lst (a.map .str))||cJ 8 (.lst (b.map .str)))then some (.bl (!pyEq (.lst (a.map .str)) (.lst (b.map .str))))else none:=rfl
 have d:cJ 8 (.lst (a.map .str))=true:=by
  show(a.map D.str).all (cJ 7)=true;rw[Qc];exact List.all_eq_true.mpr λ_ _=>rfl
 rw[e,dE,dE,mq D.str (λ_=>rfl) a,mq D.str (λ_=>rfl) b,d];show some (D.bl (!pyEq (.lst (a.map .str)) (.lst (b.map .str))))=_;rw[pyEq,yM]
noncomputable abbrev ZP:=(Str×Kd)×(Str×Kd)
structure Mt(c e:Kd):Prop where
 o1:c.ok
 o2:e.ok
 s:c.srt=e.srt
 b:(qN c e).bad=false
 b':(qN e c).bad=false
theorem Mt.gd{c e:Kd}(h:Mt c e):(qN c e).gd:=by
 have b:=h.b;have o:=h.o1;have s:=h.s;cases c with
 |num x y=>cases e with
  |num u v=>
   have b:decide (mn y v<mx x u)=false:=b;show mx x u<=mn y v
   have:=of_decide_eq_false b
   omega
  |wrd us=>cases s
 |wrd ws=>cases e with
  |num u v=>cases s
  |wrd us=>
   refine⟨λz=>?_,OQ (RC _ _) o⟩;have b:(ws.filter λw=>us.contains w).isEmpty=false:=b;rw[z]at b;cases b
theorem Mt.gds{c e:Kd}(h:Mt c e):c.gd/\e.gd/\(qN c e).b=c.b/\e.b=c.b:=by
 have b:=h.b;have o:=h.o1;have o2:=h.o2;have s:=h.s;cases c with
 |num x y=>cases e with
  |num u v=>
   have b:decide (mn y v<mx x u)=false:=b
   have:=of_decide_eq_false b
   unfold mn mx at this;refine⟨show x<=y from ?_,show u<=v from ?_,rfl,rfl⟩
   ·split at this<;>split at this<;>omega
   ·split at this<;>split at this<;>omega
  |wrd us=>cases s
 |wrd ws=>cases e with
  |num u v=>cases s
  |wrd us=>
   have b:(ws.filter λw=>us.contains w).isEmpty=false:=b;refine⟨⟨λz=>?_,o⟩,⟨λz=>?_,o2⟩,rfl,rfl⟩
   ·rw[z]at b;cases b
   ·have:(ws.filter λw=>us.contains w)=[]:=List.filter_eq_nil_iff.mpr λw _=>by rw[z];simp
    rw[this]at b;cases b
theorem xS{α:Type}(f g:α->D):∀L:List α,gG (L.map f) (L.map g)=L.map λz=>.tup [f z,g z]
 |[]=>rfl
 |a::L=>by
  rw[O9,O9,O9,<-xS f g L];rfl
noncomputable def bk(L:List ZP):KL:=L.map λz=>(z.1.1,qN z.1.2 z.2.2)
noncomputable abbrev k1(L:List ZP):KL:=L.map (·.1)
noncomputable abbrev k2(L:List ZP):KL:=L.map (·.2)
noncomputable abbrev Ok(L:List ZP):Prop:=∀z∈L,z.1.1=z.2.1/\Mt z.1.2 z.2.2
theorem vH{L:List ZP}(h:Ok L):∀p∈bk L,p.2.gd:=λp hp=>by
 obtain⟨z,hz,rfl⟩:=List.mem_map.mp hp;exact(h z hz).2.gd
theorem BG{α:Type}(f g:α->D)(t:List D):∀L:List α,gG (L.map f) (L.map g++t)=L.map λz=>.tup [f z,g z]
 |[]=>by cases t<;>rfl
 |a::L=>by
  rw[O9,O9,O9,<-BG f g t L];rfl
theorem K4{L:List ZP}(h:Ok L):∀p∈k1 L,p.2.gd:=λp hp=>by
 obtain⟨z,hz,rfl⟩:=List.mem_map.mp hp;exact(h z hz).2.gds.1
theorem Kf{L:List ZP}(h:Ok L):∀p∈k2 L,p.2.gd:=λp hp=>by
 obtain⟨z,hz,rfl⟩:=List.mem_map.mp hp;exact(h z hz).2.gds.2.1
noncomputable abbrev so(L:List ZP):bM:=(bk L).map (·.2.b)
theorem Ov{L:List ZP}(h:Ok L):(k1 L).map (·.2.b)=so L:=by
 unfold so bk;rw[QW,QW];exact Qj λz hz=>(h z hz).2.gds.2.2.1.symm
theorem Ot{L:List ZP}(h:Ok L):(k2 L).map (·.2.b)=so L:=by
 unfold so bk;rw[QW,QW];exact Qj λz hz=>by
  obtain⟨_,_,a,b⟩:=(h z hz).2.gds;exact b.trans a.symm
theorem cn(L:List ZP):(so L).length=L.length:=by unfold so bk;rw[Pa,Pa]
theorem qy{L:List ZP}(h:Ok L)(l8:L.length<=8)(t:KL)(a b:D):aG aZ 2 5 [.tup [.tup ((k1 L).map kf),a],.tup [.tup ((k2 L++t).map kf),b]]=.ok (.tup ((bk L).map kf)):=by
 have ze:rh [.tup ((k1 L).map kf),.tup ((k2 L++t).map kf)]=some (L.map λz=>.tup [kf z.1,kf z.2]):=by
  show some (gG ((k1 L).map kf) ((k2 L++t).map kf))=_;rw[QW,Qk,QW,BG];rfl
 obtain⟨T,hT⟩:∃T:bI,T=(eT 2 (aJ (fL bJ (aa (ae 2) af)))):=⟨_,rfl⟩
 rw[cG];unfold aZ;rw[<-hT];simp! only[Jn,ze];generalize hA:D.tup [.tup ((k1 L).map kf),a]=A;generalize hB:D.tup [.tup ((k2 L++t).map kf),b]=B;refine cy (Q:=λz=>z=.ok (.tup ((bk L).map kf))) (λi ρ=>ρ=[‹A›,‹B›,some (.own (.lst ((bk (L.take i)).map kf))),none,none]) ?_ rfl ?_
 ·rintro i d ρ kk hd rfl;have hi:=bu hd;rw[Pa]at hi;rw[Pr,Qd hi]at hd;cases hd;obtain⟨_,mt⟩:=h L[i] (QT hi);have ib:=(ym mt.s mt.o1).2;have ap:eG ((bk (L.take i)).map kf) [.tup [.str L[i].1.1,(qN L[i].1.2 L[i].2.2).d]]=some ((bk (L.take (i+1))).map kf):=by
   unfold bk;rw[jn (by rw[Pa,Pa,Pm];omega),RA hi,Qk,Qk];rfl
  refine⟨[‹A›,‹B›,some (.own (.lst ((bk (L.take i)).map kf))),‹kf L[i].1›,‹kf L[i].2›],_,rfl,rfl,?_⟩;have sm:=λK:Ks=>jq 2 eG (aa (bE (aa (f2 ah (ae 3) (fC (.int 0))) (aa (fR (aG cZ 2 2) (aa (f2 ah (ae 3) (fC (.int 1))) (aa (f2 ah (ae 4) (fC (.int 1))) af))) af))) af) K [‹A›,‹B›,some (.own (.lst ((bk (L.take i)).map kf))),‹kf L[i].1›,‹kf L[i].2›] (xs:=(bk (L.take i)).map kf) rfl;have j0:ah (kf L[i].1) (.int 0)=some (.str L[i].1.1):=rfl;have j1:ah (kf L[i].1) (.int 1)=some L[i].1.2.d:=rfl;have j2:ah (kf L[i].2) (.int 1)=some L[i].2.2.d:=rfl;generalize (bk (L.take (i+1))).map kf=Y at ap ⊢;generalize (bk (L.take i)).map kf=Z at ap sm ⊢;simp! only[sm,j0,j1,j2,ib,p3,ap]
 ·rintro ρ' rfl;rw[Pa,Rb (O1 _),hT];simp! only[]
theorem wK{α:Type}(f h:α->D)(L:List α)(ρ:aj)(G:bC)(Fe:FX)(hG:G ρ=.ok (L.map f))(hl:L.length<=1000)(hF:∀z∈L,Fe [‹f z›]=.ok (h z)):du [none] G (gN 0) bx Fe ρ=.ok (.lst (L.map h)):=
 cm hG (by rw[Pa];omega) (eJ f h L λz hz=>⟨[‹f z›],rfl,rfl,hF z hz⟩)
theorem yn(ws:ay):mX (.lst (ws.map .str)) (.lst (ws.map .str))=some (.bl false):=by
 rw[Fo,decide_eq_true rfl];rfl
theorem zT{L:List ZP}(h:Ok L)(l8:L.length<=8):aG fh 2 3 [.tup ((k1 L).map kf),.tup ((k2 L).map kf)]=.ok (.tup ((bk L).map kf)):=by
 have ze:rh [.tup ((k1 L).map kf),.tup ((k2 L).map kf)]=some (L.map λz=>.tup [kf z.1,kf z.2]):=by
  show some (gG ((k1 L).map kf) ((k2 L).map kf))=_;rw[QW,QW,xS];rfl
 rw[QW,QW]at ze ⊢;generalize hρ:[some (S.val (.tup (L.map (kf∘(·.1))))),‹.tup (L.map (kf∘(·.2)))›,none]=ρ;have f0:az (ae 0) ρ=.ok (L.map (kf∘(·.1))):=by rw[<-hρ];simp! only[]
 have f1:az (ae 1) ρ=.ok (L.map (kf∘(·.2))):=by rw[<-hρ];simp! only[]
 have nme:L.map (λz=>D.str z.2.1)=L.map (λz=>.str z.1.1):=Qj λz hz=>by rw[(h z hz).1]
 have sre:L.map (λz=>D.str z.2.2.srt)=L.map (λz=>.str z.1.2.srt):=Qj λz hz=>by rw[(h z hz).2.s]
 have n1:=wK _ (λz=>.str z.1.1) L ρ _ (f2 ah (ae 0) (fC (.int 0))) f0 ‹0› λz _=>rfl;have n2:=wK _ (λz=>.str z.2.1) L ρ _ (f2 ah (ae 0) (fC (.int 0))) f1 ‹0› λz _=>rfl;have s1:=wK _ (λz=>.str z.1.2.srt) L ρ _ (f2 ah (f2 ah (ae 0) (fC (.int 1))) (fC (.int 0))) f0 ‹0› λz _=>by
  have a:ah (kf z.1) (.int 1)=some z.1.2.d:=rfl;have b:=Ki z.1.2;simp! only[Function.comp_apply,a,b]
 have s2:=wK _ (λz=>.str z.2.2.srt) L ρ _ (f2 ah (f2 ah (ae 0) (fC (.int 1))) (fC (.int 0))) f1 ‹0› λz _=>by
  have a:ah (kf z.2) (.int 1)=some z.2.2.d:=rfl;have b:=Ki z.2.2;simp! only[Function.comp_apply,a,b]
 rw[nme]at n2;rw[sre]at s2;have ne:mX (.lst (L.map λz=>.str z.1.1)) (.lst (L.map λz=>.str z.1.1))=some (.bl false):=by
  have:=yn (L.map λz=>z.1.1)
  rwa [QW]at this
 have se:mX (.lst (L.map λz=>.str z.1.2.srt)) (.lst (L.map λz=>.str z.1.2.srt))=some (.bl false):=by
  have:=yn (L.map λz=>z.1.2.srt)
  rwa [QW]at this
 have kk:du [none,none] (oT (aa (ae 0) (aa (ae 1) af))) (gT 2 (jL [0,1])) bx (fR (aG nJ 2 2) (aa (f2 ah (ae 0) (fC (.int 1))) (aa (f2 ah (ae 1) (fC (.int 1))) af))) ρ=.ok (.lst (L.map λz=>(qN z.1.2 z.2.2).d)):=by
  refine cm (ds:=L.map λz=>.tup [kf z.1,kf z.2]) (by rw[<-hρ];simp! only[ze]) (by rw[Pa];omega) ?_;refine eJ (λz:ZP=>D.tup [kf z.1,kf z.2]) _ L λz hz=>⟨[‹kf z.1›,‹kf z.2›],by rw[<-hρ];rfl,rfl,?_⟩
  obtain⟨_,mt⟩:=h z hz;have ib:=(ym mt.s mt.o1).1;have b:=mt.b;unfold bo at ib;rw[b,if_neg O7]at ib;have j1:ah (kf z.1) (.int 1)=some z.1.2.d:=rfl;have j2:ah (kf z.2) (.int 1)=some z.2.2.d:=rfl;simp! only[j1,j2,ib]
 have inn:oR .non (.lst (L.map λz=>(qN z.1.2 z.2.2).d))=some (.bl false):=by
  show(if(pl .non&&jJ (L.map λz=>(qN z.1.2 z.2.2).d))&&cJ 8 .non then some (D.bl (inD .non (L.map λz=>(qN z.1.2 z.2.2).d)))else none)=_;rw[lK λx hx=>by
   obtain⟨z,_,rfl⟩:=List.mem_map.mp hx;exact K3 _]
  show some (D.bl (inD .non (L.map λz=>(qN z.1.2 z.2.2).d)))=_;congr 2;unfold inD;rw[QX];refine List.any_eq_false.mpr λz _=>?_
  have:pyEq (qN z.1.2 z.2.2).d .non=false:=by
   cases qN z.1.2 z.2.2 with
   |num _ _=>unfold Kd.d pyEq;rfl
   |wrd _=>unfold Kd.d pyEq;rfl
  rw[Function.comp_apply,this];exact O7
 have ze2:rh [.tup (L.map (kf∘(·.1))),.lst (L.map λz=>(qN z.1.2 z.2.2).d)]=some (L.map λz=>.tup [kf z.1,(qN z.1.2 z.2.2).d]):=by
  show some (gG _ _)=_;rw[xS];rfl
 have fi:du [none,none] (oT (aa (ae 0) (aa (ae 2) af))) (gT 2 (jL [0,1])) bx (bE (aa (f2 ah (ae 0) (fC (.int 0))) (aa (ae 1) af))) [‹.tup (L.map (kf∘(·.1)))›,‹.tup (L.map (kf∘(·.2)))›,‹.lst (L.map λz=>(qN z.1.2 z.2.2).d)›]=.ok (.lst ((bk L).map kf)):=by
  unfold bk;rw[QW];refine cm (ds:=L.map λz=>.tup [kf z.1,(qN z.1.2 z.2.2).d]) (by simp! only[ze2]) (by rw[Pa];omega) ?_;refine eJ (λz:ZP=>D.tup [kf z.1,(qN z.1.2 z.2.2).d]) _ L λz hz=>⟨[‹kf z.1›,‹(qN z.1.2 z.2.2).d›],rfl,rfl,?_⟩
  have k0:ah (kf z.1) (.int 0)=some (.str z.1.1):=rfl;simp! only[k0,p3];rfl
 rw[cG];unfold fh;rw[<-hρ]at n1 n2 s1 s2 kk;generalize (bk L).map kf=BK at fi ⊢;simp! only[n1,n2,ne,s1,s2,se,kk,inn,fi]
theorem wZ(x:Int):∃us:ay,us≠[]/\us.length<=8/\aG cO 1 6 [.int x]=.ok (.lst (us.map .str)):=by
 have g26:=gm 26;have d26:=gd 26;have LL:(("abcdefghijklmnopqrstuvwxyz":Str)).length=26:=by decide +kernel
 generalize hL:("abcdefghijklmnopqrstuvwxyz":Str)=L at LL;obtain⟨one,ho,e1⟩:=o3 L ‹0› (x%26) ‹0› ‹0›;obtain⟨oth,hq,e2⟩:=o3 L ‹0› (x/26%26) ‹0› ‹0›;have a1:=gb one oth ‹0› ‹0›;have a2:=gb oth one ‹0› ‹0›;have a3:=gb one one ‹0› ‹0›;have m1:=CZ (x:=one) (n:=8) (by decide) (by decide) ‹0›;have m2:=CZ (x:=oth) (n:=3) (by decide) (by decide) ‹0›;generalize hW:[D.str "",.str one,.str oth,.str (one++oth),.str (oth++one),.str (iR one 8),.str (one++one),.str (iR oth 3)]=W;have W8:W.length=8:=by rw[<-hW];rfl
 have Ws:∀d∈W,∃w:Str,d=.str w:=by
  rw[<-hW];intro d hd;simp only[Qv,Rz,or_false]at hd;rcases hd with rfl|rfl|rfl|rfl|rfl|rfl|rfl|rfl<;>exact⟨_,rfl⟩
 have mW:jK W=some (.lst W):=B1 ‹0›;obtain⟨T,hT⟩:∃T:bI,T=(eT 4 (aJ (fL eA (aa (fL jy (aa (ae 4) af)) af)))):=⟨_,rfl⟩
 rw[lH];unfold cO;rw[<-hT];simp! only[hL,g26,e1,d26,e2,pA,a1,a2,a3,m1,m2,hW,mW];refine cy (Q:=λz=>∃us:ay,us≠[]/\us.length<=8/\z=.ok (.lst (us.map .str))) (λi ρ=>∃ws:ay,ws.Nodup/\ws.length<=i/\(0<i->ws≠[])/\ρ=[none,none,‹.str one›,‹.str oth›,some (.own (wd ws)),none]) ?_ ⟨[],PR,O1 _,λh=>by omega,rfl⟩ ?_
 ·rintro i d ρ kk hd ⟨ws,nd,hl,hn,rfl⟩;have hi:=bu hd;obtain⟨w,rfl⟩:=Ws d (Pu hd);have pn:n5 ws w≠[]:=by
   unfold n5;split
   ·rename_i h;intro z;rw[z]at h;simp at h
   ·simp
  refine⟨_,_,rfl,⟨n5 ws w,t7 w nd,by have:=qi ws w;omega,λ_=>pn,rfl⟩,?_⟩;have pk:=λk:Ks=>ut (i:=4) (fk:=ae 5) (fv:=fC (.bl true)) (k:=k) (ρ:=[none,none,‹.str one›,‹.str oth›,some (.own (wd ws)),‹.str w›]) (al:=yS ws) (q:=.inr w) (d:=.str w) (v:=.bl true) rfl rfl rfl rfl (by simp;omega);simp! only[pk,xG]
 ·rintro ρ' ⟨ws,nd,hl,hn,rfl⟩;rw[W8]at hl hn;obtain⟨us,eu,pu⟩:=GO ws nd ‹0›;refine⟨us,λz=>hn (by decide) (by rw[z]at pu;exact pu.symm.eq_nil),by rw[pu.length_eq];exact hl,?_⟩;rw[hT];simp! only[uX,eu]
theorem vh:∀(us:ay)(i:Nat),jF i (us.map .str)=(us.zipIdx i).map λp=>.tup [.int (p.2:Int),.str p.1]
 |[],_=>rfl
 |u::us,i=>by
  rw[O9,jF,vh us (i+1),Qu,O9]
theorem Mt.swap{c e:Kd}(h:Mt c e):Mt e c:=⟨h.o2,h.o1,h.s.symm,h.b',h.b⟩
theorem Ji{lo w f g:Int}(h1:0<=f)(h2:f<=w)(h3:0<=g):Mt (.num lo (lo+w)) (.num (lo+f) (lo+f+g)):=by
 refine⟨trivial,trivial,rfl,?_,?_⟩
 ·show decide (mn (lo+w) (lo+f+g)<mx lo (lo+f))=false;refine decide_eq_false ?_;unfold mn mx;split<;>split<;>omega
 ·show decide (mn (lo+f+g) (lo+w)<mx (lo+f) lo)=false;refine decide_eq_false ?_;unfold mn mx;split<;>split<;>omega
theorem HY{a b:ay}{w:Str}(h1:w∈a)(h2:w∈b)(l1:a.length<=100)(l2:b.length<=100):Mt (.wrd a) (.wrd b):=by
 refine⟨l1,l2,rfl,?_,?_⟩
 ·show(a.filter λw=>b.contains w).isEmpty=false
  have:w∈a.filter λw=>b.contains w:=List.mem_filter.mpr ⟨h1,by simpa using h2⟩
  cases h:a.filter λw=>b.contains w with
  |nil=>rw[h]at this;cases this
  |cons _ _=>rfl
 ·show(b.filter λw=>a.contains w).isEmpty=false
  have:w∈b.filter λw=>a.contains w:=List.mem_filter.mpr ⟨h2,by simpa using h1⟩
  cases h:b.filter λw=>a.contains w with
  |nil=>rw[h]at this;cases this
  |cons _ _=>rfl
theorem FP(a b c d i:Int)(h0:0<=i)(h1:i<4):∃x:Int,(x=a\/x=b\/x=c\/x=d)/\ah (.lst [.int a,.int b,.int c,.int d]) (.int i)=some (.int x):=by
 rcases(show i=0\/i=1\/i=2\/i=3 by omega)with z|z|z|z<;>subst z
 ·exact⟨a,by simp,rfl⟩
 ·exact⟨b,by simp,rfl⟩
 ·exact⟨c,by simp,rfl⟩
 ·exact⟨d,by simp,rfl⟩
noncomputable def bit(y m:Int)(j:Nat):Bool:=Builtin.bitAnd (y/m/2^j) 1==1
theorem yK(us:ay)(hl:us.length<=8)(sp:Str)(hs:sp∈us)(y m:Int)(h0:0<m)(h1:m<10^200)(x0 x2 x3 x4 x5 x6:Option S):∃ws:ay,ws.length<=8/\sp∈ws/\du [none,none,some 8,some 1] (fU (aa (ae 7) af)) (gT 2 (jL [0,1])) (xr (fB (f2 gx (ae 1) (ae 2))) (fB (f2 gx (f2 oP (f2 uV (f2 b8 (ae 3) (fC (.int m))) (ae 0)) (fC (.int 1))) (fC (.int 1))))) (ae 1) [x0,‹.int y›,x2,x3,x4,x5,x6,‹.lst (us.map .str)›,‹.str sp›]=.ok (.lst (ws.map .str)):=by
 have dm:=λi=>jW (i:=i) h0 h1;have en:sR [.lst (us.map .str)]=some ((us.zipIdx 0).map λp=>.tup [.int (p.2:Int),.str p.1]):=by
  show some (jF 0 (us.map .str))=_;rw[vh]
 refine⟨((us.zipIdx 0).filter λp=>(p.1==sp)||bit y m p.2).map (·.1),?_,?_,?_⟩
 ·rw[Pa];refine OQ (RC _ _) ?_;rw[RG];exact hl
 ·obtain⟨j,hj,e⟩:=Qh hs;refine List.mem_map.mpr ⟨(sp,j),List.mem_filter.mpr ⟨?_,by simp⟩,rfl⟩;rw[List.mem_iff_getElem?];refine⟨j,?_⟩;rw[List.getElem?_zipIdx,Qd hj,e];simp
 ·refine cm (ds:=(us.zipIdx 0).map λp=>.tup [.int (p.2:Int),.str p.1]) (by simp! only[en]) (by rw[Pa,RG];omega) ?_;refine Eq.trans (gR (ρ:=[none,none,‹.str sp›,‹.int y›]) (g:=gT 2 (jL [0,1])) (λp:Str×Nat=>D.tup [.int (p.2:Int),.str p.1]) (λp=>(p.1==sp)||bit y m p.2) (D.str∘λp:Str×Nat=>p.1) (us.zipIdx 0) λp _=>⟨[‹.int (p.2:Int)›,‹.str p.1›,‹.str sp›,‹.int y›],rfl,?_,?_⟩) (by rw[QW])
  ·have sh:=BJ (y/m) p.2;unfold bit;cases h:(p.1==sp)<;>simp! only[h,dm,sh,tT,PK,PL]
  ·simp! only[];rfl
theorem tU(x:Int)(h0:0<=x)(h1:x<2147483700):∃c e:Kd,Mt c e/\aG de 1 9 [.int x]=.ok (.tup [c.d,e.d]):=by
 obtain⟨y,y0,y1,ey⟩:=eK x h0 h1;have g2:=gm 2;have g3:=gm 3;have g4:=gm 4;have d3:=gd 3;have d12:=gd 12;have d48:=gd 48;have d200:=gd 200;have p7:iy (.int y) (.int 7)=some (.int (y^7)):=ua y 7 (by decide) ‹0›;have pb:=GI;have gp:=λi=>dQ (i:=i) (show(0:Int)<zx by omega);obtain⟨lo,_,e1⟩:=FP 0 (-3) (0-y^7%zx) (y^7%zx) (x/3%4) ‹0› ‹0›;obtain⟨wd',hw,e2⟩:=FP 0 1 6 zx (x/12%4) ‹0› ‹0›;obtain⟨ex,hx,e3⟩:=FP 0 2 9 zx (x/48%4) ‹0› ‹0›;have w0:0<=wd':=by omega
 have x0:0<=ex:=by omega
 have gw:=λi=>dQ (i:=i) (show(0:Int)<wd'+1 by omega);have f0:=Rt (y^7) (show wd'+1≠0 by omega);have f1:=Ru (y^7) (show 0<wd'+1 by omega);obtain⟨T,hT⟩:∃T:bI,T=(ai (eQ (fB (f2 gx (f2 bG (f2 b8 (ae 0) (fC (.int 200))) (fC (.int 2))) (fC (.int 1)))) (aJ (bE (aa (ae 6) (aa (ae 5) af)))) aV) (aJ (bE (aa (ae 5) (aa (ae 6) af))))):=⟨_,rfl⟩
 have fin:∀(c e:Kd)(x1 x2 x3 x4 x7 x8:Option S),Mt c e->∃c' e':Kd,Mt c' e'/\T K0 [‹.int x›,x1,x2,x3,x4,‹c.d›,‹e.d›,x7,x8]=.ok (.tup [c'.d,e'.d]):=λc e x1 x2 x3 x4 x7 x8 m=>by
  rw[hT];cases hb:(x/200%2==1)with
  |true=>exact⟨e,c,m.swap,by simp! only[d200,g2,hb,p3]⟩
  |false=>exact⟨c,e,m,by simp! only[d200,g2,hb,p3]⟩
 rw[lH];unfold de;rw[<-hT];simp only[K0]at fin;cases h3:(x%3==2)with
 |false=>
  obtain⟨c',e',m,e⟩:=fin (.num lo (lo+wd')) (.num (lo+y^7%(wd'+1)) (lo+y^7%(wd'+1)+ex)) (‹.int y›) (‹.int lo›) (‹.int wd'›) (‹.int (y^7%(wd'+1))›) none none (Ji f0 ‹0› x0);unfold Kd.d at e;refine⟨c',e',m,?_⟩;refine Eq.trans ?_ e;simp! only[ey,p7,xc,gp,J2,d3,g4,e1,d12,e2,gw,Iq,d48,e3,g3,h3]
 |true=>
  obtain⟨us,u1,u2,eu⟩:=wZ (x/3);have ul:0<us.length:=by
   cases us with
   |nil=>exact absurd rfl u1
   |cons _ _=>simp
  have gu:=λi=>dQ (i:=i) (show(0:Int)<(us.length:Int)by omega);have q1:=Rt y (show(us.length:Int)≠0 by omega);have q2:=Ru y (show(0:Int)<(us.length:Int)by omega);obtain⟨sp,hs,es⟩:∃sp∈us,ah (.lst (us.map .str)) (.int (y%(us.length:Int)))=some (.str sp):=by
   refine⟨us[(y%(us.length:Int)).toNat]'‹0›,QT _,?_⟩;rw[EA,pp,jD q1 q2];rfl
  obtain⟨A,a1,a2,ea⟩:=yK us u2 sp hs y 9 (by decide) (by decide) (‹.int x›) (‹.int lo›) (‹.int wd'›) (‹.int (y^7%(wd'+1))›) (‹.tup [.str "number",.int lo,.int (lo+wd')]›) (‹.tup [.str "number",.int (lo+y^7%(wd'+1)),.int (lo+y^7%(wd'+1)+ex)]›);obtain⟨B,b1,b2,eb⟩:=yK us u2 sp hs y 3000 (by decide) (by decide) (‹.int x›) (‹.int lo›) (‹.int wd'›) (‹.int (y^7%(wd'+1))›) (‹.tup [.str "word",.tup (A.map .str)]›) (‹.tup [.str "number",.int (lo+y^7%(wd'+1)),.int (lo+y^7%(wd'+1)+ex)]›);obtain⟨c',e',m,e⟩:=fin (.wrd A) (.wrd B) (‹.int y›) (‹.int lo›) (‹.int wd'›) (‹.int (y^7%(wd'+1))›) (‹.lst (us.map .str)›) (‹.str sp›) (HY a2 b2 ‹0› ‹0›);unfold Kd.d at e;refine⟨c',e',m,?_⟩;refine Eq.trans ?_ e;simp! only[ey,p7,xc,gp,J2,d3,g4,e1,d12,e2,gw,Iq,d48,e3,g3,h3,eu,Pa,gu,es,ea,eb,p3]
theorem uL(x b:Int)(m:Nat)(h0:0<=x)(h1:x<2147483700)(hb:0<=b)(hm:m<=8):∃L:List ZP,L.length=m/\(∀q∈L,q.1.1=q.2.1/\Mt q.1.2 q.2.2/\∃j:Nat,j<m/\uQ b j q.1.1)/\aG dM 3 7 [.int x,.int b,.int m]=.ok (.tup [.tup ((L.map (·.1)).map kf),.tup ((L.map (·.2)).map kf)]):=by
 have rn:=i9 m ‹0›;obtain⟨T,hT⟩:∃T:bI,T=(eT 4 (eT 3 (aJ (bE (aa (fL bJ (aa (ae 3) af)) (aa (fL bJ (aa (ae 4) af)) af)))))):=⟨_,rfl⟩
 rw[jS];unfold dM;rw[<-hT];simp! only[Jn,rn];refine cy (Q:=λz=>∃L:List ZP,L.length=m/\(∀q∈L,q.1.1=q.2.1/\Mt q.1.2 q.2.2/\∃j:Nat,j<m/\uQ b j q.1.1)/\z=.ok (.tup [.tup ((L.map (·.1)).map kf),.tup ((L.map (·.2)).map kf)]))
  (λi ρ=>∃(y:Int)(L:List ZP),0<=y/\y<2147483700/\L.length=i/\(∀q∈L,q.1.1=q.2.1/\Mt q.1.2 q.2.2/\∃j:Nat,j<m/\uQ b j q.1.1)/\ρ=[‹.int y›,‹.int b›,‹.int m›,some (.own (.lst ((L.map (·.1)).map kf))),some (.own (.lst ((L.map (·.2)).map kf))),none,none]) ?_ ⟨x,[],h0,h1,rfl,(λ_ h=>nomatch h),rfl⟩ ?_
 ·rintro i d ρ kk hd ⟨y,L,y0,y1,ll,hq,rfl⟩;have hi:=bu hd;rw[bU]at hi;have hdi:d=.int (i:Int):=by
   rw[fK,Pr,Qo hi]at hd;cases hd;simp
  subst hdi;obtain⟨y',y0',y1',ey⟩:=eK y y0 y1;obtain⟨c,e,mt,ek⟩:=tU y' y0' ‹0›;obtain⟨nm,en,hnm⟩:=pE b (i:Int) hb ‹0›;have i0:ah (.tup [c.d,e.d]) (.int 0)=some c.d:=mE _ _;have i1:ah (.tup [c.d,e.d]) (.int 1)=some e.d:=rfl;have ap1:eG ((L.map (·.1)).map kf) [.tup [.str nm,c.d]]=some (((L++[((nm,c),(nm,e))]).map (·.1)).map kf):=by
   rw[jn (by rw[Pa,Pa];omega),Qk,Qk];rfl
  have ap2:eG ((L.map (·.2)).map kf) [.tup [.str nm,e.d]]=some (((L++[((nm,c),(nm,e))]).map (·.2)).map kf):=by
   rw[jn (by rw[Pa,Pa];omega),Qk,Qk];rfl
  refine⟨_,_,rfl,⟨y',L++[((nm,c),(nm,e))],y0',by omega,by rw[Pw,PC];omega,λq hm=>?_,rfl⟩,?_⟩
  ·rcases List.mem_append.mp hm with z|z
   ·exact hq q z
   ·rw[List.mem_singleton.mp z];exact⟨rfl,mt,i,hi,hnm⟩
  ·generalize ((L++[((nm,c),(nm,e))]).map (·.1)).map kf=Y1 at ap1 ⊢;generalize ((L++[((nm,c),(nm,e))]).map (·.2)).map kf=Y2 at ap2 ⊢;generalize (L.map (·.1)).map kf=Z1 at ap1 ⊢;generalize (L.map (·.2)).map kf=Z2 at ap2 ⊢;have sm1:=λK:Ks=>jq 3 eG (aa (bE (aa (fR (aG bN 2 7) (aa (ae 1) (aa (ae 5) af))) (aa (f2 ah (ae 6) (fC (.int 0))) af))) af) K [‹.int y'›,‹.int b›,‹.int m›,some (.own (.lst Z1)),some (.own (.lst Z2)),‹.int i›,‹.tup [c.d,e.d]›] (xs:=Z1) rfl;have sm2:=λK:Ks=>jq 4 eG (aa (bE (aa (fR (aG bN 2 7) (aa (ae 1) (aa (ae 5) af))) (aa (f2 ah (ae 6) (fC (.int 1))) af))) af) K [‹.int y'›,‹.int b›,‹.int m›,some (.own (.lst Y1)),some (.own (.lst Z2)),‹.int i›,‹.tup [c.d,e.d]›] (xs:=Z2) rfl;simp! only[ey,ek,sm1,en,i0,p3,ap1,sm2,i1,ap2]
 ·rintro ρ' ⟨y,L,y0,y1,ll,hq,rfl⟩;rw[bU]at ll;refine⟨L,ll,hq,?_⟩;rw[hT];simp! only[p3]
theorem NI(a b c d e f g h:D)(i:Int)(h0:0<=i)(h1:i<8):∃x∈[a,b,c,d,e,f,g,h],ah (.lst [a,b,c,d,e,f,g,h]) (.int i)=some x:=by
 rcases(show i=0\/i=1\/i=2\/i=3\/i=4\/i=5\/i=6\/i=7 by omega)with z|z|z|z|z|z|z|z<;>subst z
 ·exact⟨a,by simp,rfl⟩
 ·exact⟨b,by simp,rfl⟩
 ·exact⟨c,by simp,rfl⟩
 ·exact⟨d,by simp,rfl⟩
 ·exact⟨e,by simp,rfl⟩
 ·exact⟨f,by simp,rfl⟩
 ·exact⟨g,by simp,rfl⟩
 ·exact⟨h,by simp,rfl⟩
noncomputable def Kr(b:Int)(ws:ay):Prop:=∀w∈ws,∃j:Nat,j<22/\uQ b j w
theorem Ef{b:Int}{ws:ay}(h:Kr b ws){w:Str}{i:Nat}(h1:22<=i)(h2:i<24)(hw:uQ b i w):w∉ws:=λz=>by
 obtain⟨j,hj,q⟩:=h w z
 have:=Gj ‹0› ‹0› ‹0› ‹0› hw q
 omega
theorem Eg{b:Int}{a c:ay}(h1:Kr b a)(h2:Kr b c):Kr b (a++c):=λw hw=>by
 rcases List.mem_append.mp hw with z|z
 ·exact h1 w z
 ·exact h2 w z
theorem Dw(ρ:aj)(G:bC)(L:fu)(hG:G ρ=.ok (L.map fld))(hl:L.length<=100):du [none,none] G (gT 2 (jL [0,1])) bx (ae 0) ρ=.ok (.lst ((L.map (·.1)).map .str)):=by
 refine cm (ds:=L.map fld) hG (by rw[Pa];omega) ?_;rw[QW];refine eJ _ _ _ λp _=>⟨_,rfl,rfl,?_⟩
 simp! only[];rfl
noncomputable def nms(k:KL)(r:fu):ay:=k.map (·.1)++r.map (·.1)
theorem BF{k:KL}{r:fu}(k8:k.length<=8)(r8:r.length<=8)(ρ:aj)(G:bC)(hG:G ρ=.ok (k.map kf++r.map fld)):du [none,none] G (gT 2 (jL [0,1])) bx (ae 0) ρ=.ok (.lst ((nms k r).map .str)):=by
 have em:k.map kf++r.map fld=(k.map toD++r).map fld:=by rw[Qk,qx]
 rw[em]at hG;have lc:=Dw ρ G (k.map toD++r) hG (by rw[Pw,Pa];omega);have en:(k.map toD++r).map (·.1)=nms k r:=by
  unfold nms;rw[Qk,QW];rfl
 rw[en]at lc;exact lc
theorem HE(ws:ay)(h:ws≠[])(x:Int):∃w∈ws,ah (.lst (ws.map .str)) (.int (x%(ws.length:Int)))=some (.str w):=by
 have ul:0<ws.length:=List.length_pos_iff.mpr h;have q1:=Rt x (show(ws.length:Int)≠0 by omega);have q2:=Ru x (show(0:Int)<(ws.length:Int)by omega);refine⟨ws[(x%(ws.length:Int)).toNat]'‹0›,QT _,?_⟩;rw[EA,pp,jD q1 q2];rfl
theorem yu(w:Str)(ws:ay):dH (.str w) (.lst (ws.map .str))=some (.bl (!ws.contains w)):=by
 have e:=DX w ws;have e1:oR (.str w) (.lst (ws.map .str))=if(pl (.str w)&&jJ (ws.map .str))&&cJ 8 (.str w)then some (.bl (inD (.str w) (ws.map .str)))else none:=rfl
 have e2:dH (.str w) (.lst (ws.map .str))=if(pl (.str w)&&jJ (ws.map .str))&&cJ 8 (.str w)then some (.bl (!inD (.str w) (ws.map .str)))else none:=rfl
 rw[e1]at e;rw[e2];split at e
 ·rename_i z;rw[if_pos z];injection e with e;injection e with e;rw[e]
 ·cases e
theorem l2(a b:D):jK [a,b]=some (.lst [a,b]):=nr rfl
theorem M7(x e:Int)(e1:1<=e)(e8:e<=8):∃m:Nat,1<=m/\m<=8/\(m:Int)<=max 3 e/\ah (.lst [.int 1,.int 2,.int 1,.int 3,.int 2,.int 1,.int 2,.int e]) (.int (x%8))=some (.int (m:Int)):=by
 obtain⟨d,hd,ed⟩:=NI (.int 1) (.int 2) (.int 1) (.int 3) (.int 2) (.int 1) (.int 2) (.int e) (x%8) ‹0› ‹0›;obtain⟨m,rfl,h⟩:∃m:Nat,d=.int (m:Int)/\1<=m/\m<=8/\(m:Int)<=max 3 e:=by
  simp only[Qv,Rz,or_false]at hd;rcases hd with rfl|rfl|rfl|rfl|rfl|rfl|rfl|rfl
  ·exact⟨1,rfl,by omega⟩
  ·exact⟨2,rfl,by omega⟩
  ·exact⟨1,rfl,by omega⟩
  ·exact⟨3,rfl,by omega⟩
  ·exact⟨2,rfl,by omega⟩
  ·exact⟨1,rfl,by omega⟩
  ·exact⟨2,rfl,by omega⟩
  ·exact⟨e.toNat,by congr 1;omega,by omega⟩
 exact⟨m,h.1,h.2.1,h.2.2,ed⟩
theorem Kp(x:Int):∃dp:Nat,dp<=2/\ah (.lst [.int 0,.int 0,.int 1,.int 2]) (.int (x%4))=some (.int (dp:Int)):=by
 obtain⟨z,hz,ez⟩:=FP 0 0 1 2 (x%4) ‹0› ‹0›;rcases hz with rfl|rfl|rfl|rfl
 ·exact⟨0,by decide,ez⟩
 ·exact⟨0,by decide,ez⟩
 ·exact⟨1,by decide,ez⟩
 ·exact⟨2,by decide,ez⟩
theorem zm(dp:Nat)(hd:dp<=2)(x b st:Int)(r:Nat)(h0:0<=x)(h1:x<2147483700)(hb:0<=b)(hs:0<=st)(hr:r<=8):∃qs:fu,aP 12 [.int x,.int b,.int st,.int 0,.int r,.int dp]=.ok (.tup [.tup [],.tup (qs.map fld)])/\qs.length=r/\(∀q∈qs,KG dp q.2)/\∀(j:Nat)(w:Str),(qs.map (·.1))[j]?=some w->uQ b (st+(j:Int)) w:=by
 obtain⟨ks,qs,e,k0,ql,_,hq,nm⟩:=yp dp ‹0› x b st 0 r h0 h1 hb hs ‹0› hr
 have:=List.length_eq_zero_iff.mp k0
 subst this;exact⟨qs,e,ql,hq,nm⟩
theorem t0(a b:D):ah (.tup [a,b]) (.int 0)=some a:=rfl
theorem t1(a b:D):ah (.tup [a,b]) (.int 1)=some b:=rfl
structure Gd(b:Int)(L:List ZP)(t:KL)(r q:fu)(n:Nat):Prop where
 l1:1<=L.length
 t1:1<=t.length
 l8:L.length+t.length<=8
 r8:r.length<=7
 q8:q.length<=8
 ok:Ok L
 tg:∀p∈t,p.2.gd
 n2:n<=2
 hr:∀f∈r,KG n f.2
 hq:∀f∈q,KG n f.2
 nm:Kr b (nms (k1 L) r)
theorem vL(ns:List Int):∃(b:Int)(L:List ZP)(t:KL)(r q:fu)(n:Nat),0<=b/\ns.getD 1 0*48271%2147483647=b/\Gd b L t r q n/\aG bY 1 10 [.lst (ns.map .int)]=.ok (.tup [fr (k1 L) r,fr (k2 L++t) q]):=by
 obtain⟨x,x0,x1,ex⟩:=o6 ns 0 ‹0›;have e1:aG b9 2 2 [.lst (ns.map .int),.int 1]=.ok (.int (ns.getD 1 0)):=uD ns 1;have ex:aG cC 2 3 [.lst (ns.map .int),.int 0]=.ok (.int x):=ex;have mm:=λi=>mh (i:=i) (j:=48271) (by decide) (by decide);have gM:=gm 2147483647;have g2:=gm 2;have g4:=gm 4;have g7:=gm 7;have g8:=gm 8;have d8:=gd 8;have d32:=gd 32;have d64:=gd 64;have d512:=gd 512;have d2048:=gd 2048;have d4096:=gd 4096;have d16384:=gd 16384;obtain⟨b,hb,b0⟩:∃b:Int,ns.getD 1 0*48271%2147483647=b/\0<=b:=⟨_,rfl,Rt _ (by decide)⟩
 generalize ns.getD 1 0=c1 at e1 hb;obtain⟨y,y0,y1,ey⟩:=eK x x0 ‹0›;obtain⟨m,m1,_,m7,em⟩:=M7 x (1+x/64%7) ‹0› ‹0›;obtain⟨L,ll,hq,ek⟩:=uL y b m y0 ‹0› b0 ‹0›;obtain⟨dp,dp2,ed⟩:=Kp (x/8);obtain⟨st,s8,s15,es⟩:∃st:Nat,8<=st/\st<=15/\ah (.lst [.int 8,.int 15]) (.int (x/2048%2))=some (.int (st:Int)):=by
  rcases(show x/2048%2=0\/x/2048%2=1 by omega)with z|z<;>rw[z]
  ·exact⟨8,by decide,by decide,rfl⟩
  ·exact⟨15,by decide,by decide,rfl⟩
 have mi:gZ [.int 3,.int (8-(m:Int))]=some (.int (if 8-(m:Int)<3 then 8-(m:Int)else 3)):=hU _ _;generalize hmn:(if 8-(m:Int)<3 then 8-(m:Int)else 3)=mv at mi;have mv1:1<=mv/\mv<=3/\(m:Int)+mv<=8:=by rw[<-hmn];split<;>omega
 have gv:=λi=>dQ (i:=i) (show(0:Int)<mv by omega);have w1:=Rt (x/4096) (show mv≠0 by omega);have w2:=Ru (x/4096) (show 0<mv by omega);obtain⟨wi,hw,wl⟩:∃wi:Nat,1+x/4096%mv=(wi:Int)/\1<=wi/\m+wi<=8:=⟨(1+x/4096%mv).toNat,by omega,by omega,by omega⟩
 obtain⟨mo,hmo,mol⟩:∃mo:Nat,x/16384%4=(mo:Int)/\mo<=3:=⟨(x/16384%4).toNat,by omega,by omega⟩
 obtain⟨T,hT⟩:∃T:bI,T=(ai (aM 7 (f2 ah (fR (aP 12) (aa (f2 aX (fR (aG aN 1 1) (aa (ae 1) af)) (fC (.int 1))) (aa (ae 2) (aa (fC (.int 8)) (aa (fC (.int 0)) (aa (ae 6) (aa (ae 5) af))))))) (fC (.int 1)))) (ai (aM 8 (f2 aX (fC (.int 1)) (f2 bG (f2 b8 (ae 1) (fC (.int 4096))) (fL gZ (aa (fC (.int 3)) (aa (f2 qP (fC (.int 8)) (ae 3)) af)))))) (ai (aM 9 (fR (aP 12) (aa (f2 aX (fR (aG aN 1 1) (aa (ae 1) af)) (fC (.int 2))) (aa (ae 2) (aa (f2 ah (fm (aa (fC (.int 8)) (aa (fC (.int 15)) af))) (f2 bG (f2 b8 (ae 1) (fC (.int 2048))) (fC (.int 2)))) (aa (ae 8) (aa (f2 bG (f2 b8 (ae 1) (fC (.int 16384))) (fC (.int 4))) (aa (ae 5) af)))))))) (aJ (bE (aa (bE (aa (f2 ah (ae 4) (fC (.int 0))) (aa (ae 7) af))) (aa (bE (aa (f2 aX (f2 ah (ae 4) (fC (.int 1))) (f2 ah (ae 9) (fC (.int 0)))) (aa (f2 ah (ae 9) (fC (.int 1))) af))) af))))))):=⟨_,rfl⟩
 have fin:∀(u dp:Nat)(k6 k5:D),u<=7->dp<=2->k6=.int u->k5=.int dp->∃(t:KL)(r q:fu),Gd b L t r q dp/\T K0 [‹.lst (ns.map .int)›,‹.int x›,‹.int b›,‹.int m›,‹.tup [.tup ((L.map (·.1)).map kf),.tup ((L.map (·.2)).map kf)]›,‹k5›,‹k6›,none,none,none]=.ok (.tup [fr (k1 L) r,fr (k2 L++t) q]):=λu dp k6 k5 h1 h2 e6 e5=>by
  subst e6 e5;obtain⟨r,er,rl,hr,nr'⟩:=zm dp h2 (y+1) b 8 u ‹0› ‹0› b0 ‹0› ‹0›;obtain⟨t,q,eq,tl,ql,tg,hq',_⟩:=yp dp ‹0› (y+2) b st wi mo ‹0› ‹0› b0 ‹0› ‹0› ‹0›;refine⟨t,r,q,⟨by omega,by omega,by omega,by omega,by omega,λz hz=>⟨(hq z hz).1,(hq z hz).2.1⟩,tg,h2,hr,hq',Eg (λw hw=>?_) λw hw=>?_⟩,?_⟩
  ·obtain⟨p,hp,rfl⟩:=List.mem_map.mp hw;obtain⟨z,hz,rfl⟩:=List.mem_map.mp hp;obtain⟨j,hj,q⟩:=(hq z hz).2.2;exact⟨j,by omega,q⟩
  ·obtain⟨j,hj,ej⟩:=Qh hw;have h:=nr' j w (by rw[Qd hj,ej]);rw[Pa]at hj;refine⟨8+j,by omega,?_⟩;rw[show((8+j:Nat):Int)=8+(j:Int)by omega];exact h
  ·have ad:=cR ((L.map (·.2)).map kf) (t.map kf) (by rw[Pa,Pa,Pa];omega);rw[<-Qk]at ad;rw[hT];simp! only[ey,er,t0,t1,d4096,mi,gv,hw,d2048,g2,l2,es,d16384,g4,hmo,eq,ad,p3]
 rw[lH];unfold bY;rw[<-hT];simp only[K0]at fin;cases h3:(x/32%8==3)with
 |true=>
  obtain⟨t,r,q,F,e⟩:=fin (x/512%8).toNat 0 (.int (x/512%8)) (.int 0) ‹0› (by decide) (by rw[RH ‹0›]) rfl;refine⟨b,L,t,r,q,0,b0,hb,F,Eq.trans ?_ e⟩;simp! only[ex,e1,mm,gM,hb,ey,d64,g7,g8,Nq,em,ek,d8,g4,J2,ed,d512,d32,h3]
 |false=>
  obtain⟨t,r,q,F,e⟩:=fin (x/512%4).toNat dp (.int (x/512%4)) (.int dp) ‹0› dp2 (by rw[RH ‹0›]) rfl;refine⟨b,L,t,r,q,dp,b0,hb,F,Eq.trans ?_ e⟩;simp! only[ex,e1,mm,gM,hb,ey,d64,g7,g8,Nq,em,ek,d8,g4,J2,ed,d512,d32,h3]
theorem tR(ns:List Int){b:Int}(b0:0<=b)(hb:ns.getD 1 0*48271%2147483647=b){L:List ZP}{t:KL}{r q:fu}{n:Nat}(g:Gd b L t r q n):∃nm:Str,nm∉nms (k1 L) r/\aG bR 3 7 [fr (k1 L) r,fr (k2 L++t) q,.lst (ns.map .int)]=.ok (.str nm):=by
 obtain⟨s,s0,s1,es⟩:=o6 ns 1 ‹0›;have es:aG cC 2 3 [.lst (ns.map .int),.int 1]=.ok (.int s):=es;obtain⟨y,y0,y1,ey⟩:=eK s s0 ‹0›;have e1:aG b9 2 2 [.lst (ns.map .int),.int 1]=.ok (.int (ns.getD 1 0)):=uD ns 1;have mm:=λi=>mh (i:=i) (j:=48271) (by decide) (by decide);have gM:=gm 2147483647;obtain⟨n22,Mj,h22⟩:=pE b 22 b0 (by decide);obtain⟨n23,My,_⟩:=pE b 23 b0 (by decide);have l8:=g.l8;have r8:=g.r8;have q8:=g.q8;obtain⟨k,hk⟩:∃k,k=k1 L:=⟨_,rfl⟩
 obtain⟨p,hp⟩:∃p,p=k2 L++t:=⟨_,rfl⟩
 have k8:k.length<=8:=by rw[hk,Pa];omega
 have p8:p.length<=8:=by rw[hp,Pw,Pa];omega
 have n1:=g.nm;rw[<-hk]at n1 ⊢;rw[<-hp];have ad1:=cR (k.map kf) (r.map fld) (by rw[Pa,Pa];omega);have ad2:=cR (p.map kf) (q.map fld) (by rw[Pa,Pa];omega);have c1:=BF (r:=r) k8 ‹0› [‹fr k r›,‹fr p q›,‹.lst (ns.map .int)›,‹.int y›,‹.int b›,none,none] (az (f2 aX (f2 ah (ae 0) (fC (.int 0))) (f2 ah (ae 0) (fC (.int 1))))) (by simp! only[ad1]);have c2:=BF p8 q8 [‹fr k r›,‹fr p q›,‹.lst (ns.map .int)›,‹.int y›,‹.int b›,‹.lst ((nms k r).map .str)›,none] (az (f2 aX (f2 ah (ae 1) (fC (.int 0))) (f2 ah (ae 1) (fC (.int 1))))) (by simp! only[ad2]);have nl:(nms p q).length<=16:=by unfold nms;rw[Pw,Pa,Pa];omega
 have ad3:=qt ((nms p q).map .str) [.str n22,.str n23] (by rw[Pa];simp;omega);have ea:(nms p q).map D.str++[.str n22,.str n23]=(nms p q++[n22,n23]).map .str:=by rw[Qk];rfl
 rw[ea]at ad3;have c3:du [none,some 5] (az (ae 6)) (gN 0) (fB (f2 dH (ae 0) (ae 1))) (ae 0) [‹fr k r›,‹fr p q›,‹.lst (ns.map .int)›,‹.int y›,‹.int b›,‹.lst ((nms k r).map .str)›,‹.lst ((nms p q++[n22,n23]).map .str)›]=.ok (.lst (((nms p q++[n22,n23]).filter λw=>!(nms k r).contains w).map .str)):=by
  refine cm (ds:=(nms p q++[n22,n23]).map .str) (by simp! only[]) (by rw[Pa,Pw];simp;omega) ?_;refine gR D.str (λw=>!(nms k r).contains w) D.str _ λw _=>⟨_,rfl,?_,rfl⟩
  have ni:=yu w (nms k r);simp! only[ni]
 have ne:((nms p q++[n22,n23]).filter λw=>!(nms k r).contains w)≠[]:=λz=>by
  have m:n22∈(nms p q++[n22,n23]).filter λw=>!(nms k r).contains w:=List.mem_filter.mpr ⟨O2 _ OU,by
   have:=Ef n1 (w:=n22) (i:=22) (by decide) (by decide) h22
   simpa using this⟩
  rw[z]at m;cases m
 obtain⟨nm,hm,em⟩:=HE _ ne y;refine⟨nm,by have:=(List.mem_filter.mp hm).2;simpa using this,?_⟩;have gl:=λi=>dQ (i:=i) (show(0:Int)<(((nms p q++[n22,n23]).filter λw=>!(nms k r).contains w).length:Int)by have:=List.length_pos_iff.mpr ne;omega);generalize ((nms p q++[n22,n23]).filter λw=>!(nms k r).contains w)=W at c3 em gl;generalize (nms p q++[n22,n23]).map D.str=W0 at ad3 c3;rw[jS];unfold bR;simp! only[es,ey,e1,mm,gM,hb,c1,c2,Mj,My,l2,ad3,c3,Pa,gl,em]
section
open Classical
variable{τ:bM}{m:Nat}
theorem So.sub{L M:aE}(h:So τ m M)(s:L.Sublist M):So τ m L:=
 ⟨h.t0,h.hm,λr hr=>h.sh r (s.subset hr),h.pw.sublist s,Qq s.length_le h.ln⟩
noncomputable abbrev ak(m:Nat)(V:aE):bV:=V.map λr=>(kq (r.take m),D.tup r)
theorem Kv{V:aE}(h:So τ m V)(X:D)(hX:X=.lst (V.map .tup)\/X=.tup (V.map .tup)):aG gf 2 2 [.int m,X]=.ok (bD (ak m V)):=by
 have ln:=h.ln;have f2':du [none,some 0] (az (ae 1)) (gN 0) bx (bE (aa (aB (ae 0) au (aQ (ae 1))) (aa (ae 0) af))) [‹.int m›,‹X›]=.ok (.lst ((ak m V).map je)):=by
  refine cm (ds:=V.map .tup) (by rcases hX with rfl|rfl<;>simp! only[]) (by rw[Pa];omega) ?_;rw[QW];refine eJ D.tup _ V λr hr=>⟨[‹.tup r›,‹.int m›],rfl,rfl,?_⟩
  simp! only[dj,p3];show _=Except.ok (D.tup [.tup ((kq (r.take m)).map aY),.tup r]);rw[lF (h.sh r hr)]
 have knd:((ak m V).map (·.1)).Nodup:=by
  rw[QW];exact List.pairwise_map.mpr (List.Pairwise.imp_of_mem (λ{a b} ha hb ne e=>ne (iz (h.sh a ha) (h.sh b hb) e)) h.pw)
 have gd:jB [.lst ((ak m V).map je)]=some (bD (ak m V)):=by
  show(gQ _).bind _=_;rw[lW];show(if small _ then _ else _)=_;rw[if_pos (cu (by rw[Pa];omega))];unfold yQ;rw[mK _ [] knd];rfl
 rw[cG];unfold gf;generalize bD (ak m V)=Z at gd;simp! only[f2',gd]
theorem J3{V:aE}(h:So τ m V){f:List D}(zs:Sh τ f):cY (.tup f) (bD (ak m V))=some (.bl (!decide (f∈V.map λr=>r.take m))):=by
 show(jH (encK _) ((ak m V).map (·.2)) (.tup f)).bind pH=_;unfold jH;rw[dX];show((eF (.tup f)).bind λk=>some (D.bl ((ak m V).any λp=>decide (p.1=k)))).bind pH=_;have e:eF (.tup f)=some (kq f):=by
  conv=>lhs;rw[<-lF zs]
  exact bH _
 rw[e];show some (D.bl (!((ak m V).any λp=>decide (p.1=kq f))))=_;congr 3;rw[RF,Ry,decide_eq_true_iff];constructor
 ·rintro⟨p,hp,e⟩;obtain⟨a,ha,rfl⟩:=List.mem_map.mp hp;exact List.mem_map.mpr ⟨a,ha,iz (h.sh a ha) zs (of_decide_eq_true e)⟩
 ·intro z;obtain⟨a,ha,e⟩:=List.mem_map.mp z;exact⟨_,List.mem_map.mpr ⟨a,ha,rfl⟩,decide_eq_true (by show kq (a.take m)=_;rw[show a.take m=f from e])⟩
theorem JE{V T R F:aE}(hF:F=T.filter λr=>!decide (r.take m∈V.map λr=>r.take m))(s:So τ m (V++F))(hT:∀r∈T,Sh τ (r.take m))(tl:T.length<64)(ri:sF m R)(p:R.Perm (V++F))(Y:D)(hY:Y=.lst (T.map .tup)\/Y=.tup (T.map .tup)):aG gW 3 4 [.int m,.lst (V.map .tup),Y]=.ok (.tup (R.map .tup)):=by
 have hV:=s.sub (List.sublist_append_left V F);have b:=Kv hV (.lst (V.map .tup)) (.inl rfl);have ni:=λr (hr:r∈T)=>J3 hV (hT r hr);have sp:=s.prog ri p;have vl:=s.ln;rw[Pw]at vl;generalize bD (ak m V)=Z at b ni;have lc3:du [none,some 0,some 3] (az (ae 2)) (gN 0) (fB (f2 cY (aB (ae 0) au (aQ (ae 1))) (ae 2))) (ae 0) [‹.int m›,‹.lst (V.map .tup)›,‹Y›,‹Z›]=.ok (.lst (F.map .tup)):=by
  refine cm (ds:=T.map .tup) (by rcases hY with rfl|rfl<;>simp! only[]) (by rw[Pa];omega) ?_;rw[hF];refine mU (ρ:=[none,‹.int m›,‹Z›]) (g:=gN 0) (C:=fB (f2 cY (aB (ae 0) au (aQ (ae 1))) (ae 2))) (Fe:=ae 0) D.tup (λr=>!decide (r.take m∈V.map λr=>r.take m)) D.tup _ λr hr=>⟨[‹.tup r›,‹.int m›,‹Z›],rfl,?_,λ_=>rfl⟩
  have:=ni r hr
  simp! only[dj,this]
 have ad:=qt (V.map .tup) (F.map .tup) (by rw[Pa,Pa];omega);rw[<-Qk]at ad;rw[jS];unfold gW;simp! only[b,lc3,HM,ad,sp]
structure Tb(τ:bM)(m:Nat)(V:aE):Prop where
 s:So τ m V
 ri:sF m V
theorem Tb.of{V:aE}(t0:τ≠[])(hm:m=τ.length)(sh:∀r∈V,Sh τ (r.take m))(ri:sF m V)(ln:V.length<64):Tb τ m V:=⟨⟨t0,hm,sh,ux sh ri,ln⟩,ri⟩
theorem Tb.map{V:aE}(h:Tb τ m V)(g:List D->List D)(hg:∀r∈V,(g r).take m=r.take m):Tb τ m (V.map g):=
 Tb.of h.s.t0 h.s.hm (λr hr=>by
  obtain⟨a,ha,rfl⟩:=List.mem_map.mp hr;rw[hg a ha];exact h.s.sh a ha) (List.pairwise_map.mpr (List.Pairwise.imp_of_mem (λ{a b} ha hb e=>by rw[hg a ha,hg b hb];exact e) h.ri)) (by rw[Pa];exact h.s.ln)
end
noncomputable def ra:Kd->D->Bool
 |.num lo hi,.int i=>!(decide (i<lo)||decide (i>hi))
 |.wrd ws,.str w=>ws.contains w
 |_,_=>true
noncomputable def aF:KL->List D->Bool
 |p::k,v::vs=>ra p.2 v&&aF k vs
 |_,_=>true
noncomputable def FB:bI:=(ai (aM 4 (f2 ah (ae 2) (fC (.int 1)))) (ai (eQ (j8 (fB (f2 gx (f2 ah (ae 4) (fC (.int 0))) (fC (.str "number")))) (xr (fB (f2 lm (ae 3) (f2 ah (ae 4) (fC (.int 1))))) (fB (f2 DR (ae 3) (f2 ah (ae 4) (fC (.int 2))))))) (aJ (fC (.bl false))) aV) (ai (eQ (j8 (fB (f2 gx (f2 ah (ae 4) (fC (.int 0))) (fC (.str "word")))) (fB (f2 dH (ae 3) (f2 ah (ae 4) (fC (.int 1)))))) (aJ (fC (.bl false))) aV) (bQ [2,3,4] aV))))
theorem uM(K:Ks)(hK:∀ρ,K.nx ρ=.ok (.bl true))(v0 v1:Option S):∀(k:KL)(vs:List D),Sh (k.map (·.2.b)) (vs.take k.length)->f7 (gT 2 (jL [2,3])) FB K (gG (k.map kf) vs) [v0,v1,none,none,none]=.ok (.bl (aF k vs))
 |[],_,_=>hK _
 |p::k,[],h=>by cases p with|mk _ c=>cases c<;>cases h
 |p::k,v::vs,h=>by
  show((rO (gT 2 (jL [2,3]) (.tup [kf p,v]) [v0,v1,none,none,none])).bind λρ1=>FB ⟨f7 (gT 2 (jL [2,3])) FB K (gG (k.map kf) vs),K.nx,f7 (gT 2 (jL [2,3])) FB K (gG (k.map kf) vs),K.ex⟩ ρ1)=_;have e:gT 2 (jL [2,3]) (.tup [kf p,v]) [v0,v1,none,none,none]=some [v0,v1,‹kf p›,‹v›,none]:=rfl;have j1:ah (kf p) (.int 1)=some p.2.d:=rfl;have ih:Sh (k.map (·.2.b)) (vs.take k.length)->_:=uM K hK v0 v1 k vs;rw[e,eB,cV];obtain⟨nm,c⟩:=p;show _=Except.ok (D.bl (ra c v&&aF k vs));cases c with
  |num lo hi=>
   cases h with
   |int i h=>
    have ih:=ih h;show FB _ _=Except.ok (D.bl (!(decide (i<lo)||decide (i>hi))&&aF k vs))
    conv=>lhs;unfold FB
    cases h1:decide (i<lo)with
    |true=>simp! only[j1,Kd.d,lN,h1,PK,Rq,O0]
    |false=>
     cases h2:decide (i>hi)with
     |true=>simp! only[j1,Kd.d,lN,h1,h2,PL,Rq,O0]
     |false=>
      simp! only[j1,Kd.d,lN,E7,h1,h2,Bool.or_self,Rr,RJ];exact ih
  |wrd ws=>
   cases h with
   |str w h=>
    have ih:=ih h;have ni:dH (.str w) (.tup (ws.map .str))=some (.bl (!ws.contains w)):=yu w ws;show FB _ _=Except.ok (D.bl (ws.contains w&&aF k vs))
    conv=>lhs;unfold FB
    cases h1:ws.contains w with
    |false=>
     rw[h1]at ni;simp! only[j1,Kd.d,nQ,lY,ni,O0]
    |true=>
     rw[h1]at ni;simp! only[j1,Kd.d,nQ,lY,ni,RJ];exact ih
theorem C8{k:KL}{vs:List D}(h:Sh (k.map (·.2.b)) (vs.take k.length)):aG cU 2 5 [.tup (k.map kf),.tup vs]=.ok (.bl (aF k vs)):=by
 rw[cG];unfold cU;simp! only[sC];exact uM _ (λρ=>rfl) _ _ k vs h
theorem EW(bs:bM):uG [.lst (bs.map .bl)]=some (.bl (bs.all id)):=by
 have e:uG [.lst (bs.map .bl)]=(allB (bs.map .bl)).bind λb=>some (D.bl b):=rfl;rw[e,yv];rfl
theorem oZ:∀(k:KL)(vs:List D),aF k (vs.take k.length)=aF k vs
 |[],v=>by cases v<;>rfl
 |_::_,[]=>rfl
 |p::k,v::vs=>by
  show(ra p.2 v&&aF k (vs.take k.length))=(ra p.2 v&&aF k vs)
  rw[oZ k vs]
theorem IP(g:Nat)(c:Kd)(v:D)(h:Sh [c.b] [v]):c9 (g+1) [c.d,v]=.ok (.bl (ra c v)):=by
 rw[j7,cG];unfold uh;cases c with
 |num lo hi=>
  cases h with
  |int i _=>
   have t1:jv "int" (.int i)=some (.bl true):=rfl;have t2:jv "bool" (.int i)=some (.bl false):=rfl;have wh:aG gU 1 1 [.int i]=.ok (.bl true):=by
    rw[lH];unfold gU;simp! only[t1,t2,Bool.and_self]
   have e:(decide (lo<=i)&&decide (i<=hi))=ra (.num lo hi) (.int i):=by
    show _=!(decide (i<lo)||decide (i>hi));by_cases h1:lo<=i<;>by_cases h2:i<=hi<;>simp[h1,h2]<;>omega
   rw[<-e];simp! only[Kd.d,lN,wh,RJ]
 |wrd ws=>
  cases h with
  |str w _=>
   have t1:jv "str" (.str w)=some (.bl true):=rfl;show _=Except.ok (D.bl (ws.contains w));simp! only[Kd.d,nQ,lY,t1,uo,RJ]
theorem Ci:∀(k:KL)(vs:List D),Sh (k.map (·.2.b)) vs->gG (k.map (·.2.d)) vs=(k.zip vs).map (λz=>.tup [z.1.2.d,z.2])/\(∀z∈k.zip vs,Sh [z.1.2.b] [z.2])/\aF k vs=((k.zip vs).map λz=>ra z.1.2 z.2).all id
 |[],_,h=>by cases h;exact⟨rfl,(λ_ h=>by cases h),rfl⟩
 |p::k,vs,h=>by
  cases vs with
  |nil=>obtain⟨nm,c⟩:=p;cases c<;>cases h
  |cons v vs=>
   have hh:Sh [p.2.b] [v]/\Sh (k.map (·.2.b)) vs:=by
    obtain⟨nm,c⟩:=p;cases c with
    |num _ _=>cases h with|int i h=>exact⟨.int i .nil,h⟩
    |wrd _=>cases h with|str w h=>exact⟨.str w .nil,h⟩
   obtain⟨e1,e2,e3⟩:=Ci k vs hh.2;refine⟨?_,λz hz=>?_,?_⟩
   ·rw[O9,QF,O9,<-e1];rfl
   ·rw[QF]at hz;rcases List.mem_cons.mp hz with z'|z'
    ·rw[z'];exact hh.1
    ·exact e2 z z'
   ·rw[QF,O9,Qa,<-e3];rfl
theorem Kq(g:Nat){k:KL}{vs:List D}(h:Sh (k.map (·.2.b)) vs)(k8:k.length<=8):bL (g+2) [.lst (k.map (·.2.d)),.tup vs]=.ok (.bl (aF k vs)):=by
 obtain⟨z1,z2,z3⟩:=Ci k vs h;have vl:=h.length;rw[Pa]at vl;have ze:rh [.lst (k.map (·.2.d)),.tup vs]=some ((k.zip vs).map λz=>.tup [z.1.2.d,z.2]):=by
  show some (gG _ _)=_;rw[z1]
 have t1:jv "tuple" (.tup vs)=some (.bl true):=rfl;have hp:aG fZ 2 2 [.tup vs,.int k.length]=.ok (.bl true):=by
  rw[cG];unfold fZ;simp! only[t1,vl,beq_self_eq_true,Bool.and_self]
 have lc:du [none,none] (oT (aa (ae 0) (aa (ae 1) af))) (gT 2 (jL [0,1])) bx (fR (c9 (g+1)) (aa (ae 0) (aa (ae 1) af))) [‹.lst (k.map (·.2.d))›,‹.tup vs›]=.ok (.lst (((k.zip vs).map λz=>ra z.1.2 z.2).map .bl)):=by
  refine cm (ds:=(k.zip vs).map λz=>.tup [z.1.2.d,z.2]) (by simp! only[ze]) (by rw[Pa,List.length_zip];omega) ?_;rw[QW];refine eJ (λz:(Str×Kd)×D=>D.tup [z.1.2.d,z.2]) _ (k.zip vs) λz hz=>⟨[‹z.1.2.d›,‹z.2›],rfl,rfl,?_⟩
  have:=IP g z.1.2 z.2 (z2 z hz)
  simp! only[this];rfl
 have al:=EW ((k.zip vs).map λz=>ra z.1.2 z.2);rw[<-z3]at al;rw[iB,cG];unfold mP;generalize ((k.zip vs).map λz=>ra z.1.2 z.2).map D.bl=W at *;simp! only[Pa,hp,lc,al]
section
open Classical
variable{L:List ZP}{t:KL}{r q:fu}
theorem wx(ok:Ok L)(l8:L.length<=8){A:aE}(hA:∀a∈A,Sh (so L) (a.take L.length))(al:A.length<64)(b:Bool):aG dA 3 5 [.tup [fr (k1 L) r,fr (k2 L++t) q],.tup (A.map .tup),.bl b]=.ok (.lst ((A.filter λa=>aF (bk L) a==b).map .tup)):=by
 have sk:=zT ok l8;have ct:cutD ((k2 L++t).map kf) none (some (L.length:Int))=(k2 L).map kf:=by
  rw[dj,Qk,RB (by rw[Pa,Pa])]
 have bl:(bk L).length=L.length:=by unfold bk;rw[Pa]
 have kd:∀a0 a1 a2 a4:Option S,du [none] (az (ae 3)) (gN 0) bx (f2 ah (ae 0) (fC (.int 1))) [a0,a1,a2,‹.tup ((bk L).map kf)›,a4]=.ok (.lst ((bk L).map (·.2.d))):=λa0 a1 a2 a4=>
  wK kf (·.2.d) (bk L) _ _ _ (by simp! only[]) ‹0› λz _=>rfl
 have lc:∀a0 a3:Option S,du [none,some 4,some 2] (az (ae 1)) (gN 0) (fB (f2 gx (fR (bL 12) (aa (ae 1) (aa (aB (ae 0) au (aQ (fL cW (aa (ae 1) af)))) af))) (ae 2))) (ae 0) [a0,‹.tup (A.map .tup)›,‹.bl b›,a3,‹.lst ((bk L).map (·.2.d))›]=.ok (.lst ((A.filter λa=>aF (bk L) a==b).map .tup)):=λa0 a3=>by
  refine cm (ds:=A.map .tup) (by simp! only[]) (by rw[Pa];omega) ?_;refine mU (ρ:=[none,‹.lst ((bk L).map (·.2.d))›,‹.bl b›]) (g:=gN 0) (C:=fB (f2 gx (fR (bL 12) (aa (ae 1) (aa (aB (ae 0) au (aQ (fL cW (aa (ae 1) af)))) af))) (ae 2))) (Fe:=ae 0) D.tup (λa=>aF (bk L) a==b) D.tup A λa ha=>⟨[‹.tup a›,‹.lst ((bk L).map (·.2.d))›,‹.bl b›],rfl,?_,λ_=>rfl⟩
  have e:=Kq 10 (hA a ha) ‹0›;have at_:=oZ (bk L) a;rw[bl]at at_;rw[at_]at e;generalize hK:(bk L).map (·.2.d)=K at e ⊢;have kl:K.length=L.length:=by rw[<-hK,Pa,bl]
  simp! only[kl,dj,e]
 generalize (A.filter λa=>aF (bk L) a==b).map D.tup=W at lc ⊢;rw[jS];unfold dA;simp! only[t0,t1,Pa,ct,sk,kd,lc]
noncomputable abbrev gw(m:Nat)(B:aE)(a:List D):List D:=a++[.tup ((gp m B (a.take m)).map .tup)]
theorem x9{al:bV}{q:cP}(h:q∉al.map (·.1)):iw al q=none:=by
 unfold iw;rw[List.find?_eq_none.mpr λp hp z=>h (List.mem_map.mpr ⟨p,hp,of_decide_eq_true z⟩)];rfl
theorem JU{m:Nat}{B:aE}{f:List D}(h:f∉fs m B):gp m B f=[]:=by
 unfold gp;rw[List.filter_eq_nil_iff.mpr λx hx y=>h ((wG m).mpr ⟨x,hx,of_decide_eq_true y⟩)];rfl
theorem FV{σ τ:bM}{m:Nat}{B:aE}(T:Tab σ B)(hm:m<=σ.length){f:List D}(hf:Sh τ f)(hτ:σ.take m=τ):lZ (encK ((fs m B).map λf=>(kq f,D.tup ((gp m B f).map .tup)))) (((fs m B).map λf=>(kq f,D.tup ((gp m B f).map .tup))).map (·.2)) (.tup f) (.tup [])=some (.tup ((gp m B f).map .tup)):=by
 have fsL:=Ds B (T.fsh hm);rw[hτ]at fsL;unfold lZ;rw[dX];have e:eF (.tup f)=some (kq f):=by
  conv=>lhs;rw[<-lF hf]
  exact bH _
 show((eF (.tup f)).bind λq=>some ((iw ((fs m B).map λf=>(kq f,D.tup ((gp m B f).map .tup))) q).getD (.tup [])))=_;rw[e];show some ((iw _ (kq f)).getD (.tup []))=_;congr 1;by_cases h:f∈fs m B
 ·have nd:(((fs m B).map λf=>(kq f,D.tup ((gp m B f).map .tup))).map (·.1)).Nodup:=by
   rw[QW];exact List.pairwise_map.mpr ((Dt m B).imp_of_mem λ{a b} ha hb ne e=>ne (iz (fsL a ha) (fsL b hb) e))
  rw[me (p:=(kq f,D.tup ((gp m B f).map .tup))) nd (List.mem_map.mpr ⟨f,h,rfl⟩)];rfl
 ·rw[x9 λz=>by
   obtain⟨p,hp,e⟩:=List.mem_map.mp z;obtain⟨g,hg,rfl⟩:=List.mem_map.mp hp;exact h (by rw[<-iz (fsL g hg) hf e];exact hg),JU h];rfl
theorem IL(o:D)(ok:Ok L)(l8:L.length<=8){A B:aE}(hA:∀a∈A,Sh (so L) (a.take L.length))(al:A.length<64)(wa:∀a∈A,a.length<=100){σ:bM}(T:Tab σ B)(hm:L.length<=σ.length)(hσ:σ.take L.length=so L):
  aG cA 3 5 [o,.tup [fr (k1 L) r,fr (k2 L++t) q],.tup [.tup (A.map .tup),.tup (B.map .tup)]]=.ok (.tup (((A.filter λa=>aF (bk L) a).map (gw L.length B)).map .tup)):=by
 have sn:=wx (r:=r) (q:=q) (t:=t) ok l8 hA al true;have fe:(A.filter λa=>aF (bk L) a==true)=A.filter λa=>aF (bk L) a:=RK λa _=>by cases aF (bk L) a<;>rfl
 rw[fe]at sn;have gi:=wR T hm;have kL:(k1 L).length=L.length:=Pa _;have fl:=RC (λa=>aF (bk L) a) A;have lc:∀a0:Option S,du [none,some 4,some 3] (az (fR (aG dA 3 5) (aa (ae 1) (aa (f2 ah (ae 2) (fC (.int 0))) (aa (fC (.bl true)) af))))) (gN 0) bx (f2 aX (ae 0) (bE (aa (iE (ae 1) (aB (ae 0) au (aQ (ae 2))) (bE af)) af))) [a0,‹.tup [fr (k1 L) r,fr (k2 L++t) q]›,‹.tup [.tup (A.map .tup),.tup (B.map .tup)]›,‹.int L.length›,‹bD ((fs L.length B).map λf=>(kq f,D.tup ((gp L.length B f).map .tup)))›]=.ok (.lst (((A.filter λa=>aF (bk L) a).map (gw L.length B)).map .tup)):=λ_=>by
  refine cm (ds:=(A.filter λa=>aF (bk L) a).map .tup) ?_ (by rw[Pa];omega) ?_
  ·generalize fr (k1 L) r=F1 at *;generalize fr (k2 L++t) q=F2 at *;generalize bD ((fs L.length B).map λf=>(kq f,D.tup ((gp L.length B f).map .tup)))=Z;simp! only[t0,sn]
  ·rw[QW];refine eJ D.tup _ _ λa ha=>?_;have ha':=(List.mem_filter.mp ha).1;have gt:=FV T hm (hA a ha') hσ;generalize hal:((fs L.length B).map λf=>(kq f,D.tup ((gp L.length B f).map .tup)))=al at gt;have ad:=cR a [.tup ((gp L.length B (a.take L.length)).map .tup)] (by rw[PC];have:=wa a ha';omega);refine⟨[‹.tup a›,‹bD al›,‹.int L.length›],rfl,rfl,?_⟩;have ed:∀(fk fx:FX),iE (ae 1) fk fx [‹.tup a›,‹bD al›,‹.int L.length›]=(fk [‹.tup a›,‹bD al›,‹.int L.length›]).bind λk=>(fx [‹.tup a›,‹bD al›,‹.int L.length›]).bind λx=>rO (lZ (encK al) (al.map (·.2)) k x):=λ_ _=>rfl;have eg:iE (ae 1) (aB (ae 0) au (aQ (ae 2))) (bE af) [‹.tup a›,‹bD al›,‹.int L.length›]=.ok (.tup ((gp L.length B (a.take L.length)).map .tup)):=by
    rw[ed];generalize bD al=Z;simp! only[dj,Nr,gt]
   generalize bD al=Z at eg;simp! only[eg,Ny,ad];rfl
 rw[jS];unfold cA;generalize bD ((fs L.length B).map λf=>(kq f,D.tup ((gp L.length B f).map .tup)))=Z at *;generalize ((A.filter λa=>aF (bk L) a).map (gw L.length B)).map D.tup=W at *;have i0:ah (fr (k1 L) r) (.int 0)=some (.tup ((k1 L).map kf)):=rfl;generalize fr (k1 L) r=F1 at *;generalize fr (k2 L++t) q=F2 at *;simp! only[t0,t1,i0,Pa,kL,gi,lc]
end
theorem Cr{i:Nat}{K:Ks}{ρ:aj}(h:E9 ρ=true):nc i K ρ=K.nx (ρ.set i (some (.nest (.lst [.lst [],.lst []])))):=by
 unfold nc;rw[if_pos h]
theorem yi{i c:Nat}{f:FX}{K:Ks}{ρ:aj}{xs ys:List D}{v:D}(h:ρ[i]?=some (some (.nest (.lst xs))))(hc:xs[c]?=some (.lst ys))(e:f ρ=.ok v)(l:ys.length<1000):oJ i c f K ρ=K.nx (ρ.set i (some (.nest (.lst (xs.set c (.lst (ys++[v]))))))):=by
 unfold oJ;rw[h];show(match xs[c]? with|some (.lst ys)=>_|_=>_)=_;rw[hc];show(wc (f ρ)).bind _=_;rw[e];show(if small (ys.length+1)then _ else _)=_;rw[if_pos (cu ‹0›)]
section
variable{L:List ZP}{t:KL}{r q:fu}{n:Nat}{b:Int}
theorem OG(a b c d:D):oI [a,b,c,d]=some (.tup [a,b,c,d]):=nr rfl
theorem NP(a b c:D):jK [a,b,c]=some (.lst [a,b,c]):=nr rfl
theorem Ky(ok:Ok L)(x:Int):∃(K:KL)(w:Int)(b0 b1:Bool),K.length=L.length/\(∀p∈K,p.2.gd)/\K.map (·.2.b)=so L/\gZ [.int (x%6),.int 2]=some (.int w)/\ah (.lst [.tup ((k1 L).map kf),.tup ((k2 L).map kf),.tup ((bk L).map kf)]) (.int w)=some (.tup (K.map kf))/\oR (.int (x%6)) (.tup [.int 0,.int 2,.int 4])=some (.bl b0)/\oR (.int (x%6)) (.tup [.int 1,.int 3,.int 4,.int 5])=some (.bl b1):=by
 have bl:(bk L).length=L.length:=by unfold bk;rw[Pa]
 rcases(show x%6=0\/x%6=1\/x%6=2\/x%6=3\/x%6=4\/x%6=5 by omega)with z|z|z|z|z|z<;>rw[z]
 ·exact⟨k1 L,0,true,false,Pa _,K4 ok,Ov ok,rfl,rfl,by kernel_rfl,by kernel_rfl⟩
 ·exact⟨k2 L,1,false,true,Pa _,Kf ok,Ot ok,rfl,rfl,by kernel_rfl,by kernel_rfl⟩
 ·exact⟨bk L,2,true,false,bl,vH ok,rfl,rfl,rfl,by kernel_rfl,by kernel_rfl⟩
 ·exact⟨bk L,2,false,true,bl,vH ok,rfl,rfl,rfl,by kernel_rfl,by kernel_rfl⟩
 ·exact⟨bk L,2,true,true,bl,vH ok,rfl,rfl,rfl,by kernel_rfl,by kernel_rfl⟩
 ·exact⟨bk L,2,false,true,bl,vH ok,rfl,rfl,rfl,by kernel_rfl,by kernel_rfl⟩
noncomputable abbrev sp(L:List ZP)(t:KL):bM:=so L++t.map (·.2.b)
theorem dW(L:List ZP)(t:KL):(sp L t).length=L.length+t.length:=by
 rw[Pw,cn,Pa]
theorem o0(L:List ZP)(t:KL):(sp L t).take L.length=so L:=RB (cn L)
noncomputable def Rw(σ:bM)(w:Nat)(a:List D):Prop:=a.length=σ.length+w/\Sh σ (a.take σ.length)/\∀v∈a,AL 4 v
structure Tw(σ:bM)(w:Nat)(A:aE):Prop where
 tb:Tb σ σ.length A
 rw:∀a∈A,Rw σ w a
theorem sq{σ:bM}(l1:1<=σ.length){w:Nat}(rows:aE)(h:∀a∈rows,Rw σ w a)(hn:rows.length<64):∃A:aE,Tw σ w A/\A.length<=rows.length/\aG bh 2 4 [.int σ.length,.lst (rows.map .tup)]=.ok (.tup (A.map .tup)):=by
 have ne:σ≠[]:=λz=>by rw[z]at l1;cases l1
 obtain⟨t,et,ri,tm,tl,_⟩:=oo (σ:=σ) (kl:=σ.length) ne rfl rows (λa ha=>(h a ha).2.1) hn;exact⟨t,⟨Tb.of ne rfl (λa ha=>(h a (tm a ha)).2.1) ri ‹0›,λa ha=>h a (tm a ha)⟩,tl,et⟩
theorem Tw.tab{σ:bM}{w:Nat}{B:aE}(T:Tw σ w B)(l:σ.length+w<=16):Tab σ B:=⟨T.tb.s.sh,T.tb.ri,T.tb.s.ln,λa ha=>by have:=(T.rw a ha).1;omega,λa ha v hv=>AL.le (by decide) ((T.rw a ha).2.2 v hv)⟩
theorem zC(ns:List Int)(g:Gd b L t r q n)(M:Int)(M5:6<=M)(M50:M<=50):∃A B:aE,Tw (so L) r.length A/\Tw (sp L t) q.length B/\A.length<=M/\B.length<=M/\aG bT 5 13 [fr (k1 L) r,fr (k2 L++t) q,.lst (ns.map .int),.int 2,.int M]=.ok (.tup [.tup (A.map .tup),.tup (B.map .tup)]):=by
 have l8:=g.l8;have l1:=g.l1;have r8:=g.r8;have q8:=g.q8;have kb:aG aZ 2 5 [fr (k1 L) r,fr (k2 L++t) q]=.ok (.tup ((bk L).map kf)):=qy g.ok ‹0› t (.tup (r.map fld)) (.tup (q.map fld));obtain⟨N,hN,rn⟩:∃N:Nat,(N:Int)<=M/\∀e1 e2:Int,jE [.int (ns.length:Int),.int (2+6)]=some (.int e1)->gZ [.int e1,.int (2+M)]=some (.int e2)->mM [.int 2,.int e2]=some (dD 2 N):=by
  refine⟨((if(2+M:Int)<(if(2+6:Int)>(ns.length:Int)then 2+6 else(ns.length:Int))then 2+M else(if(2+6:Int)>(ns.length:Int)then 2+6 else(ns.length:Int)))-2).toNat,?_,λe1 e2 h1 h2=>?_⟩
  ·split<;>split<;>omega
  ·rw[gY]at h1;cases h1;rw[hU]at h2;cases h2;generalize he:(if(2+M:Int)<(if(2+6:Int)>(ns.length:Int)then 2+6 else(ns.length:Int))then 2+M else(if(2+6:Int)>(ns.length:Int)then 2+6 else(ns.length:Int)))=e;have e2:2<=e/\e<=60:=(by rw[<-he];split<;>split<;>omega);show(if okR 2&&okR e then some (dD 2 ((e-2).toNat))else none)=_;have o1:okR 2=true:=decide_eq_true ⟨by decide,by decide⟩;have o2:okR e=true:=decide_eq_true ⟨by omega,by omega⟩;rw[o1,o2];rfl
 have mx:=gY (ns.length:Int) (2+6);have rn:=rn _ _ mx (hU _ _);have g6:=gm 6;have g7:=gm 7;have g3:=gm 3;have d6:=gd 6;have i0:ah (fr (k1 L) r) (.int 0)=some (.tup ((k1 L).map kf)):=rfl;have i1:ah (fr (k1 L) r) (.int 1)=some (.tup (r.map fld)):=rfl;have j0:ah (fr (k2 L++t) q) (.int 0)=some (.tup ((k2 L++t).map kf)):=rfl;have j1:ah (fr (k2 L++t) q) (.int 1)=some (.tup (q.map fld)):=rfl;have kL:(k1 L).length=L.length:=Pa _;have kP:(k2 L++t).length=L.length+t.length:=by rw[Pw,Pa]
 have ct:cutD ((k2 L++t).map kf) none (some (L.length:Int))=(k2 L).map kf:=by
  rw[dj,Qk,RB (by rw[Pa,Pa])]
 have cf:cutD ((k2 L++t).map kf) (some (L.length:Int)) none=t.map kf:=by
  rw[p5,Qk,RL (by rw[Pa,Pa])]
 have adf:=cR (t.map kf) (q.map fld) (by rw[Pa,Pa];omega);have sl:=cn L;have pl':=dW L t;obtain⟨T,hT⟩:∃T:bI,T=(vD 7 (aJ (bE (aa (fR (aG bh 2 4) (aa (ae 6) (aa (f2 ah (ae 7) (fC (.int 0))) af))) (aa (fR (aG bh 2 4) (aa (fL cW (aa (f2 ah (ae 1) (fC (.int 0))) af)) (aa (f2 ah (ae 7) (fC (.int 1))) af))) af))))):=⟨_,rfl⟩
 rw[tQ];unfold bT;rw[<-hT];generalize hF1:fr (k1 L) r=F1 at *;generalize hF2:fr (k2 L++t) q=F2 at *;have nw:=λK:Ks=>Cr (i:=7) (K:=K) (ρ:=[‹F1›,‹F2›,‹.lst (ns.map .int)›,‹.int 2›,‹.int M›,‹.tup ((bk L).map kf)›,‹.int L.length›,none,none,none,none,none,none]) rfl;simp! only[kb,i0,Pa,kL,nw,rn];refine cy (Q:=λz=>∃A B:aE,Tw (so L) r.length A/\Tw (sp L t) q.length B/\A.length<=M/\B.length<=M/\z=.ok (.tup [.tup (A.map .tup),.tup (B.map .tup)]))
  (λi ρ=>∃R0 R1:aE,R0.length<=i/\R1.length<=i/\(∀a∈R0,Rw (so L) r.length a)/\(∀a∈R1,Rw (sp L t) q.length a)/\ρ=[‹F1›,‹F2›,‹.lst (ns.map .int)›,‹.int 2›,‹.int M›,‹.tup ((bk L).map kf)›,‹.int L.length›,some (.nest (.lst [.lst (R0.map .tup),.lst (R1.map .tup)])),none,none,none,none,none]) ?_ ⟨[],[],O1 _,O1 _,(λ_ h=>nomatch h),(λ_ h=>nomatch h),rfl⟩ ?_
 ·rintro i d ρ kk hd ⟨R0,R1,l0,l1',h0,h1,rfl⟩;have hi:=bu hd;rw[bU]at hi;have hdi:d=.int ((2+i:Nat):Int):=by
   rw[fK,Pr,Qo hi]at hd;cases hd;simp
  subst hdi;obtain⟨x,x0,x1,ex⟩:=o6 ns (2+i) ‹0›;obtain⟨y,y0,y1,ey⟩:=eK x x0 ‹0›;obtain⟨K,w,b0,b1,kl,kg,ks,em,ek,eb0,eb1⟩:=Ky g.ok x;obtain⟨h,hh0,hh1,eh⟩:∃h:Int,0<=h/\h<2147483700/\ah (.lst [.int y,.int (y%7),.int (y%3)]) (.int (x/6%3))=some (.int h):=by
   rcases(show x/6%3=0\/x/6%3=1\/x/6%3=2 by omega)with z|z|z<;>rw[z]
   ·exact⟨y,by omega,by omega,rfl⟩
   ·exact⟨y%7,by omega,by omega,rfl⟩
   ·exact⟨y%3,by omega,by omega,rfl⟩
  obtain⟨vs,ev,v1,v2,v3⟩:=jg n g.n2 K [] ‹0› (by decide) kg (λ_ h=>nomatch h) (K.map kf) (by rw[Pj,qx]) h hh0 hh1;have v1:vs.length=K.length+0:=v1;rw[Rb ‹0›]at v2;have vsh:=v2.sh;rw[ks]at vsh;obtain⟨us,eu,u1,_,u3⟩:=jg n g.n2 [] r (by decide) ‹0› (λ_ h=>nomatch h) g.hr (r.map fld) rfl (y+1) ‹0› ‹0›;have u1:us.length=0+r.length:=u1;obtain⟨ws,ew,w1,w2,w3⟩:=jg n g.n2 t q ‹0› q8 g.tg g.hq (t.map kf++q.map fld) (by rw[Qk,qx]) (y+2) ‹0› ‹0›;have a1:=cR vs us ‹0›;have a2:=cR vs ws ‹0›;have rA:Rw (so L) r.length (vs++us):=⟨by rw[Pw];omega,by rw[RB ‹0›];exact vsh,λv hv=>(List.mem_append.mp hv).elim (v3 v) (u3 v)⟩
  have rB:Rw (sp L t) q.length (vs++ws):=⟨by rw[Pw];omega,by
   rw[dW,show vs++ws=vs++ws from rfl,<-show vs.length=L.length by omega,RM];exact uk vsh w2.sh,λv hv=>(List.mem_append.mp hv).elim (v3 v) (w3 v)⟩
  have sn:∀{σ:bM}{w:Nat}{R:aE}{a:List D},(∀a∈R,Rw σ w a)->Rw σ w a->∀c∈R++[a],Rw σ w c:=λh ha c hc=>by
   rcases List.mem_append.mp hc with z|z
   ·exact h c z
   ·rw[List.mem_singleton.mp z];exact ha
  have m0:(R0++[vs++us]).map D.tup=R0.map D.tup++[.tup (vs++us)]:=by rw[Qk];rfl
  have m1:(R1++[vs++ws]).map D.tup=R1.map D.tup++[.tup (vs++ws)]:=by rw[Qk];rfl
  have p0:=λ(K:Ks)(Y1:List D)=>yi (v:=.tup (vs++us)) (i:=7) (c:=0) (f:=f2 aX (ae 12) (fR (aG bB 2 2) (aa (f2 ah (ae 0) (fC (.int 1))) (aa (f2 aX (ae 11) (fC (.int 1))) af)))) (K:=K) (ρ:=[‹F1›,‹F2›,‹.lst (ns.map .int)›,‹.int 2›,‹.int M›,‹.tup ((bk L).map kf)›,‹.int L.length›,some (.nest (.lst [.lst (R0.map .tup),.lst Y1])),‹.int ((2+i:Nat):Int)›,‹.int x›,‹.int (x%6)›,‹.int y›,‹.tup vs›]) rfl rfl (by simp! only[i1,eu,a1]) (by rw[Pa];omega);have p1:=λ(K:Ks)(Y0:List D)=>yi (v:=.tup (vs++ws)) (i:=7) (c:=1) (f:=f2 aX (ae 12) (fR (aG bB 2 2) (aa (f2 aX (aB (f2 ah (ae 1) (fC (.int 0))) (aQ (ae 6)) au) (f2 ah (ae 1) (fC (.int 1)))) (aa (f2 aX (ae 11) (fC (.int 2))) af)))) (K:=K) (ρ:=[‹F1›,‹F2›,‹.lst (ns.map .int)›,‹.int 2›,‹.int M›,‹.tup ((bk L).map kf)›,‹.int L.length›,some (.nest (.lst [.lst Y0,.lst (R1.map .tup)])),‹.int ((2+i:Nat):Int)›,‹.int x›,‹.int (x%6)›,‹.int y›,‹.tup vs›]) rfl rfl (by simp! only[j0,cf,j1,adf,ew,a2]) (by rw[Pa];omega);rw[<-m0]at p0;rw[<-m1]at p1;refine⟨_,[‹F1›,‹F2›,‹.lst (ns.map .int)›,‹.int 2›,‹.int M›,‹.tup ((bk L).map kf)›,‹.int L.length›,some (.nest (.lst [.lst ((if b0 then R0++[vs++us]else R0).map .tup),.lst ((if b1 then R1++[vs++ws]else R1).map .tup)])),none,none,none,none,none],rfl,⟨_,_,?_,?_,?_,?_,rfl⟩,?_⟩
  ·cases b0<;>simp<;>omega
  ·cases b1<;>simp<;>omega
  ·cases b0
   ·exact h0
   ·exact sn h0 rA
  ·cases b1
   ·exact h1
   ·exact sn h1 rB
  ·cases b0<;>cases b1<;>simp! only[ex,g6,ey,i0,j0,ct,NP,em,ek,g7,g3,d6,eh,ev,Iq,OG,eb0,eb1,p0,p1]
 ·rintro ρ' ⟨R0,R1,l0,l1',h0,h1,rfl⟩;rw[bU]at l0 l1';obtain⟨A,tA,la,ea⟩:=sq (σ:=so L) ‹0› R0 h0 ‹0›;obtain⟨B,tB,lb,eb⟩:=sq (σ:=sp L t) ‹0› R1 h1 ‹0›;rw[sl]at ea;rw[pl']at eb;refine⟨A,B,tA,tB,by omega,by omega,?_⟩;rw[hT];have fz:∀(G:bI)(K:Ks),vD 7 G K [‹F1›,‹F2›,‹.lst (ns.map .int)›,‹.int 2›,‹.int M›,‹.tup ((bk L).map kf)›,‹.int L.length›,some (.nest (.lst [.lst (R0.map .tup),.lst (R1.map .tup)])),none,none,none,none,none]=G K [‹F1›,‹F2›,‹.lst (ns.map .int)›,‹.int 2›,‹.int M›,‹.tup ((bk L).map kf)›,‹.int L.length›,‹.lst [.lst (R0.map .tup),.lst (R1.map .tup)]›,none,none,none,none,none]:=λ_ _=>rfl;simp! only[fz,j0,Pa,kP,ea,eb,p3]
end
section
open Classical
variable{τ:bM}{m:Nat}
noncomputable abbrev ks(m:Nat)(T:aE):aE:=T.map λr=>r.take m
theorem sy:∀(ps al:bV)(q:cP),q∈(ps.foldl (λal p=>fw al p.1 p.2) al).map (·.1)↔q∈al.map (·.1)\/q∈ps.map (·.1)
 |[],al,q=>by
  rw[Ri,PF];exact⟨.inl,λh=>h.elim id λz=>nomatch z⟩
 |p::ps,al,q=>by
  rw[QL,sy ps _ q,kO,O9,Qv];split
  ·rename_i h;constructor
   ·rintro(z|z)
    ·exact .inl z
    ·exact .inr (.inr z)
   ·rintro(z|z|z)
    ·exact .inl z
    ·rw[z];exact .inl h
    ·exact .inr z
  ·rw[List.mem_append,Rc];constructor
   ·rintro((z|z)|z)
    ·exact .inl z
    ·exact .inr (.inl z)
    ·exact .inr (.inr z)
   ·rintro(z|z|z)
    ·exact .inl (.inl z)
    ·exact .inl (.inr z)
    ·exact .inr z
theorem G7{Y:aE}(sh:∀r∈Y,Sh τ (r.take m))(yl:Y.length<=1000):∃Z,aG gf 2 2 [.int m,.lst (Y.map .tup)]=.ok Z/\∀f,Sh τ f->cY (.tup f) Z=some (.bl (!decide (f∈ks m Y))):=by
 have f2':du [none,some 0] (az (ae 1)) (gN 0) bx (bE (aa (aB (ae 0) au (aQ (ae 1))) (aa (ae 0) af))) [‹.int m›,‹.lst (Y.map .tup)›]=.ok (.lst ((ak m Y).map je)):=by
  refine cm (ds:=Y.map .tup) (by simp! only[]) (by rw[Pa];omega) ?_;rw[QW];refine eJ D.tup _ Y λr hr=>⟨[‹.tup r›,‹.int m›],rfl,rfl,?_⟩
  simp! only[dj,p3];show _=Except.ok (D.tup [.tup ((kq (r.take m)).map aY),.tup r]);rw[lF (sh r hr)]
 obtain⟨al,hal⟩:∃al,al=(ak m Y).foldl (λal p=>fw al p.1 p.2) []:=⟨_,rfl⟩
 have gd:jB [.lst ((ak m Y).map je)]=some (bD al):=by
  show(gQ _).bind _=_;rw[lW];show(if small _ then _ else _)=_;rw[if_pos (cu (by rw[Pa];omega)),hal];rfl
 refine⟨bD al,?_,λf zs=>?_⟩
 ·rw[cG];unfold gf;generalize bD al=Z at gd;simp! only[f2',gd]
 ·show(jH (encK al) (al.map (·.2)) (.tup f)).bind pH=_;unfold jH;rw[dX];show((eF (.tup f)).bind λk=>some (D.bl (al.any λp=>decide (p.1=k)))).bind pH=_;have e:eF (.tup f)=some (kq f):=by
   conv=>lhs;rw[<-lF zs]
   exact bH _
  rw[e];show some (D.bl (!(al.any λp=>decide (p.1=kq f))))=_;congr 3;have fk:=sy (ak m Y) [] (kq f);rw[<-hal]at fk;rw[RF,Ry,decide_eq_true_iff];constructor
  ·rintro⟨p,hp,e⟩;have z:=(fk.mp (List.mem_map.mpr ⟨p,hp,of_decide_eq_true e⟩)).resolve_left λz=>nomatch z;rw[QW]at z;obtain⟨a,ha,ea⟩:=List.mem_map.mp z;exact List.mem_map.mpr ⟨a,ha,iz (sh a ha) zs ea⟩
  ·intro z;obtain⟨a,ha,ea⟩:=List.mem_map.mp z;have z2:=fk.mpr (.inr (by
    rw[QW];exact List.mem_map.mpr ⟨a,ha,by show kq (a.take m)=_;rw[show a.take m=f from ea]⟩))
   obtain⟨p,hp,ep⟩:=List.mem_map.mp z2;exact⟨p,hp,decide_eq_true ep⟩
end
theorem mV:∀{σ:bM}{a:List D}(b c:List D),Sh σ a->cK (a++b) (a++c)=cK b c
 |_,_,b,c,.nil=>rfl
 |_,_,b,c,.int i h=>by
  show(if i=i then cK (_++b) (_++c)else some (decide (i<i)))=_;rw[if_pos rfl];exact mV b c h
 |_,_,b,c,.str x h=>by
  show(if x=x then cK (_++b) (_++c)else _)=_;rw[if_pos rfl];exact mV b c h
theorem wL:∀{σ:bM}{a a':List D}(b c:List D),Sh σ a->Sh σ a'->cK a a'=some true->cK (a++b) (a'++c)=some true
 |_,_,_,b,c,.nil,.nil,h=>by cases h
 |_,_,_,b,c,.int i h,.int j h',e=>by
  have e:(if i=j then cK _ _ else some (decide (i<j)))=some true:=e;show(if i=j then cK (_++b) (_++c)else some (decide (i<j)))=some true;by_cases z:i=j
  ·rw[if_pos z]at e ⊢;exact wL b c h h' e
  ·rw[if_neg z]at e ⊢;exact e
 |_,_,_,b,c,.str x h,.str y h',e=>by
  have e:(if x=y then cK _ _ else some (decide (x.cps.toList<y.cps.toList)))=some true:=e;show(if x=y then cK (_++b) (_++c)else some (decide (x.cps.toList<y.cps.toList)))=some true;by_cases z:x=y
  ·rw[if_pos z]at e ⊢;exact wL b c h h' e
  ·rw[if_neg z]at e ⊢;exact e
noncomputable def lw(v:List D):aE:=(dh (v.getLast?.getD .non)).map dh
theorem yC(u:List D)(ws:aE):lw (u++[.tup (ws.map .tup)])=ws:=by
 unfold lw;rw[List.getLast?_concat];show(ws.map D.tup).map dh=ws;rw[QW];exact RN ws
section
open Classical
variable{L:List ZP}{t:KL}{q r:fu}{n m l:Nat}
noncomputable def fo(m:Nat)(V:aE):aE:=V.flatMap λv=>(lw v).map λw=>v.take m++w
theorem Mg{V:aE}{o:List D}:o∈fo m V↔∃v∈V,∃w∈lw v,o=v.take m++w:=by
 unfold fo;rw[List.mem_flatMap];constructor
 ·rintro⟨v,hv,ho⟩;obtain⟨w,hw,rfl⟩:=List.mem_map.mp ho;exact⟨v,hv,w,hw,rfl⟩
 ·rintro⟨v,hv,w,hw,rfl⟩;exact⟨v,hv,List.mem_map.mpr ⟨w,hw,rfl⟩⟩
theorem B4{σ:bM}(hm:m=σ.length):∀V:aE,sF m V->(∀v∈V,Sh σ (v.take m))->(∀v∈V,sF t.length (lw v))->sF (m+t.length) (fo m V)
 |[],_,_,_=>.nil
 |v::V,ri,sh,hw=>by
  obtain⟨p1,p2⟩:=List.pairwise_cons.mp ri;have ih:=B4 hm V p2 (λx hx=>sh x (OV _ hx)) λx hx=>hw x (OV _ hx);have vl:=(sh v OU).length;have e:fo m (v::V)=((lw v).map λw=>v.take m++w)++fo m V:=by unfold fo;rw[RO]
  rw[e];have tk:∀(x w:List D),x.length=m->(x++w).take (m+t.length)=x++w.take t.length:=λx w hx=>by rw[<-hx,RM]
  refine List.pairwise_append.mpr ⟨List.pairwise_map.mpr ((hw v OU).imp λ{a b} h=>?_),ih,λx hx y hy=>?_⟩
  ·rw[tk _ _ ‹0›,tk _ _ ‹0›,mV _ _ (sh v OU)];exact h
  ·obtain⟨w,_,rfl⟩:=List.mem_map.mp hx;obtain⟨v',hv',w',_,rfl⟩:=Mg.mp hy;have vl':=(sh v' (OV _ hv')).length;rw[tk _ _ ‹0›,tk _ _ ‹0›];exact wL _ _ (sh v OU) (sh v' (OV _ hv')) (p1 v' hv')
theorem GY:∀V:aE,V.Pairwise (λa b=>a.take m≠b.take m)->(∀v∈V,(v.take m).length=m)->∀v∈V,gp m (fo m V) (v.take m)=lw v
 |x::V,pw,hl,v,hv=>by
  obtain⟨p1,p2⟩:=List.pairwise_cons.mp pw;have e:fo m (x::V)=((lw x).map λw=>x.take m++w)++fo m V:=by unfold fo;rw[RO]
  have g:gp m (fo m (x::V)) (v.take m)=gp m ((lw x).map λw=>x.take m++w) (v.take m)++gp m (fo m V) (v.take m):=by
   rw[e];unfold gp;rw[Rx,Qk]
  have tk:∀(u w:List D),u.length=m->(u++w).take m=u:=λu w hu=>RB hu;have xl:=hl x OU;rw[g];rcases List.mem_cons.mp hv with z|z
  ·subst z;have g2:gp m (fo m V) (v.take m)=[]:=by
    unfold gp;rw[List.filter_eq_nil_iff.mpr λo ho=>?_]
    ·rfl
    ·obtain⟨v',hv',w',_,rfl⟩:=Mg.mp ho;rw[tk _ _ (hl v' (OV _ hv'))]
     simpa using(p1 v' hv').symm
   rw[g2,Pj];unfold gp;rw[List.filter_eq_self.mpr λo ho=>?_]
   ·rw[QW]
    conv=>rhs;rw[<-RN (lw v)]
    exact Qj λw _=>RL xl
   ·obtain⟨w,_,rfl⟩:=List.mem_map.mp ho;rw[tk _ _ xl];simp
  ·have g1:gp m ((lw x).map λw=>x.take m++w) (v.take m)=[]:=by
    unfold gp;rw[List.filter_eq_nil_iff.mpr λo ho=>?_]
    ·rfl
    ·obtain⟨w,_,rfl⟩:=List.mem_map.mp ho;rw[tk _ _ xl]
     simpa using p1 v z
   rw[g1,Qi];exact GY V p2 (λu hu=>hl u (OV _ hu)) v z
theorem Ct{V W:aE}(s:V.Sublist W):(fo m V).length<=(fo m W).length:=by
 induction s with
 |slnil=>exact O1 _
 |cons a _ ih=>unfold fo at ih ⊢;rw[RO,Pw];omega
 |cons_cons a _ ih=>unfold fo at ih ⊢;rw[RO,RO,Pw,Pw];omega
theorem HV(V W:aE):fo m (V++W)=fo m V++fo m W:=by unfold fo;rw[RP]
theorem xZ{V W:aE}(p:V.Perm W):(fo m V).length=(fo m W).length:=by
 unfold fo;exact(List.Perm.flatMap_right _ p).length_eq
theorem xn(L:List ZP):(bk L).length=L.length:=by unfold bk;rw[Pa]
theorem uz{a b:List D}(e:a.take L.length=b.take L.length):aF (bk L) a=aF (bk L) b:=by
 rw[<-oZ (bk L) a,<-oZ (bk L) b,xn,e]
noncomputable abbrev uA(L:List ZP)(A:aE):aE:=A.filter λa=>aF (bk L) a==false
noncomputable abbrev sn(L:List ZP)(A:aE):aE:=A.filter λa=>aF (bk L) a==true
noncomputable abbrev ot(L:List ZP)(A B V:aE):aE:=B.filter λb=>!decide (b.take L.length∈ks L.length (V++sn L A))
structure Ve(L:List ZP)(t:KL)(l:Nat)(q:fu)(v:List D):Prop where
 e:v=v.dropLast++[.tup ((lw v).map .tup)]
 u:Rw (so L) l v.dropLast
 f:aF (bk L) v=true
 w:Tw (t.map (·.2.b)) q.length (lw v)
theorem Ve.mk'{u:List D}{ws:aE}(hu:Rw (so L) l u)(hf:aF (bk L) u=true)(hw:Tw (t.map (·.2.b)) q.length ws):Ve L t l q (u++[.tup (ws.map .tup)]):=by
 refine⟨by rw[RQ,yC],by rw[RQ];exact hu,?_,by rw[yC];exact hw⟩;rw[<-hf];refine uz ?_
 have:=hu.1
 rw[cn]at this;exact RT ‹0›
theorem Ve.key{v:List D}(h:Ve L t l q v):v.dropLast.take L.length=v.take L.length:=by
 have e:(v.dropLast++[D.tup ((lw v).map D.tup)]).take L.length=v.dropLast.take L.length:=RT (by have:=h.u.1;rw[cn]at this;omega);rw[<-h.e]at e;exact e.symm
structure Vt(L:List ZP)(t:KL)(l:Nat)(q:fu)(V:aE):Prop where
 tb:Tb (so L) L.length V
 ve:∀v∈V,Ve L t l q v
 fl:(fo L.length V).length<64
theorem Vt.one{V:aE}(h:Vt L t l q V):Tb (so L) L.length (V.map List.dropLast):=h.tb.map List.dropLast λv hv=>(h.ve v hv).key
theorem Vt.ks{V:aE}(h:Vt L t l q V):ks L.length (V.map List.dropLast)=ks L.length V:=by
 unfold Tk58.ks;rw[QW];exact Qj λv hv=>(h.ve v hv).key
theorem BC{x w:List D}{m k:Nat}(hx:x.length=m):(x++w).take (m+k)=x++w.take k:=by rw[<-hx,RM]
theorem Vt.key_len{V:aE}(h:Vt L t l q V){v:List D}(hv:v∈V):(v.take L.length).length=L.length:=by rw[(h.tb.s.sh v hv).length,cn]
theorem Vt.rw{V:aE}(h:Vt L t l q V):∀o∈fo L.length V,Rw (sp L t) q.length o:=λo ho=>by
 obtain⟨v,hv,w,hw,rfl⟩:=Mg.mp ho;have d:=h.ve v hv;have kl:=h.key_len hv;obtain⟨w1,w2,w3⟩:=d.w.rw w hw;rw[Pa]at w1 w2;refine⟨by rw[Pw,dW];omega,?_,λy hy=>?_⟩
 ·rw[dW,BC kl];exact uk (h.tb.s.sh v hv) w2
 ·rcases List.mem_append.mp hy with z|z
  ·exact(lV (h.tb.s.sh v hv) y z).of0 4
  ·exact w3 y z
theorem Vt.oth{V:aE}(h:Vt L t l q V)(l1:1<=L.length):Tb (sp L t) (L.length+t.length) (fo L.length V):=by
 refine Tb.of (λz=>by have:=congrArg List.length z;rw[dW,PN]at this;omega) (dW L t).symm (λo ho=>?_) (B4 (cn L).symm V h.tb.ri h.tb.s.sh λv hv=>?_) h.fl
 ·have:=(h.rw o ho).2.1
  rwa [dW]at this
 ·have:=(h.ve v hv).w.tb.ri
  rwa [Pa]at this
structure Pg(L:List ZP)(t:KL)(A B V R1 R2:aE):Prop where
 s1:So (so L) L.length (V.map List.dropLast++uA L A)
 r1:sF L.length R1
 p1:R1.Perm (V.map List.dropLast++uA L A)
 s2:So (sp L t) (L.length+t.length) (ot L A B V++fo L.length V)
 r2:sF (L.length+t.length) R2
 p2:R2.Perm (ot L A B V++fo L.length V)
theorem A6{V A:aE}(h:Vt L t l q V){a:List D}(ha:a∈uA L A):a.take L.length∉ks L.length V:=λz=>by
 obtain⟨v,hv,e⟩:=List.mem_map.mp z;have f:=(h.ve v hv).f;have g:=(List.mem_filter.mp ha).2;rw[uz (L:=L) (show v.take L.length=a.take L.length from e)]at f;rw[f]at g;exact absurd g (by decide)
theorem qF{V A B:aE}{b:List D}(hb:b∈ot L A B V):b∈B/\b.take L.length∉ks L.length V/\b.take L.length∉ks L.length (sn L A):=by
 obtain⟨h1,h2⟩:=List.mem_filter.mp hb;have h3:b.take L.length∉ks L.length (V++sn L A):=by simpa using h2
 unfold ks at h3 ⊢;rw[Qk]at h3;exact⟨h1,λz=>h3 (OW _ z),λz=>h3 (O2 _ z)⟩
theorem J8(l1:1<=L.length){A B V:aE}(tA:Tw (so L) l A)(tB:Tw (sp L t) q.length B)(h:Vt L t l q V)(n1:V.length+(uA L A).length<64)(n2:(ot L A B V).length+(fo L.length V).length<64):∃R1 R2,Pg L t A B V R1 R2:=by
 have o1:=h.one;have ta:=tA.tb;rw[cn]at ta;have tb:=tB.tb;rw[dW]at tb;have oO:=h.oth l1;have s1:So (so L) L.length (V.map List.dropLast++uA L A):=by
  refine⟨o1.s.t0,o1.s.hm,λx hx=>?_,List.pairwise_append.mpr ⟨o1.s.pw,ta.s.pw.sublist RU,λx hx y hy e=>?_⟩,by rw[Pw,Pa];exact n1⟩
  ·rcases List.mem_append.mp hx with z|z
   ·exact o1.s.sh x z
   ·exact ta.s.sh x (List.mem_filter.mp z).1
  ·refine A6 h hy ?_;rw[<-h.ks,<-e];exact List.mem_map.mpr ⟨x,hx,rfl⟩
 have s2:So (sp L t) (L.length+t.length) (ot L A B V++fo L.length V):=by
  refine⟨oO.s.t0,oO.s.hm,λx hx=>?_,List.pairwise_append.mpr ⟨tb.s.pw.sublist RU,oO.s.pw,λx hx y hy e=>?_⟩,by rw[Pw];exact n2⟩
  ·rcases List.mem_append.mp hx with z|z
   ·exact tb.s.sh x (List.mem_filter.mp z).1
   ·exact oO.s.sh x z
  ·obtain⟨v,hv,w,hw,rfl⟩:=Mg.mp hy;refine(qF hx).2.1 ?_;have e2:=congrArg (List.take L.length) e;rw[RD,RD,Rg ‹0›,RB (h.key_len hv)]at e2;rw[e2];exact List.mem_map.mpr ⟨v,hv,rfl⟩
 obtain⟨R1,r1,p1⟩:=s1.srt;obtain⟨R2,r2,p2⟩:=s2.srt;exact⟨R1,R2,s1,r1,p1,s2,r2,p2⟩
theorem pj{τ:bM}{X Y:aE}(h:So τ m X)(p:Y.Perm X)(r:sF m Y):Tb τ m Y:=
 Tb.of h.t0 h.hm (λa ha=>h.sh a (p.mem_iff.mp ha)) r (by rw[p.length_eq];exact h.ln)
theorem Pg.tw1{A B V R1 R2:aE}(P:Pg L t A B V R1 R2)(tA:Tw (so L) l A)(h:Vt L t l q V):Tw (so L) l R1:=by
 refine⟨by rw[cn];exact pj P.s1 P.p1 P.r1,λa ha=>?_⟩;rcases List.mem_append.mp (P.p1.mem_iff.mp ha)with z|z
 ·obtain⟨v,hv,rfl⟩:=List.mem_map.mp z;exact(h.ve v hv).u
 ·exact tA.rw a (List.mem_filter.mp z).1
theorem Pg.tw2{A B V R1 R2:aE}(P:Pg L t A B V R1 R2)(tB:Tw (sp L t) q.length B)(h:Vt L t l q V):Tw (sp L t) q.length R2:=by
 refine⟨by rw[dW];exact pj P.s2 P.p2 P.r2,λa ha=>?_⟩;rcases List.mem_append.mp (P.p2.mem_iff.mp ha)with z|z
 ·exact tB.rw a (List.mem_filter.mp z).1
 ·exact h.rw a z
theorem KJ{A B V R1 R2:aE}(P:Pg L t A B V R1 R2)(h:Vt L t l q V):(R1.filter λa=>aF (bk L) a)=V.map List.dropLast:=by
 refine(qJ (τ:=so L) (m:=L.length) h.one.s.sh h.one.ri (P.r1.sublist RU) ?_).symm;have e:((V.map List.dropLast++uA L A).filter λa=>aF (bk L) a)=V.map List.dropLast:=by
  have x1:((V.map List.dropLast).filter λa=>aF (bk L) a)=V.map List.dropLast:=List.filter_eq_self.mpr λa ha=>by
   obtain⟨v,hv,rfl⟩:=List.mem_map.mp ha;have d:=h.ve v hv;rw[uz d.key];exact d.f
  have x2:((uA L A).filter λa=>aF (bk L) a)=[]:=List.filter_eq_nil_iff.mpr λa ha z=>by
   have g:=(List.mem_filter.mp ha).2;rw[z]at g;exact absurd g (by decide)
  rw[Rx,x1,x2,Pj]
 rw[<-e];exact P.p1.filter _
theorem JZ{A B V R1 R2:aE}(P:Pg L t A B V R1 R2)(l1:1<=L.length)(h:Vt L t l q V){v:List D}(hv:v∈V):gp L.length R2 (v.take L.length)=lw v:=by
 rw[<-GY V h.tb.s.pw (λu hu=>h.key_len hu) v hv];unfold gp;congr 1;have oO:=h.oth l1;refine(qJ (τ:=sp L t) (m:=L.length+t.length) (λx hx=>oO.s.sh x (List.mem_filter.mp hx).1) (oO.ri.sublist RU) (P.r2.sublist RU) ?_).symm;have e:((ot L A B V++fo L.length V).filter λr=>decide (r.take L.length=v.take L.length))=(fo L.length V).filter λr=>decide (r.take L.length=v.take L.length):=by
  rw[Rx,List.filter_eq_nil_iff.mpr λb hb z=>?_,Qi];exact(qF hb).2.1 (by rw[of_decide_eq_true z];exact List.mem_map.mpr ⟨v,hv,rfl⟩)
 rw[<-e];exact P.p2.filter _
theorem back{A B V R1 R2:aE}(P:Pg L t A B V R1 R2)(l1:1<=L.length)(h:Vt L t l q V):((R1.filter λa=>aF (bk L) a).map (gw L.length R2))=V:=by
 rw[KJ P h,QW]
 conv=>rhs;rw[<-RN V]
 refine Qj λv hv=>?_;have d:=h.ve v hv;show v.dropLast++[.tup ((gp L.length R2 (v.dropLast.take L.length)).map .tup)]=v;rw[d.key,JZ P l1 h hv];exact d.e.symm
theorem o7(p q r:List D->Bool)(h1:∀x,p x=true->r x=true/\q x=false)(h2:∀x,q x=true->r x=true):∀X:aE,(X.filter p).length+(X.filter q).length<=(X.filter r).length
 |[]=>O1 _
 |x::X=>by
  have ih:=o7 p q r h1 h2 X;by_cases a:p x=true
  ·obtain⟨b,c⟩:=h1 x a;rw[QR a,QR b,QS (by rw[c];decide),O8,O8];omega
  ·rw[QS a];by_cases b:q x=true
   ·rw[QR b,QR (h2 x b),O8,O8];omega
   ·rw[QS b,List.filter_cons];split
    ·rw[O8];omega
    ·exact ih
theorem yH(B:aE):∀S:aE,S.Pairwise (λa b=>a.take m≠b.take m)->(fo m (S.map (gw m B))).length+(B.filter λb=>!decide (b.take m∈ks m S)).length<=B.length
 |[],_=>by
  have:=RC (λb:List D=>!decide (b.take m∈ks m [])) B
  show 0+_<=_;omega
 |a::S,pw=>by
  obtain⟨p1,p2⟩:=List.pairwise_cons.mp pw;have ih:=yH B S p2;have e:(fo m ((a::S).map (gw m B))).length=(B.filter λb=>decide (b.take m=a.take m)).length+(fo m (S.map (gw m B))).length:=by
   unfold fo;rw[O9,RO,Pw,Pa];congr 1;show(lw (a++[.tup ((gp m B (a.take m)).map .tup)])).length=_;rw[yC];unfold gp;rw[Pa]
  have two:=o7 (λb=>decide (b.take m=a.take m)) (λb=>!decide (b.take m∈ks m (a::S))) (λb=>!decide (b.take m∈ks m S)) (λb hb=>by
   have z:=of_decide_eq_true hb;refine⟨?_,?_⟩
   ·rw[z,Rm,decide_eq_false_iff_not];intro w;obtain⟨c,hc,ec⟩:=List.mem_map.mp w;exact p1 c hc ec.symm
   ·rw[z,Bool.not_eq_false',decide_eq_true_iff];exact List.mem_map.mpr ⟨a,OU,rfl⟩) (λb hb=>by
   rw[Rm,decide_eq_false_iff_not]at hb ⊢;exact λw=>hb (OV _ w)) B
  omega
end
section
open Classical
variable{L:List ZP}{t:KL}{q r:fu}{n m l:Nat}
theorem ER{r:List D}{m:Nat}{d:D}(hl:r.length=m+1)(h:r[m]?=some d):ah (.tup r) (.int (-1))=some d:=by
 rw[Ir];have e:r=r.take m++[r[m]]:=by
  conv=>lhs;rw[<-RV m r]
  congr 1;rw[Qp ‹0›,Rn ‹0›]
 rw[Qd ‹0›]at h;rw[e,Bj];exact h
theorem Ja(xs:List D):lu [.tup xs]=some (.lst xs):=nr rfl
theorem Hq(u:List D)(x:D):ah (.tup (u++[x])) (.int (-1))=some x:=
 ER (m:=u.length) (by rw[Pw,PC]) (by rw[Pn (O1 _),QH];rfl)
theorem IZ{i:Nat}{f:FX}(K:Ks)(ρ:aj){xs ys:List D}(h:ρ[i]?=some (some (.own (.lst xs))))(l:xs.length+ys.length<=100000)(e:f ρ=.ok (.lst ys)):As i f K ρ=K.nx (ρ.set i (some (.own (.lst (xs++ys))))):=by
 unfold As;rw[h];show o4 (f ρ) K ρ _=_;rw[e];show(if small (xs.length+ys.length)then K.nx (ρ.set i (some (.own (.lst (xs++ys)))))else un)=_;rw[if_pos (cu l)]
theorem yt{v:List D}(h:Ve L t l q v):ah (.tup v) (.int (-1))=some (.tup ((lw v).map .tup)):=by
 have:=Hq v.dropLast (.tup ((lw v).map .tup))
 rw[<-h.e]at this;exact this
theorem GX{v:List D}(h:Ve L t l q v):cutD v none (some (-1))=v.dropLast:=by
 have:=De v.dropLast (.tup ((lw v).map .tup))
 rw[<-h.e]at this;exact this
theorem JF(o:D)(ok:Ok L)(l1:1<=L.length)(l8:L.length<=8)(r8:r.length<=8)(t8:t.length<=8)(q8:q.length<=8){A B V R1 R2:aE}(tA:Tw (so L) r.length A)(tB:Tw (sp L t) q.length B)(h:Vt L t r.length q V)(P:Pg L t A B V R1 R2):aG dI 4 9 [o,.tup [fr (k1 L) r,fr (k2 L++t) q],.tup [.tup (A.map .tup),.tup (B.map .tup)],.tup (V.map .tup)]=.ok (.tup [.tup (R1.map .tup),.tup (R2.map .tup)]):=by
 have vl:=h.tb.s.ln;have ta:=tA.tb;rw[cn]at ta;have al:=ta.s.ln;have bl:=tB.tb.s.ln;have n0:=wx (r:=r) (q:=q) (t:=t) ok l8 ta.s.sh al false;have n1:=wx (r:=r) (q:=q) (t:=t) ok l8 ta.s.sh al true;have ul:(uA L A).length<=A.length:=RC _ _;have sl:(sn L A).length<=A.length:=RC _ _;have hF:uA L A=(uA L A).filter λr=>!decide (r.take L.length∈(V.map List.dropLast).map λr=>r.take L.length):=(List.filter_eq_self.mpr λa ha=>by
  have:=A6 h ha
  rw[<-h.ks]at this;rw[Rm,decide_eq_false_iff_not];exact this).symm
 have st:=JE (V:=V.map List.dropLast) (T:=uA L A) (R:=R1) hF P.s1 (λa ha=>ta.s.sh a (List.mem_filter.mp ha).1) ‹0› P.r1 P.p1 (.lst ((uA L A).map .tup)) (.inl rfl);obtain⟨Z,b,ni⟩:=G7 (τ:=so L) (m:=L.length) (Y:=V++sn L A) (λx hx=>(List.mem_append.mp hx).elim (h.tb.s.sh x) λz=>ta.s.sh x (List.mem_filter.mp z).1) (by rw[Pw];omega);have sb:=P.s2.prog P.r2 P.p2;have ad:=qt (V.map .tup) ((sn L A).map .tup) (by rw[Pa,Pa];omega);rw[<-Qk]at ad;have c5:∀a0 a1 a2 a4 a5 a6 a7 a8:Option S,du [none] (az (ae 3)) (gN 0) bx (aB (ae 0) au (aQ (lP (fC (.int 1))))) [a0,a1,a2,‹.tup (V.map .tup)›,a4,a5,a6,a7,a8]=.ok (.lst ((V.map List.dropLast).map .tup)):=λ_ _ _ _ _ _ _ _=>by
  rw[QW];exact wK D.tup _ V _ _ _ (by simp! only[]) ‹0› λv hv=>by
   have:=GX (h.ve v hv)
   simp! only[this];rfl
 have nb:∀x∈B,cY (.tup (x.take L.length)) Z=some (.bl (!decide (x.take L.length∈ks L.length (V++sn L A)))):=λx hx=>ni _ (by
  have s:=(tB.rw x hx).2.1
  have:=kr L.length s
  rw[RD,dW,Rg ‹0›,o0]at this;exact this)
 have c7:∀a0 a1 a3 a5 a7 a8:Option S,du [none,some 4,some 6] (az (f2 ah (ae 2) (fC (.int 1)))) (gN 0) (fB (f2 cY (aB (ae 0) au (aQ (ae 1))) (ae 2))) (ae 0) [a0,a1,‹.tup [.tup (A.map .tup),.tup (B.map .tup)]›,a3,‹.int L.length›,a5,‹Z›,a7,a8]=.ok (.lst ((ot L A B V).map .tup)):=λ_ _ _ _ _ _=>by
  refine cm (ds:=B.map .tup) (by simp! only[t1]) (by rw[Pa];omega) ?_;refine mU (ρ:=[none,‹.int L.length›,‹Z›]) (g:=gN 0) (C:=fB (f2 cY (aB (ae 0) au (aQ (ae 1))) (ae 2))) (Fe:=ae 0) D.tup (λb=>!decide (b.take L.length∈ks L.length (V++sn L A))) D.tup _ λx hx=>⟨[‹.tup x›,‹.int L.length›,‹Z›],rfl,?_,λ_=>rfl⟩
  have:=nb x hx
  simp! only[dj,this]
 have kl:(k2 L++t).length=L.length+t.length:=by rw[Pw,Pa]
 have kL:(k1 L).length=L.length:=Pa _;obtain⟨T,hT⟩:∃T:bI,T=(eT 7 (aJ (bE (aa (ae 5) (aa (fR (aG dZ 2 2) (aa (fL cW (aa (f2 ah (f2 ah (ae 1) (fC (.int 1))) (fC (.int 0))) af)) (aa (ae 7) af))) af))))):=⟨_,rfl⟩
 rw[Ba];unfold dI;rw[<-hT];generalize hF1:fr (k1 L) r=F1 at n0 n1 ⊢;have f1:ah F1 (.int 0)=some (.tup ((k1 L).map kf)):=by rw[<-hF1];rfl
 generalize hF2:fr (k2 L++t) q=F2 at n0 n1 ⊢;have f2':ah F2 (.int 0)=some (.tup ((k2 L++t).map kf)):=by rw[<-hF2];rfl
 generalize hR1:R1.map D.tup=Q1 at st ⊢;generalize hot:ot L A B V=O at sb c7;have ol:O.length<=B.length:=by rw[<-hot];exact RC _ _
 simp! only[t0,t1,f1,Pa,kL,c5,n0,st,Ja,n1,ad,b,c7];refine cy (Q:=λz=>z=.ok (.tup [.tup Q1,.tup (R2.map .tup)])) (λi ρ=>ρ=[none,‹.tup [F1,F2]›,none,‹.tup (V.map .tup)›,‹.int L.length›,‹.tup Q1›,none,some (.own (.lst ((O++fo L.length (V.take i)).map .tup))),none]) ?_ (by rw[P4];show _=_;unfold fo;rw[List.flatMap_nil,Pj]) ?_
 ·rintro i d ρ kk hd rfl;have hi:=bu hd;rw[Pa]at hi;rw[Pr,Qd hi]at hd;cases hd;have hv:=QT hi;have d:=h.ve V[i] hv;have ix:=yt d;have wl:=d.w.tb.s.ln;have fl:=h.fl;have fs:=Ct (m:=L.length) (Pt i V);have le:∀a0 a1 a2 a3 a5 a6 a7:Option S,du [none,some 8,some 4] (az (f2 ah (ae 8) (lP (fC (.int 1))))) (gN 0) bx (f2 aX (aB (ae 1) au (aQ (ae 2))) (ae 0)) [a0,a1,a2,a3,‹.int L.length›,a5,a6,a7,‹.tup V[i]›]=.ok (.lst (((lw V[i]).map λw=>V[i].take L.length++w).map .tup)):=λ_ _ _ _ _ _ _=>by
   refine cm (ds:=(lw V[i]).map .tup) (by simp! only[ix]) (by rw[Pa];omega) ?_;rw[QW];refine eJ D.tup _ (lw V[i]) λw hw=>⟨[‹.tup w›,‹.tup V[i]›,‹.int L.length›],rfl,rfl,?_⟩
   have wl:=(d.w.rw w hw).1;rw[Pa]at wl;have ad:=cR (V[i].take L.length) w (by rw[Pm];omega);simp! only[dj,ad];rfl
  have st':fo L.length (V.take (i+1))=fo L.length (V.take i)++(lw V[i]).map λw=>V[i].take L.length++w:=by
   unfold fo;rw[RA hi,RP];simp
  have em:(O++(fo L.length (V.take i)++(lw V[i]).map λw=>V[i].take L.length++w)).map D.tup=(O++fo L.length (V.take i)).map D.tup++((lw V[i]).map λw=>V[i].take L.length++w).map D.tup:=by rw[<-Qr,Qk]
  rw[st',em];refine⟨_,_,rfl,rfl,?_⟩;have sx:=λK:Ks=>IZ (i:=7) (f:=du [none,some 8,some 4] (az (f2 ah (ae 8) (lP (fC (.int 1))))) (gN 0) bx (f2 aX (aB (ae 1) au (aQ (ae 2))) (ae 0))) K [none,‹.tup [F1,F2]›,none,‹.tup (V.map .tup)›,‹.int L.length›,‹.tup Q1›,none,some (.own (.lst ((O++fo L.length (V.take i)).map .tup))),‹.tup V[i]›] rfl (by rw[Pa,Pa,Pa,Pw];omega) (le _ _ _ _ _ _ _);generalize ((lw V[i]).map λw=>V[i].take L.length++w).map D.tup=Y1 at *;generalize (O++fo L.length (V.take i)).map D.tup=Y2 at *;simp! only[sx]
 ·rintro ρ' rfl;rw[Pa,Rb (O1 _),hT];simp! only[t0,t1,f2',Pa,kl,sb,p3]
theorem GA(o:D)(ok:Ok L)(l8:L.length<=8)(r8:r.length<=8)(t8:L.length+t.length<=8)(q8:q.length<=8){A B:aE}(tA:Tw (so L) r.length A)(tB:Tw (sp L t) q.length B):aG cA 3 5 [o,.tup [fr (k1 L) r,fr (k2 L++t) q],.tup [.tup (A.map .tup),.tup (B.map .tup)]]=.ok (.tup (((A.filter λa=>aF (bk L) a).map (gw L.length B)).map .tup)):=by
 have ta:=tA.tb;rw[cn]at ta;exact IL o ok l8 ta.s.sh ta.s.ln (λa ha=>by have:=(tA.rw a ha).1;rw[cn]at this;omega) (tB.tab (by rw[dW];omega)) (by rw[dW];omega) (o0 L t)
end
theorem KR{r:List D}{m:Nat}{d:D}(h:r[m]?=some d):ah (.tup r) (.int m)=some d:=by
 have hl:=bu h;rw[Ir,jD (O3 _) ‹0›];rw[Qd hl]at h;exact h
theorem xf{n:Nat}(ih:∀a b,AL n a->AL n b->pyEq a b=true->a=b):∀xs ys:List D,(∀x∈xs,AL n x)->(∀y∈ys,AL n y)->pyEqL xs ys=true->xs=ys
 |[],[],_,_,_=>rfl
 |[],_::_,_,_,h=>by unfold pyEqL at h;cases h
 |_::_,[],_,_,h=>by unfold pyEqL at h;cases h
 |x::xs,y::ys,hx,hy,h=>by
  unfold pyEqL at h;rw[Pz]at h;rw[ih x y (hx x OU) (hy y OU) h.1,xf ih xs ys (λz hz=>hx z (OV _ hz)) (λz hz=>hy z (OV _ hz)) h.2]
theorem CP{a b:D}(ha:AL 0 a)(hb:AL 0 b)(h:pyEq a b=true):a=b:=by
 rcases ha with⟨i,rfl⟩|⟨x,rfl⟩<;>rcases hb with⟨j,rfl⟩|⟨y,rfl⟩<;>unfold pyEq at h
 ·rw[eq_of_beq h]
 ·cases h
 ·cases h
 ·rw[eq_of_beq h]
theorem Gn:∀n a b,AL n a->AL n b->pyEq a b=true->a=b
 |0,_,_,ha,hb,h=>CP ha hb h
 |n+1,a,b,ha,hb,h=>by
  rcases ha with ha|⟨xs,rfl,_,hx⟩
  ·rcases hb with hb|⟨ys,rfl,_,hy⟩
   ·exact CP ha hb h
   ·rcases ha with⟨i,rfl⟩|⟨x,rfl⟩<;>unfold pyEq at h<;>cases h
  ·rcases hb with hb|⟨ys,rfl,_,hy⟩
   ·rcases hb with⟨i,rfl⟩|⟨x,rfl⟩<;>unfold pyEq at h<;>cases h
   ·rw[pyEq]at h;rw[xf (Gn n) xs ys hx hy h]
theorem B6:∀(n g:Nat)(a:D),AL n a->n<=g->cJ g a=true
 |0,g,a,ha,_=>by rcases ha with⟨i,rfl⟩|⟨x,rfl⟩<;>cases g<;>rfl
 |n+1,g,a,ha,hg=>by
  rcases ha with(⟨i,rfl⟩|⟨x,rfl⟩)|⟨xs,rfl,_,hx⟩
  ·cases g<;>rfl
  ·cases g<;>rfl
  ·obtain⟨g,rfl⟩:∃g',g=g'+1:=⟨g-1,by omega⟩
   show xs.all (cJ g)=true;exact List.all_eq_true.mpr λx h=>B6 n g x (hx x h) ‹0›
noncomputable abbrev A4(a:List D):Prop:=∀v∈a,AL 4 v
section
open Classical
variable{τ:bM}{m:Nat}{T:aE}{x:List D}
theorem A7(hT:∀a∈T,A4 a)(hx:A4 x):inD (.tup x) (T.map .tup)=decide (x∈T):=by
 unfold inD;rw[QX,RF,Ry,decide_eq_true_iff];constructor
 ·rintro⟨g,hg,eq⟩;have eq:pyEq (.tup g) (.tup x)=true:=eq;rw[pyEq]at eq;rw[<-xf (Gn 4) g x (hT g hg) hx eq];exact hg
 ·intro h;exact⟨x,h,kX (.tup x)⟩
theorem xU(hT:∀a∈T,A4 a)(hx:A4 x):((pl (.tup x)&&jJ (T.map .tup))&&cJ 8 (.tup x))=true:=by
 have d:cJ 8 (.tup x)=true:=List.all_eq_true.mpr λv h=>B6 4 7 v (hx v h) (by decide);rw[d,cz,lK λv h=>Bi (hx v h),lK λd hd=>by
  obtain⟨a,ha,rfl⟩:=List.mem_map.mp hd;rw[cz];exact lK λv h=>Bi (hT a ha v h)];rfl
theorem G9(hT:∀a∈T,A4 a)(hx:A4 x):dH (.tup x) (.lst (T.map .tup))=some (.bl (!decide (x∈T))):=by
 have e:dH (.tup x) (.lst (T.map .tup))=if((pl (.tup x)&&jJ (T.map .tup))&&cJ 8 (.tup x))=true then some (.bl (!inD (.tup x) (T.map .tup)))else none:=rfl
 rw[e,if_pos (xU hT hx),A7 hT hx]
theorem JG(hT:∀a∈T,A4 a)(hx:A4 x):oR (.tup x) (.lst (T.map .tup))=some (.bl (decide (x∈T))):=by
 have e:oR (.tup x) (.lst (T.map .tup))=if((pl (.tup x)&&jJ (T.map .tup))&&cJ 8 (.tup x))=true then some (.bl (inD (.tup x) (T.map .tup)))else none:=rfl
 rw[e,if_pos (xU hT hx),A7 hT hx]
theorem Hm(hT:∀a∈T,A4 a)(hx:A4 x):dH (.tup x) (.tup (T.map .tup))=some (.bl (!decide (x∈T))):=G9 hT hx
theorem yR(h:A4 x)(k:Nat):A4 (x.take k):=λv hv=>h v (RE hv)
theorem sG(t:Tb τ m T):aG dP 2 3 [.tup (T.map .tup),.int m]=.ok (.bl true):=by
 have ln:=t.s.ln;have rn:jm [.int ((T.length:Int)-1)]=some (dD 0 (T.length-1)):=by
  show(if okR ((T.length:Int)-1)then some (dD 0 ((T.length:Int)-1).toNat)else none)=_;have o:okR ((T.length:Int)-1)=true:=decide_eq_true ⟨by omega,by omega⟩;rw[o,show((T.length:Int)-1).toNat=T.length-1 by omega];rfl
 rw[cG];unfold dP;simp! only[Pa,rn];refine cy (Q:=λz=>z=.ok (.bl true)) (λi ρ=>ρ=[‹.tup (T.map .tup)›,‹.int m›,none]) ?_ rfl ?_
 ·rintro i d ρ kk hd rfl;have hi:=bu hd;rw[bU]at hi;have hdi:d=.int (i:Int):=by
   rw[fK,Pr,Qo hi]at hd;cases hd;simp
  subst hdi;have x1:ah (.tup (T.map .tup)) (.int (i:Int))=some (.tup T[i]):=KR (by rw[Pr,Qd ‹0›];rfl);have x2:ah (.tup (T.map .tup)) (.int ((i:Int)+1))=some (.tup T[i+1]):=by
   have:(i:Int)+1=((i+1:Nat):Int):=(by omega);rw[this];exact KR (by rw[Pr,Qd ‹0›];rfl)
  have lt:=HR (t.s.sh T[i] (QT _)) (t.s.sh T[i+1] (QT _));rw[EY.mpr (List.pairwise_iff_getElem.mp t.ri i (i+1) ‹0› ‹0› ‹0›)]at lt;refine⟨_,_,rfl,rfl,?_⟩;generalize T.map D.tup=W at *;simp! only[x1,x2,dj,lt]
 ·rintro ρ' rfl;rfl
theorem LK(hT:∀a∈T,A4 a)(hx:A4 x):oR (.tup x) (.tup (T.map .tup))=some (.bl (decide (x∈T))):=JG hT hx
end
section
open Classical
variable{L:List ZP}{t:KL}{q r:fu}{n m l:Nat}
theorem Tw.A4{σ:bM}{w:Nat}{A:aE}(T:Tw σ w A):∀a∈A,Tk58.A4 a:=λa ha=>(T.rw a ha).2.2
theorem first_is(ok:Ok L)(l8:L.length<=8){A B V R1 R2:aE}(tA:Tw (so L) r.length A)(h:Vt L t r.length q V)(P:Pg L t A B V R1 R2):aG cE 5 7 [fr (k1 L) r,fr (k2 L++t) q,.tup (A.map .tup),.tup (R1.map .tup),.tup (V.map .tup)]=.ok (.bl true):=by
 have vl:=h.tb.s.ln;have t1':=P.tw1 tA h;have hA:=tA.A4;have h1:=t1'.A4;have hV:∀a∈V.map List.dropLast,A4 a:=λa ha=>by
  obtain⟨v,hv,rfl⟩:=List.mem_map.mp ha;exact(h.ve v hv).u.2.2
 have kb:aG aZ 2 5 [fr (k1 L) r,fr (k2 L++t) q]=.ok (.tup ((bk L).map kf)):=qy ok ‹0› t (.tup (r.map fld)) (.tup (q.map fld));have ft:∀a:List D,Rw (so L) r.length a->aG cU 2 5 [.tup ((bk L).map kf),.tup a]=.ok (.bl (aF (bk L) a)):=λa ha=>C8 (k:=bk L) (by
  have:=ha.2.1
  rw[cn]at this;rw[xn];exact this)
 have c5:∀a0 a1 a2 a3 a5 a6:Option S,du [none] (az (ae 4)) (gN 0) bx (aB (ae 0) au (aQ (lP (fC (.int 1))))) [a0,a1,a2,a3,‹.tup (V.map .tup)›,a5,a6]=.ok (.lst ((V.map List.dropLast).map .tup)):=λ_ _ _ _ _ _=>by
  rw[QW];exact wK D.tup _ V _ _ _ (by simp! only[]) ‹0› λv hv=>by
   have:=GX (h.ve v hv)
   simp! only[this];rfl
 have n1:=λx (hx:A4 x)=>G9 hV hx;have n2:=λx (hx:A4 x)=>Hm hA hx;have n3:=λx (hx:A4 x)=>Hm h1 hx;obtain⟨Z,hZ⟩:∃Z:bI,Z=(bQ [0,1,4,6] (ai (eS (az (ae 2)) (gN 6) (ai (eQ (j8 (lj (cH (fR (aG cU 2 5) (aa (ae 5) (aa (ae 6) af))))) (fB (f2 dH (ae 6) (ae 3)))) (aJ (fC (.bl false))) aV) (bQ [6] aV))) (aJ (fC (.bl true))))):=⟨_,rfl⟩
 rw[tQ];unfold cE;rw[<-hZ];generalize fr (k1 L) r=F1 at *;generalize fr (k2 L++t) q=F2 at *;generalize (V.map List.dropLast).map D.tup=WD at *;generalize (bk L).map kf=KB at *;simp! only[kb];refine cy (Q:=λz=>z=.ok (.bl true)) (λi ρ=>ρ=[none,none,‹.tup (A.map .tup)›,‹.tup (R1.map .tup)›,‹.tup (V.map .tup)›,‹.tup KB›,none]) ?_ rfl ?_
 ·rintro i d ρ kk hd rfl;have hi:=bu hd;rw[Pa]at hi;rw[Pr,Qd hi]at hd;cases hd;have hm:R1[i]∈R1:=QT hi;generalize R1[i]=a at hm;have y1:=n1 a (h1 a hm);have y3:=ft a (t1'.rw a hm);refine⟨_,_,rfl,rfl,?_⟩;by_cases z:a∈V.map List.dropLast
  ·rw[decide_eq_true z]at y1;simp! only[c5,y1]
  ·rw[decide_eq_false z]at y1;obtain⟨q1,q2⟩:=List.mem_filter.mp ((List.mem_append.mp (P.p1.mem_iff.mp hm)).resolve_left z);have q3:aF (bk L) a=false:=(by simpa using q2);have y2:=n2 a (h1 a hm);rw[decide_eq_true q1]at y2;rw[q3]at y3;simp! only[c5,y1,y2,y3]
 ·rintro ρ' rfl;rw[hZ];simp! only[];refine cy (Q:=λz=>z=.ok (.bl true)) (λi ρ=>ρ=[none,none,‹.tup (A.map .tup)›,‹.tup (R1.map .tup)›,none,‹.tup KB›,none]) ?_ rfl ?_
  ·rintro i d ρ kk hd rfl;have hi:=bu hd;rw[Pa]at hi;rw[Pr,Qd hi]at hd;cases hd;have hm:A[i]∈A:=QT hi;generalize A[i]=a at hm;have y3:=ft a (tA.rw a hm);have y2:=n3 a (hA a hm);refine⟨_,_,rfl,rfl,?_⟩;by_cases z:aF (bk L) a=true
   ·rw[z]at y3;simp! only[y3]
   ·have z':aF (bk L) a=false:=(by simpa using z);rw[z']at y3
    have:a∈R1:=P.p1.mem_iff.mpr (O2 _ (List.mem_filter.mpr ⟨hm,by rw[z'];rfl⟩))
    rw[decide_eq_true this]at y2;simp! only[y3,y2]
  ·rintro ρ' rfl;rfl
end
theorem Jo{w:List D}(h:jJ w=true):mX (.lst w) (.lst [])=some (.bl (!decide (w=[]))):=by
 have e:mX (.lst w) (.lst [])=if(pl (.lst w)&&pl (.lst []))&&(cJ 8 (.lst w)||cJ 8 (.lst []))then some (.bl (!pyEq (.lst w) (.lst [])))else none:=rfl
 have d:cJ 8 (.lst [])=true:=rfl;have p:pl (.lst ([]:List D))=true:=rfl;rw[e,dE,h,d,p,Bool.or_true,Qf,Qf,if_pos rfl];cases w with
 |nil=>rw[decide_eq_true rfl,pyEq];rfl
 |cons a w=>rw[decide_eq_false (by simp),pyEq];rfl
theorem II{σ:bM}{a b:List D}(h:Sh σ a)(h':Sh σ b):mX (.tup a) (.tup b)=some (.bl (!pyEqL a b)):=by
 have e:mX (.tup a) (.tup b)=if(pl (.tup a)&&pl (.tup b))&&(cJ 8 (.tup a)||cJ 8 (.tup b))then some (.bl (!pyEq (.tup a) (.tup b)))else none:=rfl
 have d:cJ 8 (.tup a)=true:=by show a.all (cJ 7)=true;exact wo 6 h
 rw[e,cz,cz,vC h,vC h',d];show some (D.bl (!pyEq (.tup a) (.tup b)))=_;rw[pyEq]
section
open Classical
variable{m:Nat}
theorem Gw{T:aE}(tl:T.length<=1000){G:bC}{ρ:aj}{i:Nat}(hG:G ρ=.ok (T.map .tup))(hi:inB [none,some i] ρ=[none,‹.int m›]):du [none,some i] G (gN 0) bx (aB (ae 0) au (aQ (ae 1))) ρ=.ok (.lst ((ks m T).map .tup)):=by
 refine cm hG (by rw[Pa];omega) ?_;rw[hi,QW];refine eJ D.tup _ T λr hr=>⟨[‹.tup r›,‹.int m›],rfl,rfl,?_⟩
 simp! only[dj];rfl
end
section
open Classical
variable{L:List ZP}{t:KL}{q r:fu}{n:Nat}
theorem Dz(t1:1<=t.length)(t8:t.length<=8)(tg:∀p∈t,p.2.gd)(q8:q.length<=8)(n2:n<=2)(hq:∀f∈q,KG n f.2)(x:Int)(h0:0<=x)(h1:x<2147483700):∃ws:aE,aL 12 [fr t q,.int x,.int (x/12%3)]=.ok (.tup (ws.map .tup))/\ws.length<=2/\Tw (t.map (·.2.b)) q.length ws:=by
 obtain⟨m,hm,em⟩:∃m:Nat,m<=2/\x/12%3=(m:Int):=⟨(x/12%3).toNat,by omega,by omega⟩
 obtain⟨ws,ev,ri,wl,hw⟩:=ya n 9 (λ_ v=>AL (2*n) v) (u5 n 10 ‹0›) t q t1 t8 q8 tg hq x m h0 h1 ‹0›;have ev:aL 12 [fr t q,.int x,.int m]=.ok (.tup (ws.map .tup)):=ev;have rw':∀w∈ws,Rw (t.map (·.2.b)) q.length w:=λw hw'=>by
  obtain⟨ka,va,rfl,f1,f2,f3⟩:=hw w hw'
  have:=f1.length
  exact⟨by rw[Pw,Pa];omega,by rw[Pa,RB f1.length];exact f1.sh,λv hv=>(List.mem_append.mp hv).elim (λz=>(lV f1.sh v z).of0 _) λz=>AL.le ‹0› (Bp f2 f3 v z)⟩
 refine⟨ws,by rw[em];exact ev,by omega,Tb.of (λz=>by have:=congrArg List.length z;rw[Pa,PN]at this;omega) rfl (λw hw'=>(rw' w hw').2.1) (by rw[Pa];exact ri) ‹0›,rw'⟩
theorem D8(l1:1<=L.length)(l8:L.length<=8)(r8:r.length<=8)(t1:1<=t.length)(t8:t.length<=8)(tg:∀p∈t,p.2.gd)(q8:q.length<=8)(ok:Ok L)(n2:n<=2)(hr:∀f∈r,KG n f.2)(hq:∀f∈q,KG n f.2){A B W:aE}(tA:Tw (so L) r.length A)(tB:Tw (sp L t) q.length B)(tW:Tb (so L) L.length W)(vW:∀v∈W,Ve L t r.length q v)(wl:W.length<62)(fW:(fo L.length W).length<62)(x:Int)(x0:0<=x)(x1:x<2147483650):
  ∃V:aE,Vt L t r.length q V/\V.length<=W.length+1/\(fo L.length V).length<=(fo L.length W).length+2/\aG gg 5 11 [fr (k1 L) r,fr (k2 L++t) q,.tup [.tup (A.map .tup),.tup (B.map .tup)],.tup (W.map .tup),.int x]=.ok (.tup (V.map .tup)):=by
 have kb:aG aZ 2 5 [fr (k1 L) r,fr (k2 L++t) q]=.ok (.tup ((bk L).map kf)):=qy ok ‹0› t (.tup (r.map fld)) (.tup (q.map fld));have la:=tA.tb.s.ln;have lb:=tB.tb.s.ln;have sA:∀a∈A,Sh (so L) (a.take L.length):=λa ha=>by have:=tA.tb.s.sh a ha;rwa [cn]at this
 have sB:∀a∈B,Sh (so L) (a.take L.length):=λa ha=>by
  have:=kr L.length (tB.rw a ha).2.1
  rw[RD,dW,Rg ‹0›,o0]at this;exact this
 have sAB:∀a∈A++B++W,Sh (so L) (a.take L.length):=λa ha=>(List.mem_append.mp ha).elim (λz=>(List.mem_append.mp z).elim (sA a) (sB a)) (tW.s.sh a);have ad:=cR (A.map .tup) (B.map .tup) (by rw[Pa,Pa];omega);rw[<-Qk]at ad;have ad2:=cR ((A++B).map .tup) (W.map .tup) (by rw[Pa,Pa,Pw];omega);rw[<-Qk]at ad2;have abl:(A++B++W).length<=200:=by rw[Pw,Pw];omega
 have c7:∀a0 a1 a4 a6 a7 a8 a9 a10:Option S,du [none,some 5] (az (f2 aX (f2 aX (f2 ah (ae 2) (fC (.int 0))) (f2 ah (ae 2) (fC (.int 1)))) (ae 3))) (gN 0) bx (aB (ae 0) au (aQ (ae 1))) [a0,a1,‹.tup [.tup (A.map .tup),.tup (B.map .tup)]›,‹.tup (W.map .tup)›,a4,‹.int L.length›,a6,a7,a8,a9,a10]=.ok (.lst ((ks L.length (A++B++W)).map .tup)):=λ_ _ _ _ _ _ _ _=>Gw ‹0› (by simp! only[t0,t1,ad,ad2]) rfl;have nn:=Jo (w:=(ks L.length (A++B++W)).map .tup) (lK λx hx=>by
  obtain⟨g,hg,rfl⟩:=List.mem_map.mp hx;obtain⟨a,ha,rfl⟩:=List.mem_map.mp hg;rw[cz];exact vC (sAB a ha))
 have pick:(ks L.length (A++B++W)).map D.tup≠[]->∀y:Int,∃f,Sh (so L) f/\ah (.lst ((ks L.length (A++B++W)).map .tup)) (.int (y%(((ks L.length (A++B++W)).map D.tup).length:Int)))=some (.tup f):=λne y=>by
  have ul:0<((ks L.length (A++B++W)).map D.tup).length:=List.length_pos_iff.mpr ne;have q1:=Rt y (show(((ks L.length (A++B++W)).map D.tup).length:Int)≠0 by omega);have q2:=Ru y (show(0:Int)<(((ks L.length (A++B++W)).map D.tup).length:Int)by omega);have hm:=QT (l:=(ks L.length (A++B++W)).map D.tup) (n:=(y%(((ks L.length (A++B++W)).map D.tup).length:Int)).toNat) ‹0›;obtain⟨g,hg,eg⟩:=List.mem_map.mp hm;obtain⟨a,ha,rfl⟩:=List.mem_map.mp hg;exact⟨_,sAB a ha,by rw[EA,jD q1 q2,<-eg]⟩
 have g5:=gm 5;have g4:=gm 4;have g3:=gm 3;have g2:=gm 2;have d2:=gd 2;have d4:=gd 4;have d8:=gd 8;have d12:=gd 12;have i0:ah (fr (k1 L) r) (.int 0)=some (.tup ((k1 L).map kf)):=rfl;have i1:ah (fr (k1 L) r) (.int 1)=some (.tup (r.map fld)):=rfl;have j0:ah (fr (k2 L++t) q) (.int 0)=some (.tup ((k2 L++t).map kf)):=rfl;have j1:ah (fr (k2 L++t) q) (.int 1)=some (.tup (q.map fld)):=rfl;have cf:cutD ((k2 L++t).map kf) (some (L.length:Int)) none=t.map kf:=by
  rw[p5,Qk,RL (by rw[Pa,Pa])]
 have kL:(k1 L).length=L.length:=Pa _;have bl:(bk L).length=L.length:=xn L;obtain⟨w,w0,w1,ew⟩:=eK x x0 ‹0›;obtain⟨h,hh0,hh1,eh⟩:∃h:Int,0<=h/\h<2147483700/\ah (.lst [.int x,.int (x%5)]) (.int (x/2%2))=some (.int h):=by
  rcases(show x/2%2=0\/x/2%2=1 by omega)with u|u<;>rw[u]
  ·exact⟨x,by omega,by omega,rfl⟩
  ·exact⟨x%5,by omega,by omega,rfl⟩
 obtain⟨vs,ev,v1,v2,v3⟩:=jg n n2 (bk L) [] ‹0› (by decide) (vH ok) (λ_ h=>nomatch h) ((bk L).map kf) (by rw[Pj,qx]) h hh0 hh1;have v1:vs.length=(bk L).length+0:=v1;rw[Rb ‹0›]at v2;obtain⟨us,eu,u1,_,u3⟩:=jg n n2 [] r (by decide) r8 (λ_ h=>nomatch h) hr (r.map fld) rfl w w0 ‹0›;have u1:us.length=0+r.length:=u1;obtain⟨ws,ei,wsl,tw⟩:=Dz (n:=n) t1 t8 tg q8 n2 hq x x0 ‹0›;have mt:oI [.tup (t.map kf),.tup (q.map fld)]=some (fr t q):=nr rfl;obtain⟨F,hF⟩:∃F:bI,F=(ai (iC 9 (du [none,some 5,some 8] (az (ae 3)) (gN 0) (fB (f2 mX (aB (ae 0) au (aQ (ae 1))) (ae 2))) (ae 0))) (ai (eQ (j8 (fB (f2 DR (f2 bG (f2 b8 (ae 4) (fC (.int 4))) (fC (.int 3))) (fC (.int 0)))) (cH (fR (aG cU 2 5) (aa (ae 6) (aa (ae 8) af))))) (ai (aM 10 (fR (aL 12) (aa (bE (aa (aB (f2 ah (ae 1) (fC (.int 0))) (aQ (ae 5)) au) (aa (f2 ah (ae 1) (fC (.int 1))) af))) (aa (ae 4) (aa (f2 bG (f2 b8 (ae 4) (fC (.int 12))) (fC (.int 3))) af))))) (xR 9 eG (aa (f2 aX (f2 aX (ae 8) (fR (aG bB 2 2) (aa (f2 ah (ae 0) (fC (.int 1))) (aa (fR (aG aN 1 1) (aa (ae 4) af)) af)))) (bE (aa (ae 10) af))) af))) aV) (eT 9 (aJ (fR (aG bh 2 4) (aa (ae 5) (aa (ae 9) af))))))):=⟨_,rfl⟩
 rw[tQ];unfold gg;rw[<-hF];generalize fr (k1 L) r=G1 at *;generalize fr (k2 L++t) q=G2 at *;generalize fr t q=G3 at *;generalize hKS:(ks L.length (A++B++W)).map D.tup=KS at *;have rest:∀f,Sh (so L) f->∃V:aE,Vt L t r.length q V/\V.length<=W.length+1/\(fo L.length V).length<=(fo L.length W).length+2/\F K0 [‹G1›,‹G2›,‹.tup [.tup (A.map .tup),.tup (B.map .tup)]›,‹.tup (W.map .tup)›,‹.int x›,‹.int L.length›,‹.tup ((bk L).map kf)›,‹.lst KS›,‹.tup f›,none,none]=.ok (.tup (V.map .tup)):=λf hf=>by
  have fl:=hf.length;rw[cn]at fl;have fi:=C8 (k:=bk L) (vs:=f) (by rw[bl,Rb ‹0›];exact hf);obtain⟨R0,hR0⟩:∃R0,R0=W.filter λa=>!pyEqL (a.take L.length) f:=⟨_,rfl⟩
  have sl:R0.Sublist W:=by rw[hR0];exact RU
  have rl:=sl.length_le;have s0:=tW.s.sub sl;have f0:=Ct (m:=L.length) sl;have v0:∀v∈R0,Ve L t r.length q v:=λv hv=>vW v (sl.subset hv);have lc:du [none,some 5,some 8] (az (ae 3)) (gN 0) (fB (f2 mX (aB (ae 0) au (aQ (ae 1))) (ae 2))) (ae 0) [‹G1›,‹G2›,‹.tup [.tup (A.map .tup),.tup (B.map .tup)]›,‹.tup (W.map .tup)›,‹.int x›,‹.int L.length›,‹.tup ((bk L).map kf)›,‹.lst KS›,‹.tup f›,none,none]=.ok (.lst (R0.map .tup)):=by
   refine cm (ds:=W.map .tup) (by simp! only[]) (by rw[Pa];omega) ?_;rw[hR0];refine mU (ρ:=[none,‹.int L.length›,‹.tup f›]) (g:=gN 0) (C:=fB (f2 mX (aB (ae 0) au (aQ (ae 1))) (ae 2))) (Fe:=ae 0) D.tup (λa=>!pyEqL (a.take L.length) f) D.tup W λa ha=>⟨[‹.tup a›,‹.int L.length›,‹.tup f›],rfl,?_,λ_=>rfl⟩
   have:=II (tW.s.sh a ha) hf
   simp! only[dj,this]
  have no:∀(c1 c2:Bool),(c1&&c2)=false->decide (x/4%3>0)=c1->aF (bk L) f=c2->∃V:aE,Vt L t r.length q V/\V.length<=W.length+1/\(fo L.length V).length<=(fo L.length W).length+2/\F K0 [‹G1›,‹G2›,‹.tup [.tup (A.map .tup),.tup (B.map .tup)]›,‹.tup (W.map .tup)›,‹.int x›,‹.int L.length›,‹.tup ((bk L).map kf)›,‹.lst KS›,‹.tup f›,none,none]=.ok (.tup (V.map .tup)):=λc1 c2 hc h1 h2=>by
   obtain⟨V,rV,pV⟩:=s0.srt;have eV:=s0.law rV pV;have fp:=xZ (m:=L.length) pV;have lp:=pV.length_eq;refine⟨V,⟨pj s0 pV rV,λv hv=>v0 v (pV.mem_iff.mp hv),by omega⟩,by omega,by omega,?_⟩;rw[hF];rw[h2]at fi;cases c1 with
   |false=>simp! only[lc,d4,g3,h1,eV]
   |true=>
    cases c2 with
    |false=>simp! only[lc,d4,g3,h1,fi,eV]
    |true=>cases hc
  cases h1:decide (x/4%3>0)with
  |false=>exact no false _ rfl h1 rfl
  |true=>
   cases h2:aF (bk L) f with
   |false=>exact no true false rfl h1 h2
   |true=>
    rw[h2]at fi;have a1:=cR f us ‹0›;have a2:=cR (f++us) [D.tup (ws.map .tup)] (by rw[Pw,PC];omega);have tk:(f++us).take L.length=f:=RB ‹0›;have ru:Rw (so L) r.length (f++us):=⟨by rw[Pw,cn];omega,by rw[cn,tk];exact hf,λv hv=>(List.mem_append.mp hv).elim (λz=>(lV hf v z).of0 4) (u3 v)⟩
    have vn:Ve L t r.length q (f++us++[D.tup (ws.map .tup)]):=Ve.mk' ru (by rw[<-h2];exact uz (by rw[tk,Rb ‹0›])) tw;have nk:(f++us++[D.tup (ws.map .tup)]).take L.length=f:=(by rw[<-vn.key,RQ,tk]);have s1:So (so L) L.length (R0++[f++us++[D.tup (ws.map .tup)]]):=by
     refine⟨s0.t0,s0.hm,λy hy=>?_,List.pairwise_append.mpr ⟨s0.pw,QQ _ _,λa ha b hb e=>?_⟩,by rw[Pw,PC];omega⟩
     ·rcases List.mem_append.mp hy with z|z
      ·exact s0.sh y z
      ·rw[List.mem_singleton.mp z,nk];exact hf
     ·rw[List.mem_singleton.mp hb,nk]at e;rw[hR0]at ha
      have:=(List.mem_filter.mp ha).2
      rw[e,jo]at this;cases this
    obtain⟨V,rV,pV⟩:=s1.srt;have eV:=s1.law rV pV;have fp:=xZ (m:=L.length) pV;have lp:=pV.length_eq;rw[Pw,PC]at lp;have fn:(fo L.length [f++us++[D.tup (ws.map .tup)]]).length=ws.length:=by
     unfold fo;rw[List.flatMap_singleton,Pa,yC]
    rw[HV,Pw,fn]at fp;refine⟨V,⟨pj s1 pV rV,λv hv=>?_,by omega⟩,by omega,by omega,?_⟩
    ·rcases List.mem_append.mp (pV.mem_iff.mp hv)with z|z
     ·exact v0 v z
     ·rw[List.mem_singleton.mp z];exact vn
    have ap:eG (R0.map .tup) [.tup (f++us++[D.tup (ws.map .tup)])]=some ((R0++[f++us++[D.tup (ws.map .tup)]]).map .tup):=by
     rw[jn (by rw[Pa];omega),Qk];rfl
    have sm:=λK:Ks=>jq 9 eG (aa (f2 aX (f2 aX (ae 8) (fR (aG bB 2 2) (aa (f2 ah (ae 0) (fC (.int 1))) (aa (fR (aG aN 1 1) (aa (ae 4) af)) af)))) (bE (aa (ae 10) af))) af) K [‹G1›,‹G2›,‹.tup [.tup (A.map .tup),.tup (B.map .tup)]›,‹.tup (W.map .tup)›,‹.int x›,‹.int L.length›,‹.tup ((bk L).map kf)›,‹.lst KS›,‹.tup f›,some (.own (.lst (R0.map .tup))),‹.tup (ws.map .tup)›] (xs:=R0.map .tup) rfl;rw[hF];generalize (R0++[f++us++[D.tup (ws.map .tup)]]).map D.tup=Y1 at *;generalize R0.map D.tup=Y0 at *;generalize ws.map D.tup=Y2 at *;simp! only[lc,d4,g3,h1,fi,j0,cf,j1,mt,d12,ei,sm,i1,ew,eu,a1,Ny,a2,ap,eV]
 simp only[K0]at rest;by_cases hc:x%4>1/\KS≠[]
 ·obtain⟨f,hf,ef⟩:=pick hc.2 (x/8);obtain⟨V,tV,lv,fv,er⟩:=rest f hf;have b1:decide (x%4>1)=true:=decide_eq_true hc.1;have gl:=λi=>dQ (i:=i) (show(0:Int)<(KS.length:Int)by have:=List.length_pos_iff.mpr hc.2;omega);rw[decide_eq_false hc.2]at nn;refine⟨V,tV,lv,fv,?_⟩;rw[<-er];simp! only[i0,Pa,kL,kb,c7,g5,l2,d2,g2,eh,ev,g4,b1,Jn,nn,d8,gl,ef]
 ·obtain⟨V,tV,lv,fv,er⟩:=rest vs v2.sh;refine⟨V,tV,lv,fv,?_⟩;rw[<-er];cases b1:decide (x%4>1)with
  |false=>simp! only[i0,Pa,kL,kb,c7,g5,l2,d2,g2,eh,ev,g4,b1]
  |true=>
   have ke:KS=[]:=Classical.byContradiction λne=>hc ⟨of_decide_eq_true b1,ne⟩;rw[decide_eq_true ke]at nn;simp! only[i0,Pa,kL,kb,c7,g5,l2,d2,g2,eh,ev,g4,b1,Jn,nn]
end
section
open Classical
variable{τ:bM}{L:List ZP}{t:KL}{q r:fu}{n m:Nat}
theorem Gy{f:List D}(zs:Sh τ f):eF (.tup f)=some (kq f):=by
 conv=>lhs;rw[<-lF zs]
 exact bH _
theorem Kl(al:bV){f:List D}(zs:Sh τ f):cY (.tup f) (bD al)=some (.bl (!(al.any λp=>decide (p.1=kq f)))):=by
 show(jH (encK al) (al.map (·.2)) (.tup f)).bind pH=_;unfold jH;rw[dX];show((eF (.tup f)).bind λk=>some (D.bl (al.any λp=>decide (p.1=k)))).bind pH=_;rw[Gy zs];rfl
theorem Hg(al:bV){f:List D}(zs:Sh τ f)(d:D):lZ (encK al) (al.map (·.2)) (.tup f) d=some ((iw al (kq f)).getD d):=by
 unfold lZ;rw[dX];show((eF (.tup f)).bind λq=>some ((iw al q).getD d))=_;rw[Gy zs];rfl
noncomputable abbrev wa(m:Nat)(V:aE):bV:=V.map λv=>(kq (v.take m),.lst (((lw v).map λw=>v.take m++w).map .tup))
theorem IK{V:aE}(h:So τ m V){f:List D}(zs:Sh τ f):((wa m V).any λp=>decide (p.1=kq f))=decide (f∈ks m V):=by
 rw[RF,Ry,decide_eq_true_iff];constructor
 ·rintro⟨p,hp,e⟩;obtain⟨a,ha,rfl⟩:=List.mem_map.mp hp;exact List.mem_map.mpr ⟨a,ha,iz (h.sh a ha) zs (of_decide_eq_true e)⟩
 ·intro z;obtain⟨a,ha,e⟩:=List.mem_map.mp z;exact⟨_,List.mem_map.mpr ⟨a,ha,rfl⟩,decide_eq_true (by show kq (a.take m)=_;rw[show a.take m=f from e])⟩
theorem Br{V:aE}(h:So τ m V):((wa m V).map (·.1)).Nodup:=by
 rw[QW];exact List.pairwise_map.mpr (h.pw.imp_of_mem λ{a b} ha hb ne e=>ne (iz (h.sh a ha) (h.sh b hb) e))
theorem G5{V:aE}(h:So τ m V){i:Nat}(hi:i<V.length):fw (wa m (V.take i)) (kq (V[i].take m)) (.lst (((lw V[i]).map λw=>V[i].take m++w).map .tup))=wa m (V.take (i+1)):=by
 have nd:=Br (h.sub (Pt (i+1) V));have e:=mK (wa m (V.take (i+1))) [] (by rw[Qi];exact nd);have e0:=mK (wa m (V.take i)) [] (by rw[Qi];exact Br (h.sub (Pt i V)));rw[Qi]at e e0;rw[<-e,RA hi];unfold wa;rw[Qk,Rv];unfold wa at e0;rw[e0];rfl
theorem Lx(a b:Bool)(h:a≠b):gx (.bl a) (.bl b)=some (.bl false):=by
 cases a<;>cases b
 ·exact absurd rfl h
 ·kernel_rfl
 ·kernel_rfl
 ·exact absurd rfl h
theorem BV(l1:1<=L.length)(l8:L.length<=8)(t8:t.length<=8)(q8:q.length<=8){A B V R1 R2:aE}(tA:Tw (so L) r.length A)(tB:Tw (sp L t) q.length B)(h:Vt L t r.length q V)(P:Pg L t A B V R1 R2):aG cF 5 9 [fr (k1 L) r,.tup (B.map .tup),.tup (R2.map .tup),.tup ((((A.filter λa=>aF (bk L) a).map (gw L.length B))).map .tup),.tup (V.map .tup)]=.ok (.bl true):=by
 have vl:=h.tb.s.ln;have la:=tA.tb.s.ln;obtain⟨W,hW⟩:∃W,W=(A.filter λa=>aF (bk L) a).map (gw L.length B):=⟨_,rfl⟩
 rw[<-hW];have wl:W.length<64:=by
  rw[hW,Pa]
  have:=RC (λa=>aF (bk L) a) A
  omega
 have kW:ks L.length W=ks L.length (sn L A):=by
  rw[hW];unfold ks;rw[QW];have e:(A.filter λa=>aF (bk L) a)=sn L A:=RK λa _=>by cases aF (bk L) a<;>rfl
  rw[e];refine Qj λa ha=>?_
  have:=(tA.rw a (List.mem_filter.mp ha).1).1
  rw[cn]at this;exact RT ‹0›
 have t2':=P.tw2 tB h;have hB:=tB.A4;have h2:=t2'.A4;have sS:∀{x:List D},Rw (sp L t) q.length x->Sh (so L) (x.take L.length):=λ{x} hx=>by
  have:=kr L.length hx.2.1
  rw[RD,dW,Rg ‹0›,o0]at this;exact this
 have hv4:∀v∈V,∀a∈(lw v).map λw=>v.take L.length++w,A4 a:=λv hv a ha=>by
  obtain⟨w,hw,rfl⟩:=List.mem_map.mp ha;exact(h.rw _ (Mg.mpr ⟨v,hv,w,hw,rfl⟩)).2.2
 have k4:∀a∈ks L.length W,A4 a:=λa ha=>by
  rw[kW]at ha;obtain⟨b,hb,rfl⟩:=List.mem_map.mp ha;exact yR (tA.A4 b (List.mem_filter.mp hb).1) _
 have kL:(k1 L).length=L.length:=Pa _;have c8:∀a0 a1 a2 a4 a6 a7 a8:Option S,du [none,some 5] (az (ae 3)) (gN 0) bx (aB (ae 0) au (aQ (ae 1))) [a0,a1,a2,‹.tup (W.map .tup)›,a4,‹.int L.length›,a6,a7,a8]=.ok (.lst ((ks L.length W).map .tup)):=λ_ _ _ _ _ _ _=>Gw ‹0› (by simp! only[]) rfl;have i0:ah (fr (k1 L) r) (.int 0)=some (.tup ((k1 L).map kf)):=rfl;obtain⟨Z1,hZ1⟩:∃Z1:bI,Z1=(ai (aM 8 (du [none,some 5] (az (ae 3)) (gN 0) bx (aB (ae 0) au (aQ (ae 1))))) (eT 6 (bQ [0,3,4,7] (ai (eS (az (ae 2)) (gN 7) (ai (eQ (fB (f2 dH (ae 7) (iE (ae 6) (aB (ae 7) au (aQ (ae 5))) (ae 1)))) (aJ (fC (.bl false))) aV) (bQ [7] aV))) (bQ [0,3,4,7] (ai (eS (az (ae 1)) (gN 7) (ai (eQ (j8 (fB (f2 cY (aB (ae 7) au (aQ (ae 5))) (ae 6))) (fB (f2 gx (f2 oR (ae 7) (ae 2)) (f2 oR (aB (ae 7) au (aQ (ae 5))) (ae 8))))) (aJ (fC (.bl false))) aV) (bQ [7] aV))) (aJ (fC (.bl true))))))))):=⟨_,rfl⟩
 obtain⟨Z2,hZ2⟩:∃Z2:bI,Z2=(bQ [0,3,4,7] (ai (eS (az (ae 1)) (gN 7) (ai (eQ (j8 (fB (f2 cY (aB (ae 7) au (aQ (ae 5))) (ae 6))) (fB (f2 gx (f2 oR (ae 7) (ae 2)) (f2 oR (aB (ae 7) au (aQ (ae 5))) (ae 8))))) (aJ (fC (.bl false))) aV) (bQ [7] aV))) (aJ (fC (.bl true))))):=⟨_,rfl⟩
 rw[tQ];unfold cF;rw[<-hZ1];rw[<-hZ2]at hZ1;generalize fr (k1 L) r=F1 at *;simp! only[i0,Pa,kL,pA];refine cy (Q:=λz=>z=.ok (.bl true)) (λi ρ=>∃x7,ρ=[none,‹.tup (B.map .tup)›,‹.tup (R2.map .tup)›,‹.tup (W.map .tup)›,‹.tup (V.map .tup)›,‹.int L.length›,some (.own (bD (wa L.length (V.take i)))),x7,none]) ?_ ⟨_,rfl⟩ ?_
 ·rintro i d ρ kk hd ⟨x7,rfl⟩;have hi:=bu hd;rw[Pa]at hi;rw[Pr,Qd hi]at hd;cases hd;have d:=h.ve V[i] (QT hi);have ix:=yt d;have wl:=d.w.tb.s.ln;have ct:cutD V[i] none (some (L.length:Int))=(kq (V[i].take L.length)).map aY:=by rw[dj,lF (h.tb.s.sh V[i] (QT hi))]
  have le:∀a0 a1 a2 a3 a4 a6 a8:Option S,du [none,some 7,some 5] (az (f2 ah (ae 7) (lP (fC (.int 1))))) (gN 0) bx (f2 aX (aB (ae 1) au (aQ (ae 2))) (ae 0)) [a0,a1,a2,a3,a4,‹.int L.length›,a6,‹.tup V[i]›,a8]=.ok (.lst (((lw V[i]).map λw=>V[i].take L.length++w).map .tup)):=λ_ _ _ _ _ _ _=>by
   refine cm (ds:=(lw V[i]).map .tup) (by simp! only[ix]) (by rw[Pa];omega) ?_;rw[QW];refine eJ D.tup _ (lw V[i]) λw hw=>⟨[‹.tup w›,‹.tup V[i]›,‹.int L.length›],rfl,rfl,?_⟩
   have wl:=(d.w.rw w hw).1;rw[Pa]at wl;have ad:=cR (V[i].take L.length) w (by rw[Pm];omega);simp! only[dj,ad];rfl
  refine⟨_,_,rfl,⟨‹.tup V[i]›,rfl⟩,?_⟩;have pd:=λK:Ks=>xY (i:=6) (fk:=aB (ae 7) au (aQ (ae 5))) (fv:=du [none,some 7,some 5] (az (f2 ah (ae 7) (lP (fC (.int 1))))) (gN 0) bx (f2 aX (aB (ae 1) au (aQ (ae 2))) (ae 0))) (k:=K) (ρ:=[none,‹.tup (B.map .tup)›,‹.tup (R2.map .tup)›,‹.tup (W.map .tup)›,‹.tup (V.map .tup)›,‹.int L.length›,some (.own (bD (wa L.length (V.take i)))),‹.tup V[i]›,none]) (al:=wa L.length (V.take i)) (q:=kq (V[i].take L.length)) rfl (by simp! only[ct]) (le _ _ _ _ _ _ _) (by rw[Pa,Pm];omega);rw[G5 h.tb.s hi]at pd;generalize bD (wa L.length (V.take (i+1)))=Y at pd ⊢;generalize bD (wa L.length (V.take i))=Z at pd ⊢;simp! only[pd]
 rintro ρ' ⟨x7,rfl⟩;rw[Pa,Rb (O1 _),hZ1];have nt:=λx (hx:Rw (sp L t) q.length x)=>Kl (wa L.length V) (sS hx);have ed:∀(fk fx:FX)(ρ:aj),ρ[6]?=some (‹bD (wa L.length V)›)->iE (ae 6) fk fx ρ=(fk ρ).bind λk=>(fx ρ).bind λy=>rO (lZ (encK (wa L.length V)) ((wa L.length V).map (·.2)) k y):=λfk fx ρ hρ=>by
  show((ae 6 ρ).bind _)=_
  have:ae 6 ρ=.ok (bD (wa L.length V)):=by
   show(match ρ[6]? with|some (‹d›)=>_|_=>_)=_;rw[hρ]
  rw[this];rfl
 have dg:∀x,Rw (sp L t) q.length x->∀a0 a2 a3 a4 a8:Option S,iE (ae 6) (aB (ae 7) au (aQ (ae 5))) (ae 1) [a0,‹.tup (B.map .tup)›,a2,a3,a4,‹.int L.length›,‹bD (wa L.length V)›,‹.tup x›,a8]=.ok ((iw (wa L.length V) (kq (x.take L.length))).getD (.tup (B.map .tup))):=λx hx a0 a2 a3 a4 a8=>by
  have g:=Hg (wa L.length V) (sS hx) (.tup (B.map .tup));rw[ed _ _ _ rfl];generalize bD (wa L.length V)=Z;simp! only[dj,g]
 generalize hDC:bD (wa L.length V)=DC at *;simp! only[c8];refine cy (Q:=λz=>z=.ok (.bl true)) (λi ρ=>ρ=[none,‹.tup (B.map .tup)›,‹.tup (R2.map .tup)›,none,none,‹.int L.length›,‹DC›,none,‹.lst ((ks L.length W).map .tup)›]) ?_ rfl ?_
 ·rintro i d ρ kk hd rfl;have hi:=bu hd;rw[Pa]at hi;rw[Pr,Qd hi]at hd;cases hd;have hm:R2[i]∈R2:=QT hi;generalize R2[i]=a at hm;have y:=dg a (t2'.rw a hm);refine⟨_,_,rfl,rfl,?_⟩;by_cases z:a.take L.length∈ks L.length V
  ·obtain⟨v,hv,e⟩:=List.mem_map.mp z;have e:v.take L.length=a.take L.length:=e;rw[<-e,me (p:=(kq (v.take L.length),D.lst (((lw v).map λw=>v.take L.length++w).map .tup))) (Br h.tb.s) (List.mem_map.mpr ⟨v,hv,rfl⟩)]at y;have ma:a∈(lw v).map λw=>v.take L.length++w:=by
    rcases List.mem_append.mp (P.p2.mem_iff.mp hm)with o|o
    ·exact absurd z (qF o).2.1
    ·obtain⟨v',hv',w,hw,rfl⟩:=Mg.mp o;rw[RB (h.key_len hv')]at e
     have:v=v':=Classical.byContradiction λne=>by
      rcases List.pairwise_iff_getElem.mp h.tb.s.pw with pw;obtain⟨i1,h1,rfl⟩:=Qh hv;obtain⟨i2,h2',rfl⟩:=Qh hv';rcases QP i1 i2 with u|u|u
      ·exact pw i1 i2 h1 h2' u e
      ·subst u;exact ne rfl
      ·exact pw i2 i1 h2' h1 u e.symm
     subst this;exact List.mem_map.mpr ⟨w,hw,rfl⟩
   have n1:=G9 (hv4 v hv) (h2 a hm);rw[decide_eq_true ma]at n1;simp only[Qt]at y;simp! only[y,n1]
  ·rw[x9 λw=>by
    rw[QW]at w;obtain⟨v,hv,e⟩:=List.mem_map.mp w;exact z (List.mem_map.mpr ⟨v,hv,iz (h.tb.s.sh v hv) (sS (t2'.rw a hm)) e⟩)]at y
   have ma:a∈B:=by
    rcases List.mem_append.mp (P.p2.mem_iff.mp hm)with o|o
    ·exact(qF o).1
    ·obtain⟨v,hv,w,hw,rfl⟩:=Mg.mp o;exact absurd (List.mem_map.mpr ⟨v,hv,(RB (h.key_len hv)).symm⟩) z
   have n1:=Hm hB (h2 a hm);rw[decide_eq_true ma]at n1;simp only[PB]at y;simp! only[y,n1]
 rintro ρ' rfl;rw[hZ2];simp! only[];refine cy (Q:=λz=>z=.ok (.bl true)) (λi ρ=>ρ=[none,‹.tup (B.map .tup)›,‹.tup (R2.map .tup)›,none,none,‹.int L.length›,‹DC›,none,‹.lst ((ks L.length W).map .tup)›]) ?_ rfl ?_
 ·rintro i d ρ kk hd rfl;have hi:=bu hd;rw[Pa]at hi;rw[Pr,Qd hi]at hd;cases hd;have hm:B[i]∈B:=QT hi;generalize B[i]=a at hm;have y1:=nt a (tB.rw a hm);rw[IK h.tb.s (sS (tB.rw a hm))]at y1;refine⟨_,_,rfl,rfl,?_⟩;by_cases z:a.take L.length∈ks L.length V
  ·rw[decide_eq_true z]at y1;simp! only[dj,y1]
  ·rw[decide_eq_false z]at y1;have y2:=LK h2 (hB a hm);have y3:=JG k4 (yR (hB a hm) L.length);have ne:decide (a∈R2)≠decide (a.take L.length∈ks L.length W):=by
    rw[kW];by_cases o:a.take L.length∈ks L.length (sn L A)
    ·rw[decide_eq_true o,decide_eq_false λw=>?_]
     ·decide
     rcases List.mem_append.mp (P.p2.mem_iff.mp w)with p|p
     ·exact(qF p).2.2 o
     ·obtain⟨v,hv,w',hw,rfl⟩:=Mg.mp p;exact z (List.mem_map.mpr ⟨v,hv,(RB (h.key_len hv)).symm⟩)
    ·rw[decide_eq_false o,decide_eq_true (P.p2.mem_iff.mpr (OW _ (List.mem_filter.mpr ⟨hm,?_⟩)))]
     ·decide
     rw[Rm,decide_eq_false_iff_not];unfold ks at z o ⊢;rw[Qk];exact λw=>(List.mem_append.mp w).elim z o
   have y4:=Lx _ _ ne;simp! only[dj,y1,y2,y3,y4]
 ·rintro ρ' rfl;rfl
end
noncomputable abbrev AZ(nm:Str):D:=.obj "Gather" ["name"] [.str nm]
theorem mG{nm:Str}{w:Str}{g1 g2:cT}{fo:FX}{fas:bC}{ρ:aj}{as:List D}(h:fo ρ=.ok (AZ nm))(ha:fas ρ=.ok as)(hm:(["name"]:ay).contains w=false):jc w [("Pair",g1),("Gather",g2)] fo fas ρ=g2 (AZ nm::as):=by
 unfold jc;rw[h,cV];have h1:(("Gather":Str)==("Pair":Str))=false:=by decide +kernel
 have:List.lookup ("Gather":Str) [(("Pair":Str),g1),(("Gather":Str),g2)]=some g2:=by
  rw[PV,h1,PV,BEq.rfl]
 simp only[this,hm,ha,cV];rfl
theorem ng:(["name"]:ay).contains "got"=false:=by decide +kernel
theorem np:(["name"]:ay).contains "put"=false:=by decide +kernel
theorem FC(c:Str)(a:Str)(fas:bC)(ρ:aj):fNew c [a] fas ρ=(fas ρ).bind λas=>if as.length=1 then .ok (.obj c [a] as)else un:=nr rfl
theorem Do{A:aE}{k:Nat}(al:A.length<=1000)(h:∀a∈A,a.length<=1000/\∀v∈a,AL k v):AL (k+2) (.tup (A.map .tup)):=
 AL.tup (by rw[Pa];omega) λy hy=>by
  obtain⟨a,ha,rfl⟩:=List.mem_map.mp hy;exact AL.tup (h a ha).1 (h a ha).2
theorem vo{g:GF}{B:bI}{k:Ks}{Q:R D->Prop}(Iv:aj->Prop):∀(ds:List D)(ρ:aj),(∀(j:Nat) d ρ (k':Ks),ds[j]?=some d->Iv ρ->∃ρ1,g d ρ=some ρ1/\(Q (B k' ρ1)\/∃ρ2,Iv ρ2/\B k' ρ1=k'.nx ρ2))->Iv ρ->(∀ρ',Iv ρ'->Q (k.nx ρ'))->Q (f7 g B k ds ρ)
 |[],ρ,_,h,q=>q ρ h
 |d::ds,ρ,st,h,q=>by
  show Q ((rO (g d ρ)).bind λρ1=>B ⟨f7 g B k ds,k.nx,f7 g B k ds,k.ex⟩ ρ1);obtain⟨ρ1,e1,z⟩:=st 0 d ρ ⟨f7 g B k ds,k.nx,f7 g B k ds,k.ex⟩ rfl h;rw[e1,eB,cV];rcases z with z|⟨ρ2,i2,e2⟩
  ·exact z
  ·rw[e2];exact vo Iv ds ρ2 (λj d ρ k' hd=>st (j+1) d ρ k' hd) i2 q
noncomputable abbrev PT:List (Str×(cT)):=[("Pair",(aG h7 4 4)),("Gather",(aG dI 4 9))]
noncomputable abbrev GT:List (Str×(cT)):=[("Pair",(aG fQ 3 3)),("Gather",(aG cA 3 5))]
section
open Classical
variable{L:List ZP}{t:KL}{r q:fu}{n:Nat}
theorem ud:∀{σ:bM}{a:List D}(m:Nat),Sh σ a->Sh (σ.drop m) (a.drop m)
 |_,_,0,h=>h
 |_,_,m+1,.nil=>by rw[P8,P8];exact .nil
 |_,_,m+1,.int i h=>ud m h
 |_,_,m+1,.str i h=>ud m h
theorem KC(t1:1<=t.length){B:aE}(tB:Tw (sp L t) q.length B)(f:List D)(hf:Sh (so L) f):Tw (t.map (·.2.b)) q.length (gp L.length B f):=by
 have fl:=hf.length;rw[cn]at fl;have tb:=tB.tb;rw[dW]at tb;have key:∀b∈B,b.take L.length=f->b.take (L.length+t.length)=f++(b.drop L.length).take t.length:=λb hb e=>by
  conv=>lhs;rw[<-RV L.length b,e]
  exact BC fl
 have rw':∀w∈gp L.length B f,Rw (t.map (·.2.b)) q.length w:=λw hw=>by
  unfold gp at hw;obtain⟨b,hb,rfl⟩:=List.mem_map.mp hw;obtain⟨hb1,hb2⟩:=List.mem_filter.mp hb;have e:=of_decide_eq_true hb2;obtain⟨x1,x2,x3⟩:=tB.rw b hb1;rw[dW]at x1 x2;refine⟨by rw[Py,Pa];omega,?_,λv hv=>x3 v (List.mem_of_mem_drop hv)⟩;rw[Pa];have s:=ud L.length x2;rw[RL (cn L),key b hb1 e,RL fl]at s;exact s
 have ne:t.map (·.2.b)≠[]:=λz=>by have:=congrArg List.length z;rw[Pa,PN]at this;omega
 refine⟨Tb.of ne rfl (λw hw=>(rw' w hw).2.1) ?_ (by have:=CO L.length B f;have:=tb.s.ln;omega),rw'⟩;unfold gp;rw[Pa];refine List.pairwise_map.mpr (List.Pairwise.imp_of_mem (λ{a b} ha hb h=>?_) (tb.ri.sublist RU));obtain⟨ha1,ha2⟩:=List.mem_filter.mp ha;obtain⟨hb1,hb2⟩:=List.mem_filter.mp hb;rw[key a ha1 (of_decide_eq_true ha2),key b hb1 (of_decide_eq_true hb2),mV _ _ hf]at h;exact h
theorem Hs(l1:1<=L.length)(t1:1<=t.length){A B:aE}(tA:Tw (so L) r.length A)(tB:Tw (sp L t) q.length B):Tb (so L) L.length ((A.filter λa=>aF (bk L) a).map (gw L.length B))/\∀v∈(A.filter λa=>aF (bk L) a).map (gw L.length B),Ve L t r.length q v:=by
 have ta:=tA.tb;rw[cn]at ta;have sl:(A.filter λa=>aF (bk L) a).Sublist A:=RU;have tS:Tb (so L) L.length (A.filter λa=>aF (bk L) a):=⟨ta.s.sub sl,ta.ri.sublist sl⟩
 refine⟨tS.map _ λa ha=>?_,λv hv=>?_⟩
 ·have:=(tA.rw a (sl.subset ha)).1
  rw[cn]at this;exact RT ‹0›
 ·obtain⟨a,ha,rfl⟩:=List.mem_map.mp hv;obtain⟨h1,h2⟩:=List.mem_filter.mp ha;exact Ve.mk' (tA.rw a h1) h2 (KC t1 tB _ (ta.s.sh a h1))
theorem K1(A B V:aE):(ot L A B V).length<=(B.filter λb=>!decide (b.take L.length∈ks L.length (A.filter λa=>aF (bk L) a))).length:=by
 have S0:(A.filter λa=>aF (bk L) a)=sn L A:=RK λa _=>by cases aF (bk L) a<;>rfl
 have:=o7 (λb=>!decide (b.take L.length∈ks L.length (V++sn L A))) (λ_=>false) (λb=>!decide (b.take L.length∈ks L.length (A.filter λa=>aF (bk L) a))) (λb hb=>⟨by
   rw[S0];rw[Rm,decide_eq_false_iff_not]at hb ⊢;unfold ks at hb ⊢;rw[Qk]at hb;exact λz=>hb (O2 _ z),rfl⟩) (λ_ h=>nomatch h) B
 exact OQ (Qz _ _) this
theorem Vt.AL(l8:L.length+t.length<=8)(r8:r.length<=8)(q8:q.length<=8){V:aE}(h:Vt L t r.length q V):T4.AL 8 (.tup (V.map .tup)):=by
 refine Do (k:=6) (by have:=h.tb.s.ln;omega) λv hv=>?_;have d:=h.ve v hv;have ul:=d.u.1;rw[cn]at ul;rw[d.e];refine⟨by rw[Pw,PC];omega,λy hy=>?_⟩;rcases List.mem_append.mp hy with z|z
 ·exact AL.le (by decide) (d.u.2.2 y z)
 ·rw[List.mem_singleton.mp z];refine Do (k:=4) (by have:=d.w.tb.s.ln;omega) λw hw=>?_;have x:=d.w.rw w hw
  have:=x.1
  rw[Pa]at this;exact⟨by omega,x.2.2⟩
end
theorem math(ns:List Int)(hl:ns.length<=63):aG oz 1 10 [.lst (ns.map .int)]=.ok (.bl true):=by
 obtain⟨b,L,t,r,q,n,b0,hb,g,ej⟩:=vL ns;obtain⟨nm,hn,en⟩:=tR ns b0 hb g;obtain⟨A0,B0,tA0,tB0,la0,lb0,et⟩:=zC (ns.take 12) g 10 (by decide) (by decide);have l8:=g.l8;have l1:=g.l1;have r8:=g.r8;have q8:=g.q8;have n2:=g.n2;have kL:(k1 L).length=L.length:=Pa _;have kl:(k2 L++t).length=L.length+t.length:=by rw[Pw,Pa]
 have ct:cutD (ns.map D.int) none (some 12)=(ns.take 12).map .int:=by
  have:=dj (ns.map D.int) 12
  rw[<-List.map_take]at this;exact this
 obtain⟨N,hN,rn⟩:∃N:Nat,N<=40/\∀e1 e2:Int,jE [.int (ns.length:Int),.int 15]=some (.int e1)->gZ [.int e1,.int 52]=some (.int e2)->mM [.int 12,.int e2]=some (dD 12 N):=by
  refine⟨((if(52:Int)<(if(15:Int)>(ns.length:Int)then 15 else(ns.length:Int))then 52 else(if(15:Int)>(ns.length:Int)then 15 else(ns.length:Int)))-12).toNat,?_,λe1 e2 h1 h2=>?_⟩
  ·split<;>split<;>omega
  ·rw[gY]at h1;cases h1;rw[hU]at h2;cases h2;generalize he:(if(52:Int)<(if(15:Int)>(ns.length:Int)then 15 else(ns.length:Int))then 52 else(if(15:Int)>(ns.length:Int)then 15 else(ns.length:Int)))=e;have e2:12<=e/\e<=60:=(by rw[<-he];split<;>split<;>omega);show(if okR 12&&okR e then some (dD 12 ((e-12).toNat))else none)=_;have o1:okR 12=true:=decide_eq_true ⟨by decide,by decide⟩;have o2:okR e=true:=decide_eq_true ⟨by omega,by omega⟩;rw[o1,o2];rfl
 have mx:=gY (ns.length:Int) 15;have rn:=rn _ _ mx (hU _ _);have un2:∀(a b:D)(ρ:aj),gT 2 (jL [1,2]) (.tup [a,b]) ρ=some (setV 2 b (setV 1 a ρ)):=λ_ _ _=>rfl;have evU:∀(f:FX)(g:GF)(k:Ks)(ρ:aj),Ft f g k ρ=o4 (f ρ) k ρ λd=>(rO (g d ρ)).bind k.nx:=λ_ _ _ _=>rfl;have i0:ah (fr (k1 L) r) (.int 0)=some (.tup ((k1 L).map kf)):=rfl;have j0:ah (fr (k2 L++t) q) (.int 0)=some (.tup ((k2 L++t).map kf)):=rfl;rw[lH];unfold oz;obtain⟨G1,hG1⟩:∃G,G=fr (k1 L) r:=⟨_,rfl⟩
 obtain⟨G2,hG2⟩:∃G,G=fr (k2 L++t) q:=⟨_,rfl⟩
 rw[<-hG1]at ej et i0 en;rw[<-hG2]at ej et en j0;have nw:=λ(ρ:aj)(fas:bC)(h:fas ρ=.ok [.str nm])=>show fNew "Gather" ["name"] fas ρ=.ok (AZ nm)by rw[FC,h];rfl
 have m5:∀a3 a4 a6 a7 a8 a9:Option S,fNew "Gather" ["name"] (aa (fR (aG bR 3 7) (aa (ae 1) (aa (ae 2) (aa (ae 0) af)))) af) [‹.lst (ns.map .int)›,‹G1›,‹G2›,a3,a4,none,a6,a7,a8,a9]=.ok (AZ nm):=λ_ _ _ _ _ _=>nw _ _ (by simp! only[en]);simp! only[evU,ej,un2,i0,Pa,kL,ct,et,m5,rn];refine vo (Q:=λz=>z=.ok (.bl true)) (λρ=>∃A B,Tw (so L) r.length A/\Tw (sp L t) q.length B/\A.length+B.length<=50/\ρ=[‹.lst (ns.map .int)›,‹G1›,‹G2›,‹.int L.length›,‹.tup [.tup (A.map .tup),.tup (B.map .tup)]›,‹AZ nm›,none,none,none,none]) _ _ ?_ ⟨A0,B0,tA0,tB0,by omega,rfl⟩ ?_
 ·rintro j d ρ kk hd ⟨A,B,tA,tB,lAB,rfl⟩;have hi:=bu hd;rw[bU]at hi;have hdi:d=.int ((12+j:Nat):Int):=by
   rw[fK,Pr,Qo hi]at hd;cases hd;simp
  subst hdi;obtain⟨x,x0,x1,ex⟩:=o6 ns (12+j) ‹0›;obtain⟨tW,vW⟩:=Hs l1 g.t1 tA tB;have ta:=tA.tb;rw[cn]at ta;have o2:=yH B (A.filter λa=>aF (bk L) a) (ta.s.pw.sublist RU);have sU:=o7 (λa=>aF (bk L) a) (λa=>aF (bk L) a==false) (λ_=>true) (λa h=>⟨rfl,by rw[h];rfl⟩) (λ_ _=>rfl) A;rw[show(A.filter λ_=>true)=A from List.filter_eq_self.mpr λ_ _=>rfl]at sU;have sU:(A.filter λa=>aF (bk L) a).length+(uA L A).length<=A.length:=sU;have wl:((A.filter λa=>aF (bk L) a).map (gw L.length B)).length<=A.length:=by rw[Pa];exact RC _ _
  obtain⟨V,tV,lv,fv,eV⟩:=D8 l1 ‹0› ‹0› g.t1 ‹0› g.tg q8 g.ok n2 g.hr g.hq tA tB tW vW ‹0› ‹0› x x0 ‹0›;rw[Pa]at lv;have ol:=K1 (L:=L) A B V;obtain⟨R1,R2,P⟩:=J8 l1 tA tB tV ‹0› ‹0›;have u1:=P.tw1 tA tV;have u2:=P.tw2 tB tV;have g0:=GA (AZ nm) g.ok ‹0› (show r.length<=8 by omega) l8 q8 tA tB;have pt:=JF (AZ nm) g.ok l1 ‹0› ‹0› ‹0› q8 tA tB tV P;have g1:=GA (AZ nm) g.ok ‹0› (show r.length<=8 by omega) l8 q8 u1 u2;rw[back P l1 tV]at g1;have b1:=u1.tb;rw[cn]at b1;have b2:=u2.tb;rw[dW]at b2;have ri1:=sG b1;have ri2:=sG b2;have al:=xh 8 12 _ (by decide) (tV.AL l8 ‹0› q8);have st1:=first_is (B:=B) g.ok ‹0› tA tV P;have st2:=BV l1 ‹0› ‹0› q8 tA tB tV P;rw[<-hG1]at eV g0 pt g1 st1 st2;rw[<-hG2]at eV g0 pt g1 st1;have ty:∀a b:D,jv "tuple" (.tup [a,b])=some (.bl true):=λ_ _=>rfl;have n22:(((2:Nat):Int)==2)=true:=rfl;have l1':(R1.map D.tup).length=R1.length:=Pa _;have l2':(R2.map D.tup).length=R2.length:=Pa _;generalize ((A.filter λa=>aF (bk L) a).map (gw L.length B)).map D.tup=WJ at *;generalize A.map D.tup=WA at *;generalize B.map D.tup=WB at *;generalize V.map D.tup=WV at *;have m7:∀a0 a3 a6 a7 a8 a9:Option S,jc "got" GT (ae 5) (aa (bE (aa (ae 1) (aa (ae 2) af))) (aa (ae 4) af)) [a0,‹G1›,‹G2›,a3,‹.tup [.tup WA,.tup WB]›,‹AZ nm›,a6,a7,a8,a9]=.ok (.tup WJ):=λ_ _ _ _ _ _=>(mG rfl (by simp! only[p3]) ng).trans g0;have m8:∀a0 a3 a6 a7 a9:Option S,jc "put" PT (ae 5) (aa (bE (aa (ae 1) (aa (ae 2) af))) (aa (ae 4) (aa (ae 8) af))) [a0,‹G1›,‹G2›,a3,‹.tup [.tup WA,.tup WB]›,‹AZ nm›,a6,a7,‹.tup WV›,a9]=.ok (.tup [.tup (R1.map .tup),.tup (R2.map .tup)]):=λ_ _ _ _ _=>(mG rfl (by simp! only[p3]) np).trans pt;have m9:∀a0 a3 a4 a6 a7 a8:Option S,jc "got" GT (ae 5) (aa (bE (aa (ae 1) (aa (ae 2) af))) (aa (ae 9) af)) [a0,‹G1›,‹G2›,a3,a4,‹AZ nm›,a6,a7,a8,‹.tup [.tup (R1.map .tup),.tup (R2.map .tup)]›]=.ok (.tup WV):=λ_ _ _ _ _ _=>(mG rfl (by simp! only[p3]) ng).trans g1;refine⟨_,rfl,?_⟩;cases hb:decide ((R1.length:Int)+(R2.length:Int)>50)with
  |true=>
   left;simp! only[m7,ex,eV,m8,ty,n22,t0,ri1,t1,j0,Pa,kl,ri2,m9,al,st1,st2,hb]
  |false=>
   right;refine⟨_,⟨R1,R2,u1,u2,by have:=of_decide_eq_false hb;omega,rfl⟩,?_⟩;simp! only[m7,ex,eV,m8,ty,n22,t0,ri1,t1,j0,Pa,kl,ri2,m9,al,st1,st2,hb]
 ·rintro ρ' ⟨A,B,_,_,_,rfl⟩;rfl
end Tk58
open PySem PySem.W PyProof.Rows
theorem PySem.W.Fast.tw9002770319490088144 : True := trivial
theorem PySem.W.Fast.tw11108583734338799248 : True := trivial
theorem PySem.W.Fast.tw17096677589570196367 : True := trivial
theorem PySem.W.Fast.tw10957851416622378795 : True := trivial
theorem PySem.W.Fast.tw8898034912304877360 : True := trivial
theorem PySem.W.Fast.tw3034076180265059315 : True := trivial
theorem PySem.W.Fast.tw438502087462504441 : True := trivial
theorem PySem.W.Fast.tw775877092466166021 : True := trivial
theorem PySem.W.Fast.tw12576328100550069961 : True := trivial
theorem PySem.W.Fast.tw16888974530264115168 : True := trivial
theorem PySem.W.Fast.tw1943656089609167842 : True := trivial
theorem PySem.W.Fast.tw6021391065440122412 : True := trivial
theorem PySem.W.Fast.tw8953174654707942497 : True := trivial
theorem PySem.W.Fast.tw3727549429752089423 : True := trivial
theorem PySem.W.Fast.tw1300252175606327545 : True := trivial
theorem PySem.W.Fast.tw27394531189307714 : True := trivial
theorem PySem.W.Fast.tw2986130185529835816 : True := trivial
theorem PySem.W.Fast.tw9751312216792551268 : True := trivial
theorem PySem.W.Fast.tw1609266781926952473 : True := trivial
theorem PySem.W.Fast.tw6912357934263071316 : True := trivial
theorem PySem.W.Fast.tw265657057304918902 : True := trivial
theorem PySem.W.Fast.tw16517227203764529819 : True := trivial
theorem PySem.W.Fast.tw14698855814266679877 : True := trivial
theorem PySem.W.Fast.tw17763787539589905392 : True := trivial
theorem PySem.W.Fast.tw10682673296946593583 : True := trivial
theorem PySem.W.Fast.tw2740166205929125177 : True := trivial
theorem PySem.W.Fast.tw8038199501535271218 : True := trivial
theorem PySem.W.Fast.tw10673258642951963958 : True := trivial
theorem PySem.W.Fast.tw16381238775507642437 : True := trivial
theorem PySem.W.Fast.tw4253299502507451129 : True := trivial
theorem PySem.W.Fast.tw8100430135124577733 : True := trivial
theorem PySem.W.Fast.tw8783489690190902308 : True := trivial
theorem PySem.W.Fast.tw6426523091784031315 : True := trivial
theorem PySem.W.Fast.tw7938589279270039789 : True := trivial
theorem PySem.W.Fast.tw4190121354327084092 : True := trivial
theorem PySem.W.Fast.tw3494578108036869224 : True := trivial
theorem PySem.W.Fast.tw3712920250752580448 : True := trivial
theorem PySem.W.Fast.tw16502786297755529024 : True := trivial
theorem PySem.W.Fast.tw7300307509943887655 : True := trivial
theorem PySem.W.Fast.tw4179657607445930783 : True := trivial
theorem PySem.W.Fast.tw6905503594727022058 : True := trivial
theorem PySem.W.Fast.tw9442088214952547565 : True := trivial
theorem PySem.W.Fast.tw1737119638993213840 : True := trivial
theorem PySem.W.Fast.tw9715574190137815968 : True := trivial
theorem PySem.W.Fast.tw1594348505107973146 : True := trivial
theorem PySem.W.Fast.tw8116013929102475585 : True := trivial
theorem PySem.W.Fast.tw5880290834295449953 : True := trivial
theorem PySem.W.Fast.tw4458264081895622747 : True := trivial
theorem PySem.W.Fast.tw4508270486744745032 : True := trivial
theorem PySem.W.Fast.tw3173622572546462972 : True := trivial
theorem PySem.W.Fast.tw15401713609485983754 : True := trivial
theorem PySem.W.Fast.tw15492088956996010898 : True := trivial
theorem PySem.W.Fast.tw14676580846703538614 : True := trivial
theorem PySem.W.Fast.tw2001705599005653662 : True := trivial
theorem PySem.W.Fast.tw11422536182359183813 : True := trivial
theorem PySem.W.Fast.tw11404530657577942289 : True := trivial
theorem PySem.W.Fast.tw5427973795763272687 : True := trivial
theorem PySem.W.Fast.tw8791851171299124700 : True := trivial
theorem PySem.W.Fast.tw6244907991916269290 : True := trivial
theorem PySem.W.Fast.tw9107776557542089292 : True := trivial
theorem PySem.W.Fast.tw251717997370972718 : True := trivial
theorem PySem.W.Fast.tw12067569987671347629 : True := trivial
theorem PySem.W.Fast.tw11004479008244571313 : True := trivial
theorem PySem.W.Fast.tw17687625474626208713 : True := trivial
theorem PySem.W.Fast.tw15244225818824518973 : True := trivial
theorem PySem.W.Fast.tw13143704657996324041 : True := trivial
theorem PySem.W.Fast.tw10011603627806803451 : True := trivial
theorem PySem.W.Fast.tw9297667391180851143 : True := trivial
theorem PySem.W.Fast.tw14424736168750701051 : True := trivial
theorem PySem.W.Fast.tw1698697115692980057 : True := trivial
theorem PySem.W.Fast.tw8402780118426953402 : True := trivial
theorem PySem.W.Fast.tw3813038566075187253 : True := trivial
theorem PySem.W.Fast.tw14718250387141002853 : True := trivial
theorem PySem.W.Fast.tw5590462518987536512 : True := trivial
theorem PySem.W.Fast.tw6405746742411467066 : True := trivial
theorem PySem.W.Fast.tw5334230684533437120 : True := trivial
theorem PySem.W.Fast.tw2978270002577397097 : True := trivial
theorem PySem.W.Fast.tw11816562640106096296 : True := trivial
theorem PySem.W.Fast.tw2920335612469524721 : True := trivial
theorem PySem.W.Fast.tw1109582214046628416 : True := trivial
theorem PySem.W.Fast.tw12589598353987555110 : True := trivial
theorem PySem.W.Fast.tw14314243775321967991 : True := trivial
theorem PySem.W.Fast.tw6223433487956274822 : True := trivial
theorem PySem.W.Fast.tw15981590362578535620 : True := trivial
theorem PySem.W.Fast.tw18434506500064969937 : True := trivial
theorem PySem.W.Fast.tw116263967763856221 : True := trivial
theorem PySem.W.Fast.tw13406820742961465211 : True := trivial
theorem PySem.W.Fast.tw11116248213137469524 : True := trivial
theorem PySem.W.Fast.tw2622274240442323926 : True := trivial
theorem PySem.W.Fast.tw11719063415801768041 : True := trivial
theorem PySem.W.Fast.tw61213868461321671 : True := trivial
theorem PySem.W.Fast.tw11006305438916742541 : True := trivial
theorem PySem.W.Fast.tw1189318667434902542 : True := trivial
theorem PySem.W.Fast.tw4172642869706391944 : True := trivial
theorem PySem.W.Fast.tw6733584131824905855 : True := trivial
theorem PySem.W.Fast.tw6384722279153540930 : True := trivial
theorem PySem.W.Fast.tw6132860803897327826 : True := trivial
theorem PySem.W.Fast.tw24045738143561737 : True := trivial
theorem PySem.W.Fast.tw14094152889799678726 : True := trivial
theorem PySem.W.Fast.tw17763780636039497675 : True := trivial
theorem PySem.W.Fast.tw14469345506511629273 : True := trivial
theorem PySem.W.Fast.tw1290196026809776329 : True := trivial
theorem PySem.W.Fast.tw15552161789303329597 : True := trivial
theorem PySem.W.Fast.tw9683204438425255605 : True := trivial
theorem PySem.W.Fast.tw1004541845129856800 : True := trivial
theorem PySem.W.Fast.tw162616643826183326 : True := trivial
theorem PySem.W.Fast.tw5247944512492214070 : True := trivial
theorem PySem.W.Fast.tw1919313831125610536 : True := trivial
theorem PySem.W.Fast.tw7921143842641108964 : True := trivial
theorem PySem.W.Fast.tw6616235011939718131 : True := trivial
theorem PySem.W.Fast.tw8314247378662592249 : True := trivial
theorem PySem.W.Fast.tw12056486078398370082 : True := trivial
theorem PySem.W.Fast.tw4151063696568644444 : True := trivial
theorem PySem.W.Fast.tw2957172997147187071 : True := trivial
theorem PySem.W.Fast.tw4615583367607915814 : True := trivial
theorem PySem.W.Fast.tw10565642336061181829 : True := trivial
set_option maxRecDepth 100000 in
set_option maxHeartbeats 0 in
theorem PySem.Challenge.cw_twoglass_k58_whole_gathers_written_holds : PySem.Challenge.rw_twoglass_k58_whole_gathers_written.Holds := by
  w_on; o_law; k_head; (case hw => w_witness2)
  k_fill
  refine Tk58.walk (l := PySem.Challenge.rw_twoglass_k58_whole_gathers_written) rfl rfl (fun w h Y => ⟨PySem.W.km_in_of Y, PySem.W.km_tabs_of Y _ (List.Mem.head _)⟩) ?F Tk58.math
  case F =>
    intro w mg fa h KX G hmg
    refine' Tk58.all_mk KX G hmg ?ac0 ?ac1 ?a0 ?i0 ?l0 ?c0 ?k0 ?a1 ?i1 ?l1 ?c1 ?k1 ?a2 ?i2 ?l2 ?c2 ?k2 ?a3 ?l3 ?c3 ?k3 ?a4 ?i4 ?l4 ?c4 ?k4 ?a5 ?l5 ?c5 ?k5 ?a6 ?i6 ?l6 ?c6 ?k6 ?p0 ?q0 ?r0 ?s0 ?p1 ?q1 ?r1 ?s1 ?n1_0 ?m1 ?kp1 ?dd0 ?dd1 ?zz ?lc ?lh ?lt
    case ac0|ac1|a0|i0|l0|c0|k0|a1|i1|l1|c1|k1|a2|i2|l2|c2|k2|a3|l3|c3|k3|a4|i4|l4|c4|k4|a5|l5|c5|k5|a6|i6|l6|c6|k6|p0|q0|r0|s0|p1|q1|r1|s1|n1_0|m1|kp1 => first|delta TX.Lk;k_is|k_is
    case lc => rfl
    case lh|lt => kernel_rfl
    case dd0|dd1 => (repeat (refine' TX.KDs.mk (TX.KD.mk ?a ?l ?c ?k) ?_;(case a|l|c|k => first|delta TX.Lk;k_is|k_is)));trivial
    case zz => (repeat (refine TX.KZs.mk (by k_is) ?_));trivial
